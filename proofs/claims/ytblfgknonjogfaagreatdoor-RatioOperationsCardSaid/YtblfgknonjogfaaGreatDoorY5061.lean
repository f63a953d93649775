/-
  The um that the statement needs, 1 of 5.
-/
import Derived.Test.YtblfgknonjogfaaGreatDoorY506R3
import Derived.LaidMore
import Derived.Laws.StandIn
import Derived.Lay
import Derived.SevenTiedAt
import Derived.Test.YtblfgknonjogfaaGreatDoorCards
import Derived.Test.YtblfgknonjogfaaGreatDoorTie
import Derived.WalkKit
import Derived.WalkLawsBesides
import Derived.WalkSpells
namespace Go.Ev
open Go.Proofs
open Go.RowKit
set_option linter.unusedVariables false
set_option linter.unusedSimpArgs false
set_option maxRecDepth 100000
theorem SH:type_of% (And.intro @y3 (And.intro @imp_false (And.intro @decide_eq_true_eq (And.intro @decide_eq_false_iff_not (And.intro @Int.toNat_natCast (And.intro @rF (And.intro @s7 (And.intro @Option.getD_some.{0} (And.intro @Option.getD_none.{0} (And.intro @Bool.not_eq_true' (And.intro @Bool.not_eq_false' (And.intro @Bool.and_eq_true (And.intro @Bool.or_eq_true (And.intro @Bool.and_eq_false_iff (And.intro @Bool.or_eq_false_iff (And.intro @bne_iff_ne.{0} (And.intro @beq_iff_eq.{0} (And.intro @bne_eq_false_iff_eq.{0} (And.intro @beq_eq_false_iff_ne.{0} (And.intro @ne_eq.{1} (And.intro @not_and (And.intro @Int.not_le (And.intro @Int.not_lt (And.intro @ge_iff_le.{0} (And.intro @gt_iff_lt.{0} (And.intro @Nat.not_lt (And.intro @Nat.not_le (And.intro @Bool.not_eq_true (And.intro @Bool.not_eq_false (And.intro @Bool.true_eq_false (And.intro @Bool.false_eq_true (And.intro @not_false_eq_true @not_true_eq_false)))))))))))))))))))))))))))))))):=
 (And.intro @y3 (And.intro @imp_false (And.intro @decide_eq_true_eq (And.intro @decide_eq_false_iff_not (And.intro @Int.toNat_natCast (And.intro @rF (And.intro @s7 (And.intro @Option.getD_some.{0} (And.intro @Option.getD_none.{0} (And.intro @Bool.not_eq_true' (And.intro @Bool.not_eq_false' (And.intro @Bool.and_eq_true (And.intro @Bool.or_eq_true (And.intro @Bool.and_eq_false_iff (And.intro @Bool.or_eq_false_iff (And.intro @bne_iff_ne.{0} (And.intro @beq_iff_eq.{0} (And.intro @bne_eq_false_iff_eq.{0} (And.intro @beq_eq_false_iff_ne.{0} (And.intro @ne_eq.{1} (And.intro @not_and (And.intro @Int.not_le (And.intro @Int.not_lt (And.intro @ge_iff_le.{0} (And.intro @gt_iff_lt.{0} (And.intro @Nat.not_lt (And.intro @Nat.not_le (And.intro @Bool.not_eq_true (And.intro @Bool.not_eq_false (And.intro @Bool.true_eq_false (And.intro @Bool.false_eq_true (And.intro @not_false_eq_true @not_true_eq_false))))))))))))))))))))))))))))))))
abbrev FS (t:Nat→Int) (a:Nat):Nat→Int:=fun j=>t (j+a)
abbrev CB (m:Nat) (t:Nat→Int):Blk:= .cols m [.int .i64 t]
abbrev CI (L:List Int):Blk:= .cols L.length [.int .i64 fun j=>S.at' L j]
abbrev HB (P:Program) (f:Nat):Prop:= ∃ F,P.funcs[f]? =some F∧F.body.isSome=true∧(F.name== "runtime.NumGoroutine")=false
abbrev TT:=Bool→Prop→Prop→Prop
abbrev NI:=Nat→Int
theorem nV {i j:Nat} (h:j≠i):Nat.beq j i=false:=by
 cases hb:Nat.beq j i
 · rfl
 · exact absurd (Nat.eq_of_beq_eq_true hb) h
namespace S
def all (p:Nat→Bool) (n:Nat):Bool:=(List.range n).all p
end S
theorem og {p:Nat→Bool} {n:Nat}:S.all p n=true↔ ∀ j,j<n→p j=true:=by simp [S.all]
namespace S
def eD:List Int→Int
  | []=>0
  |x::r=>x+1000000*eD r
def fU (t:Nat→Int):Nat→Nat→Int
  |_,0=>0
  |i,k+1=>t i+1000000*fU t (i+1) k
def val (n:Nat) (t:Nat→Int):Int:=fU t 0 n
def trim:List Int→List Int
  | []=> []
  |x::r=>match trim r with
   | []=>if x=0 then [] else [x]
   |y::s=>x::y::s
def eC:Nat→Int→List Int
  |0,_=> []
  |k+1,v=>if v≤0 then [] else (v % 1000000)::eC k (v / 1000000)
def grpI (v:Int):List Int:=eC v.toNat v
theorem grp_ex: ∃ f:Int→List Int,f=grpI:=⟨grpI,rfl⟩
noncomputable def f0:Int→List Int:=Classical.choose grp_ex
theorem grp_def:f0=grpI:=Classical.choose_spec grp_ex
def eX (x:Int):Bool:=decide (0≤x∧x<1000000)
def fW (n:Nat) (t:Nat→Int):Bool:=all (fun j=>eX (t j)) n&&(decide (n=0)||decide (t (n-1)≠0))
def fX (n:Nat) (t:Nat→Int):Bool:=all (fun j=>eX (t j)) n
end S
theorem nf {x:Int}:S.eX x=true↔0≤x∧x<1000000:=decide_eq_true_iff
theorem nh {t:Nat→Int}: ∀ {k i:Nat},S.eD ((List.range' i k).map t)=S.fU t i k
  |0,_=>rfl
  |k+1,i=>by
   simp only [List.range'_succ,List.map_cons,S.eD,S.fU]
   rw [nh]
theorem sR {n:Nat} {t:Nat→Int}:S.eD (S.fb n t)=S.val n t:=by
 unfold S.fb S.val
 rw [← nh (t:=t) (k:=n) (i:=0),List.range_eq_range']
theorem yB {t u:Nat→Int}: ∀ {k i:Nat},(∀ j,i≤j→j<i+k→t j=u j)→S.fU t i k=S.fU u i k
  |0,_,_=>rfl
  |k+1,i,h=>by
   simp only [S.fU]
   rw [h i (Nat.le_refl _) (by omega),yB fun j h1 h2=>h j (by omega) (by omega)]
theorem vN {L:List Int}:S.val L.length (S.at' L)=S.eD L:=by rw [← sR,wW]
theorem yI {t:Nat→Int}: ∀ {k i:Nat},(∀ j,i≤j→j<i+k→0≤t j)→0≤S.fU t i k
  |0,_,_=>Int.le_refl _
  |k+1,i,h=>by
   have h0:=h i (Nat.le_refl _) (by omega)
   have h1:=yI (t:=t) (k:=k) (i:=i+1) fun j h1 h2=>h j (by omega) (by omega)
   simp only [S.fU]
   omega
theorem nM: ∀ {L:List Int},(∀ x ∈ L,0≤x∧x<1000000)→0≤S.eD L
  | [],_=>Int.le_refl _
  |x::r,h=>by
   have h0:=h x (by simp)
   have h1:=nM (L:=r) fun y hy=>h y (by simp [hy])
   simp only [S.eD]
   omega
theorem ru: ∀ {k m:Nat} {v:Int},v.toNat≤k→v.toNat≤m→S.eC k v=S.eC m v
  |0,0,_,_,_=>rfl
  |0,m+1,v,h1,_=>by simp only [S.eC]; rw [if_pos (by omega)]
  |k+1,0,v,_,h2=>by simp only [S.eC]; rw [if_pos (by omega)]
  |k+1,m+1,v,h1,h2=>by
   simp only [S.eC]
   split
   · rfl
   · rw [ru (k:=k) (m:=m) (by omega) (by omega)]
theorem yQ:S.f0 0= []:=by rw [S.grp_def]; rfl
theorem yS {v:Int} (h:v≤0):S.f0 v= []:=by
 rw [S.grp_def]
 unfold S.grpI
 rw [show v.toNat=0 by omega]
 rfl
theorem xN {v:Int} (h:0<v):S.f0 v=(v % 1000000)::S.f0 (v / 1000000):=by
 rw [S.grp_def]
 unfold S.grpI
 rw [show v.toNat=(v.toNat-1)+1 by omega]
 simp only [S.eC]
 rw [if_neg (by omega),ru (k:=v.toNat-1) (m:=(v / 1000000).toNat) (by omega) (Nat.le_refl _)]
theorem wZ {x v:Int} (hx:0≤x∧x<1000000) (hv:0≤v) (h:x≠0∨0<v):S.f0 (x+1000000*v)=x::S.f0 v:=by
 rw [xN (by omega),show (x+1000000*v) % 1000000=x by omega,show (x+1000000*v) / 1000000=v by omega]
theorem xK: ∀ {L:List Int},(∀ x ∈ L,0≤x∧x<1000000)→S.trim L=S.f0 (S.eD L)
  | [],_=>yQ.symm
  | x ::r,h=>by
   have h0:=h x (by simp)
   have hr: ∀ y ∈ r,0≤y∧y<1000000:=fun y hy=>h y (by simp [hy])
   have h1:=nM hr
   have ih:=xK hr
   simp only [S.trim,S.eD]
   rw [ih]
   rcases Int.lt_or_eq_of_le h1 with h2|h2
   · rw [wZ h0 h1 (.inr h2),xN h2]
   · rw [← h2,yQ]
     by_cases hx:x=0
     · subst hx; rw [show (0:Int)+1000000*0=0 from rfl,yQ]; rfl
     · simp only [if_neg hx]
       rw [wZ h0 (Int.le_refl _) (.inl hx),yQ]
theorem uV {v:Int} (h:0≤v):S.eD (S.f0 v)=v:=by
 have key: ∀ (n:Nat) (v:Int),0≤v→v.toNat≤n→S.eD (S.f0 v)=v:=by
  intro n
  induction n with
  |zero=>intro v h0 h1; rw [yS (by omega)]; simp only [S.eD]; omega
  | succ n ih=>
   intro v h0 h1
   rcases Int.lt_or_eq_of_le h0 with h2|h2
   · rw [xN h2]
     simp only [S.eD]
     rw [ih _ (by omega) (by omega)]
     omega
   · rw [← h2,yQ]; rfl
 exact key _ v h (Nat.le_refl _)
theorem qC {v:Int}: ∀ x ∈ S.f0 v,0≤x∧x<1000000:=by
 have key: ∀ (n:Nat) (v:Int),v.toNat≤n→ ∀ x ∈ S.f0 v,0≤x∧x<1000000:=by
  intro n
  induction n with
  |zero=>intro v h1 x hx; rw [yS (by omega)] at hx; cases hx
  | succ n ih=>
   intro v h1 x hx
   by_cases h2:0<v
   · rw [xN h2] at hx
     rcases List.mem_cons.mp hx with rfl|hx
     · omega
     · exact ih _ (by omega) x hx
   · rw [yS (by omega)] at hx; cases hx
 exact key _ v (Nat.le_refl _)
theorem s9: ∀ {L:List Int},S.trim (L++ [0])=S.trim L
  | []=>rfl
  |x::r=>by simp only [List.cons_append,S.trim]; rw [s9]
theorem tF: ∀ {L:List Int} {x:Int},x≠0→S.trim (L++ [x])=L++ [x]
  | [],x,h=>by simp [S.trim,h]
  |y::r,x,h=>by
   simp only [List.cons_append,S.trim]
   rw [tF h]
   cases hr:r++ [x] with
   |nil=>simp at hr
   |cons a c=>rfl
theorem wC {L:List Int} {x:Int}:S.fZ L x=L++ [x]:=by simp [S.fZ]
theorem zp {n:Nat} {t:Nat→Int}:S.fW n t=true↔(∀ j,j<n→0≤t j∧t j<1000000)∧(n=0∨t (n-1)≠0):=by
 unfold S.fW
 rw [Bool.and_eq_true,Bool.or_eq_true,og,decide_eq_true_eq,decide_eq_true_eq]
 simp only [nf]
theorem yL {n:Nat} {t:Nat→Int}:S.fX n t=true↔ ∀ j,j<n→0≤t j∧t j<1000000:=by
 unfold S.fX
 rw [og]
 simp only [nf]
theorem zi {n:Nat} {t:Nat→Int} (h:S.fW n t=true):S.fX n t=true:=yL.mpr (zp.mp h).1
theorem nT {n:Nat} {t:Nat→Int} {x:Int} (h:x ∈ S.fb n t): ∃ j,j<n∧x=t j:=by
 unfold S.fb at h
 simp only [List.mem_map,List.mem_range] at h
 obtain ⟨j,h1,h2⟩:=h
 exact ⟨j,h1,h2.symm⟩
theorem kM {n:Nat} {t:Nat→Int} (h:S.fW n t=true):S.fb n t=S.f0 (S.val n t):=by
 obtain ⟨h1,h2⟩:=zp.mp h
 rw [← sR,← xK fun x hx=>by obtain ⟨j,hj,rfl⟩:=nT hx; exact h1 j hj]
 rcases h2 with h2|h2
 · subst h2; rfl
 · cases n with
   |zero=>rfl
   |succ n=>rw [uN,wC,tF (by simpa using h2)]
theorem vJ {n:Nat} {t:Nat→Int} (h:S.fX n t=true):S.trim (S.fb n t)=S.f0 (S.val n t):=by
 rw [← sR]
 exact xK fun x hx=>by obtain ⟨j,hj,rfl⟩:=nT hx; exact yL.mp h j hj
theorem yM {n:Nat} {t:Nat→Int} (h:S.fX n t=true):0≤S.val n t:=yI fun j _ hj=>(yL.mp h j (by omega)).1
theorem yV {n:Nat} {t:Nat→Int} (h:S.fW n t=true) (hn:0<n):0<S.val n t:=by
 rcases Int.lt_or_eq_of_le (yM (zi h)) with h1|h1
 · exact h1
 · have:=kM h
   rw [← h1,yQ] at this
   have h2:=congrArg List.length this
   rw [zZ] at h2
   exact absurd h2 (by simp; omega)
theorem yc {v:Int} (h:0<v):0<(S.f0 v).length:=by rw [xN h]; simp
theorem yE {v:Int}:S.fW (S.f0 v).length (S.at' (S.f0 v))=true:=by
 rw [zp]
 refine ⟨fun j hj=>qC _ (by rw [tX hj]; exact List.getElem_mem _),?_⟩
 by_cases hv:0<v
 · right
   have key: ∀ (n:Nat) (v:Int),0<v→v.toNat≤n→S.at' (S.f0 v) ((S.f0 v).length-1)≠0:=by
    intro n
    induction n with
    |zero=>intro v h0 h1; omega
    | succ n ih=>
     intro v h0 h1
     rw [xN h0]
     by_cases h2:0<v / 1000000
     · have h3:=ih _ h2 (by omega)
       have h4:=yc h2
       have e:S.at' (v % 1000000::S.f0 (v / 1000000)) ((v % 1000000::S.f0 (v / 1000000)).length-1)=S.at' (S.f0 (v / 1000000)) ((S.f0 (v / 1000000)).length-1):=by
        simp only [List.length_cons,Nat.add_sub_cancel]
        rw [tX (by simp),tX (by omega)]
        rw [List.getElem_cons]
        rw [dif_neg (by omega)]
       rw [e]
       exact h3
     · rw [yS (by omega)]
       simp [S.at']
       omega
   exact key _ v hv (Nat.le_refl _)
 · left
   rw [yS (by omega)]
   rfl
namespace S
def eW (n:Nat) (t:Nat→Int):Nat:=(trim (fb n t)).length
def fv (a b:Int):Int:=if a<b then-1 else if a>b then 1 else 0
end S
theorem vf: ∀ {L:List Int},(S.trim L).length≤L.length∧S.trim L=L.take (S.trim L).length
  | []=>⟨Nat.le_refl _,rfl⟩
  | x ::r=>by
   obtain ⟨h1,h2⟩:=vf (L:=r)
   simp only [S.trim]
   cases hr:S.trim r with
   |nil=>
    simp only
    split
    · exact ⟨Nat.zero_le _,rfl⟩
    · exact ⟨by simp,by simp⟩
   |cons a c=>
    simp only
    rw [hr] at h1 h2
    refine ⟨by simpa using h1,?_⟩
    simp only [List.length_cons,List.take_succ_cons]
    rw [List.length_cons] at h2
    rw [← h2]
theorem jk {n:Nat} {t:Nat→Int}:S.fb (S.eW n t) t=S.trim (S.fb n t):=by
 have h:=(vf (L:=S.fb n t)).2
 have hl:=(vf (L:=S.fb n t)).1
 rw [zZ] at hl
 rw [h]
 unfold S.eW
 generalize (S.trim (S.fb n t)).length=k at*
 unfold S.fb
 rw [← List.map_take,List.take_range]
 rw [Nat.min_eq_left hl]
theorem re {n:Nat} {t:Nat→Int} (h:t n=0):S.trim (S.fb (n+1) t)=S.trim (S.fb n t):=by rw [uN,wC,h,s9]
theorem tL {n:Nat} {t:Nat→Int} (h:t n≠0):S.trim (S.fb (n+1) t)=S.fb (n+1) t:=by rw [uN,wC,tF h]
theorem uR {L:List Int}:S.trim (S.fb L.length (S.at' L))=S.trim L:=by rw [wW]
theorem wi {t u:Nat→Int}: ∀ {m k i:Nat},m<k→(∀ j,i≤j→j<i+m→0≤t j∧t j<1000000)→(∀ j,i≤j→j<i+k→0≤u j∧u j<1000000)→u (i+k-1)≠0→S.fU t i m<S.fU u i k
  |m,0,i,h,_,_,_=>by omega
  | 0,k+1,i,_,_,hu,hl=>by
   simp only [S.fU]
   have h0:=hu i (Nat.le_refl _) (by omega)
   have h1:=yI (t:=u) (k:=k) (i:=i+1) fun j h1 h2=>(hu j (by omega) (by omega)).1
   cases k with
   |zero=>simp only [Nat.zero_add,Nat.add_sub_cancel] at hl; omega
   |succ k=>
    have ih:=wi (t:=u) (u:=u) (m:=0) (k:=k+1) (i:=i+1) (by omega) (fun j h1 h2=>by omega) (fun j h1 h2=>hu j (by omega) (by omega)) (by rw [show i+1+(k+1)-1=i+(k+1+1)-1 by omega]; exact hl)
    simp only [S.fU] at ih ⊢
    omega
  |m+1,k+1,i,h,ht,hu,hl=>by
   have ih:=wi (t:=t) (u:=u) (m:=m) (k:=k) (i:=i+1) (by omega) (fun j h1 h2=>ht j (by omega) (by omega)) (fun j h1 h2=>hu j (by omega) (by omega)) (by rw [show i+1+k-1=i+(k+1)-1 by omega]; exact hl)
   have h0:=hu i (Nat.le_refl _) (by omega)
   have h1:=ht i (Nat.le_refl _) (by omega)
   simp only [S.fU]
   omega
theorem vk {n m:Nat} {t u:Nat→Int} (h:m<n) (ht:S.fW m t=true) (hu:S.fW n u=true):S.val m t<S.val n u:=by
 obtain ⟨h1,h2⟩:=zp.mp hu
 exact wi h (fun j _ hj=>(zp.mp ht).1 j (by omega)) (fun j _ hj=>h1 j (by omega)) (by rw [Nat.zero_add]; exact h2.resolve_left (by omega))
theorem wY {t u:Nat→Int} {n:Nat} (ht: ∀ j,j<n→0≤t j∧t j<1000000) (hu: ∀ j,j<n→0≤u j∧u j<1000000): ∀ {i k:Nat},i+k=n→S.fU t i k<S.fU u i k→S.val n t<S.val n u
  |0,k,h,hl=>by rw [Nat.zero_add] at h; subst h; exact hl
  |i+1,k,h,hl=>by
   have h1:=ht i (by omega)
   have h2:=hu i (by omega)
   refine wY ht hu (i:=i) (k:=k+1) (by omega) ?_
   simp only [S.fU]
   omega
section
variable (fR:TT) (fS:KS) (fT:KR) (np mp:Nat) (tp:NI)
inductive St69 where
 |h0 (x0:List Int)
abbrev Rt69:=List Int
noncomputable def V69 (r:Rt69):PV:= .own 0 1 r.length
noncomputable def N69 (r:Rt69):List Blk:= []
noncomputable def W69 (np mp:Nat) (tp:Nat→Int) (r:Rt69):Nat→Blk:=fun n=>bif Nat.beq n 0 then Blk.cols (List.length r) [Col.int IntKind.i64 fun j=>S.at' r j] else .dead
noncomputable def I69:St69→Hd
  | .h0 x0=>⟨hd Tryz.f106 0,[.own 0 1 x0.length],[[],[(0,(true,CI x0))]],1⟩
noncomputable def q69 (np mp:Nat) (tp:NI):St69→Option (St69⊕Rt69)| .h0 x0=>bif (decide ((↑(x0.length):Int)>0)) then (bif (lim .i64 ((↑(x0.length):Int)-1)) then (bif (decide ((0:Int)≤(↑(x0.length):Int)-1∧(↑(x0.length):Int)-1<(↑(x0.length):Int))) then (bif (decide (((↑(x0.length):Int)-1).toNat<x0.length)) then (bif (S.at' x0 ((↑(x0.length):Int)-1).toNat==0) then (bif (decide ((0:Int)≤(↑(x0.length):Int)-1∧(↑(x0.length):Int)-1≤(↑(x0.length):Int))) then (some (.inl (.h0 (S.fb ((↑(x0.length):Int)-1).toNat fun j=>S.at' x0 j)))) else none) else (some (.inr x0))) else none) else none) else none) else (some (.inr x0))
noncomputable def p69 (np mp:Nat) (tp:NI):Option (St69⊕Rt69):=some (.inl (.h0 (S.fb np fun j=>tp j)))
def Te69:Prop:=fS (hd Tryz.f106 0) ([.own 0 1 np]) ([[(0,true,CB np tp)]]) 1
theorem te69:run fR Tryz.env true noX true 400 ⟨106,[.cd (zU Tryz.f106).body],z8 0 [.own 0 1 np],[[],[(0,(true,CB np tp))]],1⟩ (zr 1 [0] fS fT)=
 Te69 fS np tp:=by kernel_rfl
def T69_0 (x0:List Int):Prop:=fR (decide ((↑(x0.length):Int)>0)) (fR (lim .i64 ((↑(x0.length):Int)-1)) (fR (decide ((0:Int)≤(↑(x0.length):Int)-1∧(↑(x0.length):Int)-1<(↑(x0.length):Int))) (fR (decide (((↑(x0.length):Int)-1).toNat<x0.length)) (fR (S.at' x0 ((↑(x0.length):Int)-1).toNat==0) (fR (lim .i64 ((↑(x0.length):Int)-1)) (fR (decide ((0:Int)≤(↑(x0.length):Int)-1∧(↑(x0.length):Int)-1≤(↑(x0.length):Int))) (fS (hd Tryz.f106 0) ([.own 0 1 ((↑(x0.length):Int)-1).toNat]) ([[(0,true,CI x0)]]) 1) False) False) (fT (.own 0 1 x0.length) ([[(0,true,CI x0)]]) 1)) False) False) False) (fT (.own 0 1 x0.length) ([[(0,true,CI x0)]]) 1)
theorem t69_0 (x0:List Int):run fR Tryz.env true noX true 400 ⟨106,hd Tryz.f106 0,yd [0] [.own 0 1 x0.length],[[],[(0,(true,CI x0))]],1⟩ (zr 1 [0] fS fT)=
 T69_0 fR fS fT x0:=by kernel_rfl
noncomputable abbrev J69:Rt69→zS:=fun r=> [yC (1+1) ((N69) r)++ [(0,(true,((W69 np mp tp) r 0)))]]
attribute [local irreducible] Int.subNatNat in
theorem a69 {r:Rt69} (h:zY ((q69 np mp tp)) ((p69 np mp tp)) r):zn Tryz.prog 106 [.own 0 1 np] [[(0,(true,CB np tp))]] 1 ((V69) r) ((J69 np mp tp) r) 400∧HB Tryz.prog 106:=by
 refine zf Tryz.envOk Tryz.mixed yz ((I69)) ((V69)) (J69 np mp tp) (fn:=zU Tryz.f106) (ts:= [0]) (n:=400) rfl (by decide) (by simp) (zW rfl) ?_ ?_ ?_ h
 · intro s; cases s<;>exact ⟨yo _ _,by simp [I69],zW rfl,Nat.le_of_ble_eq_true rfl⟩
 · intro fS fT x hS hR h
   refine Holds.eq (te69 cond fS fT np tp) ?_
   unfold Te69
   exact ze hS _ h (fun n=>n) rfl rfl rfl ⟨(zX (zC rfl) rfl zZ),trivial⟩ rfl (zL (zC rfl) rfl (Nat.le_of_eq zZ) (zN (fun _ hj=>z4 (fun (t:Int)=>t) hj) zM) zE)
 · intro fS fT x hS hR s h
   cases s with
   |h0 x0=>
    refine Holds.eq (t69_0 cond fS fT x0) ?_
    unfold T69_0
    rw [q69] at h
    exact zA h (fun c0 h=>zA h (fun c1 h=>zA h (fun c2 h=>zA h (fun c3 h=>zA h (fun c4 h=>zJ c1 (zA h (fun c5 h=>ze hS _ h (fun n=>n) rfl rfl rfl ⟨(zX (zC rfl) rfl zZ),trivial⟩ rfl (zL (zC rfl) rfl (by first|exact Nat.le_of_eq zZ|(simp only [zZ,yG]; omega)) (zN (fun _ hj=>z4 (fun (t:Int)=>t) hj) zM) zE)) (fun c5 h=>zF h))) (fun c4 h=>zV hR _ h (fun n=>n) rfl rfl rfl (zX (zC rfl) rfl rfl) rfl (zL (zC rfl) rfl (Nat.le_of_eq rfl) (zN (fun _ _=>rfl) zM) zE))) (fun c3 h=>zF h)) (fun c2 h=>zF h)) (fun c1 h=>zF h)) (fun c0 h=>zV hR _ h (fun n=>n) rfl rfl rfl (zX (zC rfl) rfl rfl) rfl (zL (zC rfl) rfl (Nat.le_of_eq rfl) (zN (fun _ _=>rfl) zM) zE))
end
noncomputable abbrev w69 {α:Type} (g:Nat→Nat→(Nat→Int)→α) (x:(Nat×Nat×(Nat→Int)×Unit)×Unit):α:=g x.1.1 x.1.2.1 x.1.2.2.1
noncomputable def k69:Con:=⟨106,[.one (.own [.int .i64])],w69 (fun np mp tp=>decide (np≤1000000)),w69 (fun np mp tp=>(V69) (S.trim (S.fb np tp))),w69 (fun np mp tp=>(N69) (S.trim (S.fb np tp))),w69 (fun np mp tp=>(W69 np mp tp) (S.trim (S.fb np tp)))⟩
theorem s69' (np mp:Nat) (tp:Nat→Int): ∀ (n:Nat) (L:List Int),L.length=n→n≤1000000→Comes (q69 np mp tp) (.h0 L) (S.trim L):=by
 intro n
 induction n with
 |zero=>
  intro L hL hn
  obtain rfl:L= []:=List.length_eq_zero_iff.mp hL
  apply Comes.of
  show zY _ _ _
  (first|rw [q69]|unfold q69)
  repeat' (first|with_reducible refine zP (fun h=> ?_) (fun h=> ?_)<;>(try simp only [SH] at h)|exact zK.mpr (by omega))
  all_goals first|(exfalso; simp at*; done)|exact zG.mpr rfl
 | succ n ih=>
  intro L hL hn
  have e1:((L.length:Int)-1).toNat=n:=by omega
  have ih:=ih (S.fb n (S.at' L)) zZ (by omega)
  have e2:S.trim L=S.trim (S.fb (n+1) (S.at' L)):=by rw [← hL,wW]
  rw [e2]
  by_cases h0:S.at' L n=0
  · rw [re h0]
    apply Comes.of
    show zY _ _ _
    (first|rw [q69]|unfold q69)
    repeat' (first|with_reducible refine zP (fun h=> ?_) (fun h=> ?_)<;>(try simp only [SH,e1] at h)|exact zK.mpr (by omega))
    all_goals first|(exfalso; omega)|(rw [e1]; exact ih)
  · rw [tL h0,← hL,wW]
    apply Comes.of
    show zY _ _ _
    (first|rw [q69]|unfold q69)
    repeat' (first|with_reducible refine zP (fun h=> ?_) (fun h=> ?_)<;>(try simp only [SH,e1] at h)|exact zK.mpr (by omega))
    all_goals first|(exfalso; omega)|exact zG.mpr rfl
theorem s69 (np mp:Nat) (tp:Nat→Int) (hp:np≤1000000):zY ((q69 np mp tp)) ((p69 np mp tp)) (S.trim (S.fb np tp)):=by
 exact s69' np mp tp np (S.fb np tp) zZ hp
theorem k69_ok:k69.ok Tryz.prog:=by
 intro x hx
 obtain ⟨⟨np,mp,tp,_⟩,_⟩:=x
 obtain ⟨h1,h2⟩:=a69 np mp tp (s69 np mp tp (zm hx rfl))
 exact ⟨⟨400,(by decide:1+1+0≤400),h1⟩,h2⟩
section
variable (fR:TT) (fS:KS) (fT:KR) (ap np mp:Nat) (tp:NI)
inductive St69v where
 |h0 (x0:Nat) (x1:Nat)
abbrev Rt69v:=Nat×Nat
noncomputable def V69v (r:Rt69v):PV:= .loose (PA.mk 0 1 r.1 0) r.2
noncomputable def N69v (r:Rt69v):List Blk:= []
noncomputable def I69v:St69v→Hd
  | .h0 x0 x1=>⟨hd Tryz.f106 0,[.loose ⟨0,1,x0,0⟩ x1],[[],[(0,(false,CB mp tp))]],1⟩
noncomputable def q69v (ap np mp:Nat) (tp:NI):St69v→Option (St69v⊕Rt69v)| .h0 x0 x1=>bif (decide ((x1:Int)>0)) then (bif (lim .i64 ((x1:Int)-1)) then (bif (decide ((0:Int)≤(x1:Int)-1∧(x1:Int)-1<(x1:Int))) then (bif (decide (((x1:Int)-1).toNat+x0<mp)) then (bif (tp (((x1:Int)-1).toNat+x0)==0) then (bif (decide ((0:Int)≤Option.getD Option.none (0:Int)∧(0:Int)≤(x1:Int)-1∧(x1:Int)-1≤(x1:Int))) then (some (.inl (.h0 (0+x0) ((x1:Int)-1).toNat))) else none) else (some (.inr (x0,x1)))) else none) else none) else none) else (some (.inr (x0,x1)))
noncomputable def p69v (ap np mp:Nat) (tp:NI):Option (St69v⊕Rt69v):=some (.inl (.h0 ap np))
def Te69v:Prop:=fS (hd Tryz.f106 0) ([.loose ⟨0,1,ap,0⟩ np]) ([[(0,false,CB mp tp)]]) 1
theorem te69v:run fR Tryz.env true noX true 400 ⟨106,[.cd (zU Tryz.f106).body],z8 0 [.loose ⟨0,1,ap,0⟩ np],[[],[(0,(false,CB mp tp))]],1⟩ (zr 1 [0] fS fT)=
 Te69v fS ap np mp tp:=by kernel_rfl
def T69v_0 (x0 x1:Nat):Prop:=fR (decide ((x1:Int)>0)) (fR (lim .i64 ((x1:Int)-1)) (fR (decide ((0:Int)≤(x1:Int)-1∧(x1:Int)-1<(x1:Int))) (fR (decide (((x1:Int)-1).toNat+x0<mp)) (fR (tp (((x1:Int)-1).toNat+x0)==0) (fR (lim .i64 ((x1:Int)-1)) (fR (decide ((0:Int)≤Option.getD Option.none (0:Int)∧(0:Int)≤(x1:Int)-1∧(x1:Int)-1≤(x1:Int))) (fS (hd Tryz.f106 0) ([.loose (PA.mk 0 1 (0+x0) 0) ((x1:Int)-1).toNat]) ([[(0,false,CB mp tp)]]) 1) False) False) (fT (.loose ⟨0,1,x0,0⟩ x1) ([[(0,false,CB mp tp)]]) 1)) False) False) False) (fT (.loose ⟨0,1,x0,0⟩ x1) ([[(0,false,CB mp tp)]]) 1)
theorem t69v_0 (x0 x1:Nat):run fR Tryz.env true noX true 400 ⟨106,hd Tryz.f106 0,yd [0] [.loose ⟨0,1,x0,0⟩ x1],[[],[(0,(false,CB mp tp))]],1⟩ (zr 1 [0] fS fT)=
 T69v_0 fR fS fT mp tp x0 x1:=by kernel_rfl
noncomputable abbrev J69v:Rt69v→zS:=fun r=> [yC (1+1) ((N69v) r)++ [(0,(false,CB mp tp))]]
attribute [local irreducible] Int.subNatNat in
theorem a69v {r:Rt69v} (h:zY ((q69v ap np mp tp)) ((p69v ap np mp tp)) r):zn Tryz.prog 106 [.loose ⟨0,1,ap,0⟩ np] [[(0,(false,CB mp tp))]] 1 ((V69v) r) ((J69v mp tp) r) 400∧HB Tryz.prog 106:=by
 refine zf Tryz.envOk Tryz.mixed yz ((I69v mp tp)) ((V69v)) (J69v mp tp) (fn:=zU Tryz.f106) (ts:= [0]) (n:=400) rfl (by decide) (by simp) (zW rfl) ?_ ?_ ?_ h
 · intro s; cases s<;>exact ⟨yo _ _,by simp [I69v],zW rfl,Nat.le_of_ble_eq_true rfl⟩
 · intro fS fT x hS hR h
   refine Holds.eq (te69v cond fS fT ap np mp tp) ?_
   unfold Te69v
   exact ze hS _ h (fun n=>n) rfl rfl rfl ⟨(zQ (zC rfl) rfl rfl rfl),trivial⟩ rfl (zB (zC rfl) rfl rfl zE)
 · intro fS fT x hS hR s h
   cases s with
   |h0 x0 x1=>
    refine Holds.eq (t69v_0 cond fS fT mp tp x0 x1) ?_
    unfold T69v_0
    rw [q69v] at h
    exact zA h (fun c0 h=>zA h (fun c1 h=>zA h (fun c2 h=>zA h (fun c3 h=>zA h (fun c4 h=>zJ c1 (zA h (fun c5 h=>ze hS _ h (fun n=>n) rfl rfl rfl ⟨(zQ (zC rfl) rfl rfl rfl),trivial⟩ rfl (zB (zC rfl) rfl rfl zE)) (fun c5 h=>zF h))) (fun c4 h=>zV hR _ h (fun n=>n) rfl rfl rfl (zQ (zC rfl) rfl rfl rfl) rfl (zB (zC rfl) rfl rfl zE))) (fun c3 h=>zF h)) (fun c2 h=>zF h)) (fun c1 h=>zF h)) (fun c0 h=>zV hR _ h (fun n=>n) rfl rfl rfl (zQ (zC rfl) rfl rfl rfl) rfl (zB (zC rfl) rfl rfl zE))
end
noncomputable abbrev w69v {α:Type} (g:Nat→Nat→Nat→(Nat→Int)→α) (x:(Nat×Nat×Nat×(Nat→Int)×Unit)×Unit):α:=g x.1.1 x.1.2.1 x.1.2.2.1 x.1.2.2.2.1
noncomputable def k69v:Con:=⟨106,[.one (.list [.int .i64])],w69v (fun ap np mp tp=>decide (ap+np≤mp∧np≤1000000)),w69v (fun ap np mp tp=>(V69v) ((ap,S.eW np (FS tp ap)))),w69v (fun ap np mp tp=>(N69v) ((ap,S.eW np (FS tp ap)))),fun _ _=> .dead⟩
theorem s69v' (ap np mp:Nat) (tp:Nat→Int) (hp:ap+np≤mp∧np≤1000000): ∀ (n:Nat),n≤np→Comes (q69v ap np mp tp) (.h0 ap n) (ap,S.eW n (fun j=>tp (j+ap))):=by
 obtain ⟨hp1,hp2⟩:=hp
 intro n
 induction n with
 |zero=>
  intro hn
  apply Comes.of
  show zY _ _ _
  (first|rw [q69v]|unfold q69v)
  repeat' (first|with_reducible refine zP (fun h=> ?_) (fun h=> ?_)<;>(try simp only [SH] at h)|exact zK.mpr (by omega))
  all_goals first|(exfalso; omega)|exact zG.mpr rfl
 | succ n ih=>
  intro hn
  have ih:=ih (by omega)
  have e1:(((n+1:Nat):Int)-1).toNat=n:=by omega
  unfold S.eW at ih ⊢
  by_cases h0:tp (n+ap)=0
  · rw [re (t:=fun j=>tp (j+ap)) h0]
    apply Comes.of
    show zY _ _ _
    (first|rw [q69v]|unfold q69v)
    repeat' (first|with_reducible refine zP (fun h=> ?_) (fun h=> ?_)<;>(try simp only [SH,e1] at h)|exact zK.mpr (by omega))
    all_goals first|(exfalso; omega)|(rw [Nat.zero_add,e1]; exact ih)
  · rw [tL (t:=fun j=>tp (j+ap)) h0,zZ]
    apply Comes.of
    show zY _ _ _
    (first|rw [q69v]|unfold q69v)
    repeat' (first|with_reducible refine zP (fun h=> ?_) (fun h=> ?_)<;>(try simp only [SH,e1] at h)|exact zK.mpr (by omega))
    all_goals first|(exfalso; omega)|exact zG.mpr rfl
theorem s69v (ap np mp:Nat) (tp:Nat→Int) (hp:ap+np≤mp∧np≤1000000):zY ((q69v ap np mp tp)) ((p69v ap np mp tp)) ((ap,S.eW np (fun j=>tp (j+ap)))):=by
 exact s69v' ap np mp tp hp np (Nat.le_refl _)
theorem k69v_ok:k69v.ok Tryz.prog:=by
 intro x hx
 obtain ⟨⟨ap,np,mp,tp,_⟩,_⟩:=x
 obtain ⟨h1,h2⟩:=a69v ap np mp tp (s69v ap np mp tp (zm hx rfl))
 exact ⟨⟨400,(by decide:1+1+0≤400),h1⟩,h2⟩
section
variable (fR:TT) (fS:KS) (fT:KR) (np mp:Nat) (tp:NI)
abbrev St65:=St69
abbrev Rt65:=List Int
noncomputable def V65 (r:Rt65):PV:= .own 0 1 r.length
noncomputable def N65 (r:Rt65):List Blk:= []
noncomputable def W65 (np mp:Nat) (tp:Nat→Int) (r:Rt65):Nat→Blk:=fun n=>bif Nat.beq n 0 then Blk.cols (List.length r) [Col.int IntKind.i64 fun j=>S.at' r j] else .dead
noncomputable def I65:St65→Hd
  | .h0 x0=>⟨hd Tryz.f120 0,[.own 0 1 x0.length],[[],[(0,(true,CI x0))]],1⟩
noncomputable def q65 (np mp:Nat) (tp:NI):St65→Option (St65⊕Rt65):=q69 np mp tp
noncomputable def p65 (np mp:Nat) (tp:NI):Option (St65⊕Rt65):=p69 np mp tp
def Te65:Prop:=fS (hd Tryz.f120 0) ([.own 0 1 np]) ([[(0,true,CB np tp)]]) 1
theorem te65:run fR Tryz.env true noX true 400 ⟨120,[.cd (zU Tryz.f120).body],z8 0 [.own 0 1 np],[[],[(0,(true,CB np tp))]],1⟩ (zr 1 [0] fS fT)=
 Te65 fS np tp:=by kernel_rfl
def T65_0 (x0:List Int):Prop:=fR (decide ((↑(x0.length):Int)>0)) (fR (lim .i64 ((↑(x0.length):Int)-1)) (fR (decide ((0:Int)≤(↑(x0.length):Int)-1∧(↑(x0.length):Int)-1<(↑(x0.length):Int))) (fR (decide (((↑(x0.length):Int)-1).toNat<x0.length)) (fR (S.at' x0 ((↑(x0.length):Int)-1).toNat==0) (fR (lim .i64 ((↑(x0.length):Int)-1)) (fR (decide ((0:Int)≤(↑(x0.length):Int)-1∧(↑(x0.length):Int)-1≤(↑(x0.length):Int))) (fS (hd Tryz.f120 0) ([.own 0 1 ((↑(x0.length):Int)-1).toNat]) ([[(0,true,CI x0)]]) 1) False) False) (fT (.own 0 1 x0.length) ([[(0,true,CI x0)]]) 1)) False) False) False) (fT (.own 0 1 x0.length) ([[(0,true,CI x0)]]) 1)
theorem t65_0 (x0:List Int):run fR Tryz.env true noX true 400 ⟨120,hd Tryz.f120 0,yd [0] [.own 0 1 x0.length],[[],[(0,(true,CI x0))]],1⟩ (zr 1 [0] fS fT)=
 T65_0 fR fS fT x0:=by kernel_rfl
noncomputable abbrev J65:Rt65→zS:=fun r=> [yC (1+1) ((N65) r)++ [(0,(true,((W65 np mp tp) r 0)))]]
attribute [local irreducible] Int.subNatNat in
theorem a65 {r:Rt65} (h:zY ((q65 np mp tp)) ((p65 np mp tp)) r):zn Tryz.prog 120 [.own 0 1 np] [[(0,(true,CB np tp))]] 1 ((V65) r) ((J65 np mp tp) r) 400∧HB Tryz.prog 120:=by
 refine zf Tryz.envOk Tryz.mixed yz ((I65)) ((V65)) (J65 np mp tp) (fn:=zU Tryz.f120) (ts:= [0]) (n:=400) rfl (by decide) (by simp) (zW rfl) ?_ ?_ ?_ h
 · intro s; cases s<;>exact ⟨yo _ _,by simp [I65],zW rfl,Nat.le_of_ble_eq_true rfl⟩
 · intro fS fT x hS hR h
   refine Holds.eq (te65 cond fS fT np tp) ?_
   unfold Te65
   exact ze hS _ h (fun n=>n) rfl rfl rfl ⟨(zX (zC rfl) rfl zZ),trivial⟩ rfl (zL (zC rfl) rfl (Nat.le_of_eq zZ) (zN (fun _ hj=>z4 (fun (t:Int)=>t) hj) zM) zE)
 · intro fS fT x hS hR s h
   cases s with
   |h0 x0=>
    refine Holds.eq (t65_0 cond fS fT x0) ?_
    unfold T65_0
    rw [q65,q69] at h
    exact zA h (fun c0 h=>zA h (fun c1 h=>zA h (fun c2 h=>zA h (fun c3 h=>zA h (fun c4 h=>zJ c1 (zA h (fun c5 h=>ze hS _ h (fun n=>n) rfl rfl rfl ⟨(zX (zC rfl) rfl zZ),trivial⟩ rfl (zL (zC rfl) rfl (by first|exact Nat.le_of_eq zZ|(simp only [zZ,yG]; omega)) (zN (fun _ hj=>z4 (fun (t:Int)=>t) hj) zM) zE)) (fun c5 h=>zF h))) (fun c4 h=>zV hR _ h (fun n=>n) rfl rfl rfl (zX (zC rfl) rfl rfl) rfl (zL (zC rfl) rfl (Nat.le_of_eq rfl) (zN (fun _ _=>rfl) zM) zE))) (fun c3 h=>zF h)) (fun c2 h=>zF h)) (fun c1 h=>zF h)) (fun c0 h=>zV hR _ h (fun n=>n) rfl rfl rfl (zX (zC rfl) rfl rfl) rfl (zL (zC rfl) rfl (Nat.le_of_eq rfl) (zN (fun _ _=>rfl) zM) zE))
end
noncomputable def k65:Con:=⟨120,[.one (.own [.int .i64])],w69 (fun np mp tp=>decide (np≤1000000)),w69 (fun np mp tp=>(V65) (S.trim (S.fb np tp))),w69 (fun np mp tp=>(N65) (S.trim (S.fb np tp))),w69 (fun np mp tp=>(W65 np mp tp) (S.trim (S.fb np tp)))⟩
theorem s65' (np mp:Nat) (tp:Nat→Int): ∀ (n:Nat) (L:List Int),L.length=n→n≤1000000→Comes (q65 np mp tp) (.h0 L) (S.trim L):=s69' np mp tp
theorem s65 (np mp:Nat) (tp:Nat→Int) (hp:np≤1000000):zY ((q65 np mp tp)) ((p65 np mp tp)) (S.trim (S.fb np tp)):=s69 np mp tp hp
theorem k65_ok:k65.ok Tryz.prog:=by
 intro x hx
 obtain ⟨⟨np,mp,tp,_⟩,_⟩:=x
 obtain ⟨h1,h2⟩:=a65 np mp tp (s65 np mp tp (zm hx rfl))
 exact ⟨⟨400,(by decide:1+1+0≤400),h1⟩,h2⟩
section
variable (fR:TT) (fS:KS) (fT:KR) (ap np mp:Nat) (tp:NI)
abbrev St65v:=St69v
abbrev Rt65v:=Nat×Nat
noncomputable def V65v (r:Rt65v):PV:= .loose (PA.mk 0 1 r.1 0) r.2
noncomputable def N65v (r:Rt65v):List Blk:= []
noncomputable def I65v:St65v→Hd
  | .h0 x0 x1=>⟨hd Tryz.f120 0,[.loose ⟨0,1,x0,0⟩ x1],[[],[(0,(false,CB mp tp))]],1⟩
noncomputable def q65v (ap np mp:Nat) (tp:NI):St65v→Option (St65v⊕Rt65v):=q69v ap np mp tp
noncomputable def p65v (ap np mp:Nat) (tp:NI):Option (St65v⊕Rt65v):=p69v ap np mp tp
def Te65v:Prop:=fS (hd Tryz.f120 0) ([.loose ⟨0,1,ap,0⟩ np]) ([[(0,false,CB mp tp)]]) 1
theorem te65v:run fR Tryz.env true noX true 400 ⟨120,[.cd (zU Tryz.f120).body],z8 0 [.loose ⟨0,1,ap,0⟩ np],[[],[(0,(false,CB mp tp))]],1⟩ (zr 1 [0] fS fT)=
 Te65v fS ap np mp tp:=by kernel_rfl
def T65v_0 (x0 x1:Nat):Prop:=fR (decide ((x1:Int)>0)) (fR (lim .i64 ((x1:Int)-1)) (fR (decide ((0:Int)≤(x1:Int)-1∧(x1:Int)-1<(x1:Int))) (fR (decide (((x1:Int)-1).toNat+x0<mp)) (fR (tp (((x1:Int)-1).toNat+x0)==0) (fR (lim .i64 ((x1:Int)-1)) (fR (decide ((0:Int)≤Option.getD Option.none (0:Int)∧(0:Int)≤(x1:Int)-1∧(x1:Int)-1≤(x1:Int))) (fS (hd Tryz.f120 0) ([.loose (PA.mk 0 1 (0+x0) 0) ((x1:Int)-1).toNat]) ([[(0,false,CB mp tp)]]) 1) False) False) (fT (.loose ⟨0,1,x0,0⟩ x1) ([[(0,false,CB mp tp)]]) 1)) False) False) False) (fT (.loose ⟨0,1,x0,0⟩ x1) ([[(0,false,CB mp tp)]]) 1)
theorem t65v_0 (x0 x1:Nat):run fR Tryz.env true noX true 400 ⟨120,hd Tryz.f120 0,yd [0] [.loose ⟨0,1,x0,0⟩ x1],[[],[(0,(false,CB mp tp))]],1⟩ (zr 1 [0] fS fT)=
 T65v_0 fR fS fT mp tp x0 x1:=by kernel_rfl
noncomputable abbrev J65v:Rt65v→zS:=fun r=> [yC (1+1) ((N65v) r)++ [(0,(false,CB mp tp))]]
attribute [local irreducible] Int.subNatNat in
theorem a65v {r:Rt65v} (h:zY ((q65v ap np mp tp)) ((p65v ap np mp tp)) r):zn Tryz.prog 120 [.loose ⟨0,1,ap,0⟩ np] [[(0,(false,CB mp tp))]] 1 ((V65v) r) ((J65v mp tp) r) 400∧HB Tryz.prog 120:=by
 refine zf Tryz.envOk Tryz.mixed yz ((I65v mp tp)) ((V65v)) (J65v mp tp) (fn:=zU Tryz.f120) (ts:= [0]) (n:=400) rfl (by decide) (by simp) (zW rfl) ?_ ?_ ?_ h
 · intro s; cases s<;>exact ⟨yo _ _,by simp [I65v],zW rfl,Nat.le_of_ble_eq_true rfl⟩
 · intro fS fT x hS hR h
   refine Holds.eq (te65v cond fS fT ap np mp tp) ?_
   unfold Te65v
   exact ze hS _ h (fun n=>n) rfl rfl rfl ⟨(zQ (zC rfl) rfl rfl rfl),trivial⟩ rfl (zB (zC rfl) rfl rfl zE)
 · intro fS fT x hS hR s h
   cases s with
   |h0 x0 x1=>
    refine Holds.eq (t65v_0 cond fS fT mp tp x0 x1) ?_
    unfold T65v_0
    rw [q65v,q69v] at h
    exact zA h (fun c0 h=>zA h (fun c1 h=>zA h (fun c2 h=>zA h (fun c3 h=>zA h (fun c4 h=>zJ c1 (zA h (fun c5 h=>ze hS _ h (fun n=>n) rfl rfl rfl ⟨(zQ (zC rfl) rfl rfl rfl),trivial⟩ rfl (zB (zC rfl) rfl rfl zE)) (fun c5 h=>zF h))) (fun c4 h=>zV hR _ h (fun n=>n) rfl rfl rfl (zQ (zC rfl) rfl rfl rfl) rfl (zB (zC rfl) rfl rfl zE))) (fun c3 h=>zF h)) (fun c2 h=>zF h)) (fun c1 h=>zF h)) (fun c0 h=>zV hR _ h (fun n=>n) rfl rfl rfl (zQ (zC rfl) rfl rfl rfl) rfl (zB (zC rfl) rfl rfl zE))
end
noncomputable def k65v:Con:=⟨120,[.one (.list [.int .i64])],w69v (fun ap np mp tp=>decide (ap+np≤mp∧np≤1000000)),w69v (fun ap np mp tp=>(V65v) ((ap,S.eW np (FS tp ap)))),w69v (fun ap np mp tp=>(N65v) ((ap,S.eW np (FS tp ap)))),fun _ _=> .dead⟩
theorem s65v' (ap np mp:Nat) (tp:Nat→Int) (hp:ap+np≤mp∧np≤1000000): ∀ (n:Nat),n≤np→Comes (q65v ap np mp tp) (.h0 ap n) (ap,S.eW n (fun j=>tp (j+ap))):=s69v' ap np mp tp hp
theorem s65v (ap np mp:Nat) (tp:Nat→Int) (hp:ap+np≤mp∧np≤1000000):zY ((q65v ap np mp tp)) ((p65v ap np mp tp)) ((ap,S.eW np (fun j=>tp (j+ap)))):=s69v ap np mp tp hp
theorem k65v_ok:k65v.ok Tryz.prog:=by
 intro x hx
 obtain ⟨⟨ap,np,mp,tp,_⟩,_⟩:=x
 obtain ⟨h1,h2⟩:=a65v ap np mp tp (s65v ap np mp tp (zm hx rfl))
 exact ⟨⟨400,(by decide:1+1+0≤400),h1⟩,h2⟩
section
variable (fR:TT) (fS:KS) (fT:KR) (ap np mp:Nat) (tp:NI) (aq nq mq:Nat) (tq:NI)
inductive St60 where
 |h0 (x0:Int)
abbrev Rt60:=Int
noncomputable def V60 (r:Rt60):PV:= .int .i64 r
noncomputable def N60 (r:Rt60):List Blk:= []
noncomputable def I60:St60→Hd
  | .h0 x0=>⟨hd Tryz.f113 0,[.loose ⟨0,1,ap,0⟩ np,
 .loose ⟨1,1,aq,0⟩ nq,.int .i64 x0],[[],[(0,(false,CB mp tp)),(1,(false,CB mq tq))]],2⟩
noncomputable def q60 (ap np mp:Nat) (tp:NI) (aq nq mq:Nat) (tq:NI):St60→Option (St60⊕Rt60)| .h0 x0=>bif (decide (x0≥0)) then (bif (decide ((0:Int)≤x0∧x0<(np:Int))) then (bif (decide (x0.toNat+ap<mp)) then (bif (decide ((0:Int)≤x0∧x0<(nq:Int))) then (bif (decide (x0.toNat+aq<mq)) then (bif (decide (tp (x0.toNat+ap)<tq (x0.toNat+aq))) then (some (.inr ((-1:Int)))) else (bif (decide (tp (x0.toNat+ap)>tq (x0.toNat+aq))) then (some (.inr ((1:Int)))) else (bif (lim .i64 (x0-1)) then (some (.inl (.h0 (x0-1)))) else none))) else none) else none) else none) else none) else (some (.inr ((0:Int))))
noncomputable def p60 (ap np mp:Nat) (tp:NI) (aq nq mq:Nat) (tq:NI):Option (St60⊕Rt60):=bif ((np:Int) != (nq:Int)) then (bif (decide ((np:Int)<(nq:Int))) then (some (.inr ((-1:Int)))) else (some (.inr ((1:Int))))) else (bif (lim .i64 ((np:Int)-1)) then (some (.inl (.h0 ((np:Int)-1)))) else none)
def Te60:Prop:=fR ((np:Int) != (nq:Int)) (fR (decide ((np:Int)<(nq:Int))) (fT (.int .i64 (-1:Int)) ([[(1,false,CB mq tq),(0,false,CB mp tp)]]) 2) (fT (.int .i64 1) ([[(1,false,CB mq tq),(0,false,CB mp tp)]]) 2)) (fR (lim .i64 ((np:Int)-1)) (fS (hd Tryz.f113 0) ([.loose ⟨0,1,ap,0⟩ np,.loose ⟨1,1,aq,0⟩ nq,.int .i64 ((np:Int)-1)]) ([[(1,false,CB mq tq),(0,false,CB mp tp)]]) 2) False)
theorem te60:run fR Tryz.env true noX true 400 ⟨113,[.cd (zU Tryz.f113).body],z8 0 [.loose ⟨0,1,ap,0⟩ np,.loose ⟨1,1,aq,0⟩ nq],[[],[(0,(false,CB mp tp)),(1,(false,CB mq tq))]],2⟩ (zr 2 [0,1,5] fS fT)=
 Te60 fR fS fT ap np mp tp aq nq mq tq:=by kernel_rfl
noncomputable abbrev u60_0_0:=([[(1,false,Blk.cols mq [Col.int IntKind.i64 tq]),(0,false,Blk.cols mp [Col.int IntKind.i64 tp])]])
def T60_0 (x0:Int):Prop:=fR (decide (x0≥0)) (fR (decide ((0:Int)≤x0∧x0<(np:Int))) (fR (decide (x0.toNat+ap<mp)) (fR (decide ((0:Int)≤x0∧x0<(nq:Int))) (fR (decide (x0.toNat+aq<mq)) (fR (decide (tp (x0.toNat+ap)<tq (x0.toNat+aq))) (fT (.int .i64 (-1:Int)) (u60_0_0 mp tp mq tq) 2) (fR (decide ((0:Int)≤x0∧x0<(np:Int))) (fR (decide (x0.toNat+ap<mp)) (fR (decide ((0:Int)≤x0∧x0<(nq:Int))) (fR (decide (x0.toNat+aq<mq)) (fR (decide (tp (x0.toNat+ap)>tq (x0.toNat+aq))) (fT (.int .i64 1) (u60_0_0 mp tp mq tq) 2) (fR (lim .i64 (x0-1)) (fS (hd Tryz.f113 0) ([.loose ⟨0,1,ap,0⟩ np,.loose ⟨1,1,aq,0⟩ nq,.int .i64 (x0-1)]) (u60_0_0 mp tp mq tq) 2) False)) False) False) False) False)) False) False) False) False) (fT (.int .i64 0) (u60_0_0 mp tp mq tq) 2)
theorem t60_0 (x0:Int):run fR Tryz.env true noX true 400 ⟨113,hd Tryz.f113 0,yd [0,1,5] [.loose ⟨0,1,ap,0⟩ np,
 .loose ⟨1,1,aq,0⟩ nq,.int .i64 x0],[[],[(0,(false,CB mp tp)),(1,(false,CB mq tq))]],2⟩ (zr 2 [0,1,5] fS fT)=
  T60_0 fR fS fT ap np mp tp aq nq mq tq x0:=by kernel_rfl
noncomputable abbrev J60:Rt60→zS:=fun r=> [yC (2+1) ((N60) r)++ [(0,(false,CB mp tp)),(1,(false,CB mq tq))]]
attribute [local irreducible] Int.subNatNat in
theorem a60 {r:Rt60} (h:zY ((q60 ap np mp tp aq nq mq tq)) ((p60 ap np mp tp aq nq mq tq)) r):zn Tryz.prog 113 [.loose ⟨0,1,ap,0⟩ np,.loose ⟨1,1,aq,0⟩ nq] [[(0,(false,CB mp tp)),(1,(false,CB mq tq))]] 2 ((V60) r) ((J60 mp tp mq tq) r) 400∧HB Tryz.prog 113:=by
 refine zf Tryz.envOk Tryz.mixed yz ((I60 ap np mp tp aq nq mq tq)) ((V60)) (J60 mp tp mq tq) (fn:=zU Tryz.f113) (ts:= [0,1,5]) (n:=400) rfl (by decide) (by simp) (zW rfl) ?_ ?_ ?_ h
 · intro s; cases s<;>exact ⟨yo _ _,by simp [I60],zW rfl,Nat.le_of_ble_eq_true rfl⟩
 · intro fS fT x hS hR h
   refine Holds.eq (te60 cond fS fT ap np mp tp aq nq mq tq) ?_
   unfold Te60
   unfold p60 at h
   exact zA h (fun c0 h=>zA h (fun c1 h=>zV hR _ h (fun n=>n) rfl rfl rfl (zI rfl) rfl (zB (zC rfl) rfl rfl (zB (zC rfl) rfl rfl zE))) (fun c1 h=>zV hR _ h (fun n=>n) rfl rfl rfl (zI rfl) rfl (zB (zC rfl) rfl rfl (zB (zC rfl) rfl rfl zE)))) (fun c0 h=>zA h (fun c1 h=>ze hS _ h (fun n=>n) rfl rfl rfl ⟨(zQ (zC rfl) rfl rfl rfl),⟨(zQ (zC rfl) rfl rfl rfl),⟨(zI rfl),trivial⟩⟩⟩ rfl (zB (zC rfl) rfl rfl (zB (zC rfl) rfl rfl zE))) (fun c1 h=>zF h))
 · intro fS fT x hS hR s h
   cases s with
   |h0 x0=>
    refine Holds.eq (t60_0 cond fS fT ap np mp tp aq nq mq tq x0) ?_
    unfold T60_0
    rw [q60] at h
    exact zA h (fun c0 h=>zA h (fun c1 h=>zA h (fun c2 h=>zA h (fun c3 h=>zA h (fun c4 h=>zA h (fun c5 h=>zV hR _ h (fun n=>n) rfl rfl rfl (zI rfl) rfl (zB (zC rfl) rfl rfl (zB (zC rfl) rfl rfl zE))) (fun c5 h=>zJ c1 (zJ c2 (zJ c3 (zJ c4 (zA h (fun c6 h=>zV hR _ h (fun n=>n) rfl rfl rfl (zI rfl) rfl (zB (zC rfl) rfl rfl (zB (zC rfl) rfl rfl zE))) (fun c6 h=>zA h (fun c7 h=>ze hS _ h (fun n=>n) rfl rfl rfl ⟨(zQ (zC rfl) rfl rfl rfl),⟨(zQ (zC rfl) rfl rfl rfl),⟨(zI rfl),trivial⟩⟩⟩ rfl (zB (zC rfl) rfl rfl (zB (zC rfl) rfl rfl zE))) (fun c7 h=>zF h)))))))) (fun c4 h=>zF h)) (fun c3 h=>zF h)) (fun c2 h=>zF h)) (fun c1 h=>zF h)) (fun c0 h=>zV hR _ h (fun n=>n) rfl rfl rfl (zI rfl) rfl (zB (zC rfl) rfl rfl (zB (zC rfl) rfl rfl zE)))
end
noncomputable abbrev w60 {α:Type} (g:Nat→Nat→Nat→(Nat→Int)→Nat→Nat→Nat→(Nat→Int)→α) (x:(Nat×Nat×Nat×(Nat→Int)×Unit)×(Nat×Nat×Nat×(Nat→Int)×Unit)×Unit):α:=g x.1.1 x.1.2.1 x.1.2.2.1 x.1.2.2.2.1 x.2.1.1 x.2.1.2.1 x.2.1.2.2.1 x.2.1.2.2.2.1
noncomputable def k60:Con:=⟨113,[.one (.list [.int .i64]),.one (.list [.int .i64])],w60 (fun ap np mp tp aq nq mq tq=>decide (ap+np≤mp∧np≤1000000∧aq+nq≤mq∧nq≤1000000∧S.fW np (FS tp ap)=true∧S.fW nq (FS tq aq)=true)),w60 (fun ap np mp tp aq nq mq tq=>(V60) (S.fv (S.val np (FS tp ap)) (S.val nq (FS tq aq)))),w60 (fun ap np mp tp aq nq mq tq=>(N60) (S.fv (S.val np (FS tp ap)) (S.val nq (FS tq aq)))),fun _ _=> .dead⟩
theorem s60' (ap np mp:Nat) (tp:Nat→Int) (aq nq mq:Nat) (tq:Nat→Int) (hp:ap+np≤mp∧np≤1000000∧aq+nq≤mq∧nq≤1000000∧S.fW np (fun j=>tp (j+ap))=true∧S.fW nq (fun j=>tq (j+aq))=true) (hn:np=nq): ∀ (i:Nat),i≤np→S.fU (fun j=>tp (j+ap)) i (np-i)=S.fU (fun j=>tq (j+aq)) i (np-i)→Comes (q60 ap np mp tp aq nq mq tq) (.h0 ((i:Int)-1)) (S.fv (S.val np (fun j=>tp (j+ap))) (S.val nq (fun j=>tq (j+aq)))):=by
 obtain ⟨hp1,hp2,hp3,hp4,g1,g2⟩:=hp
 subst hn
 have d1:=(zp.mp g1).1
 have d2:=(zp.mp g2).1
 intro i
 induction i with
 | zero=>
  intro hi he
  have e:S.fv (S.val np (fun j=>tp (j+ap))) (S.val np (fun j=>tq (j+aq)))=0:=by
   have he:S.val np (fun j=>tp (j+ap))=S.val np (fun j=>tq (j+aq)):=he
   rw [he]
   unfold S.fv
   rw [if_neg (by omega),if_neg (by omega)]
  rw [e]
  apply Comes.of
  show zY _ _ _
  (first|rw [q60]|unfold q60)
  repeat' (first|with_reducible refine zP (fun h=> ?_) (fun h=> ?_)<;>(try simp only [SH] at h)|exact zK.mpr (by omega))
  all_goals first|(exfalso; omega)|exact zG.mpr rfl
 | succ i ih=>
  intro hi he
  have ih:=ih (by omega)
  have e1:(((i+1:Nat):Int)-1)=i:=by omega
  rw [e1]
  have s1:S.fU (fun j=>tp (j+ap)) i (np-i)=tp (i+ap)+1000000*S.fU (fun j=>tp (j+ap)) (i+1) (np-(i+1)):=by rw [show np-i=(np-(i+1))+1 by omega]; rfl
  have s2:S.fU (fun j=>tq (j+aq)) i (np-i)=tq (i+aq)+1000000*S.fU (fun j=>tq (j+aq)) (i+1) (np-(i+1)):=by rw [show np-i=(np-(i+1))+1 by omega]; rfl
  rw [s1,s2,he] at ih
  have l1:=wY d1 d2 (i:=i) (k:=np-i) (by omega)
  have l2:=wY d2 d1 (i:=i) (k:=np-i) (by omega)
  rw [s1,s2,he] at l1 l2
  unfold S.fv at*
  generalize S.fU (fun j=>tq (j+aq)) (i+1) (np-(i+1))=v at*
  apply Comes.of
  show zY _ _ _
  (first|rw [q60]|unfold q60)
  repeat' (first|with_reducible refine zP (fun h=> ?_) (fun h=> ?_)<;>(try simp only [SH] at h)|exact zK.mpr (by omega))
  all_goals first
    |(exfalso; omega)
    |exact ih (by omega)
    |(rw [if_pos (by omega)]; exact zG.mpr rfl)
    |(rw [if_neg (by omega),if_pos (by omega)]; exact zG.mpr rfl)
theorem s60 (ap np mp:Nat) (tp:Nat→Int) (aq nq mq:Nat) (tq:Nat→Int) (hp:ap+np≤mp∧np≤1000000∧aq+nq≤mq∧nq≤1000000∧S.fW np (fun j=>tp (j+ap))=true∧S.fW nq (fun j=>tq (j+aq))=true):zY ((q60 ap np mp tp aq nq mq tq)) ((p60 ap np mp tp aq nq mq tq)) (S.fv (S.val np (fun j=>tp (j+ap))) (S.val nq (fun j=>tq (j+aq)))):=by
 by_cases hn:np=nq
 · have hm:=s60' ap np mp tp aq nq mq tq hp hn np (Nat.le_refl _) (by rw [Nat.sub_self]; rfl)
   show zY _ _ _
   unfold p60
   repeat' (first|with_reducible refine zP (fun h=> ?_) (fun h=> ?_)<;>(try simp only [SH] at h)|exact zK.mpr (by omega))
   all_goals first|(exfalso; omega)|exact hm
 · obtain ⟨hp1,hp2,hp3,hp4,g1,g2⟩:=hp
   rcases Nat.lt_or_gt_of_ne hn with h|h
   · have hv:=vk h g1 g2
     unfold S.fv
     rw [if_pos hv]
     show zY _ _ _
     unfold p60
     repeat' (first|with_reducible refine zP (fun h=> ?_) (fun h=> ?_)<;>(try simp only [SH] at h)|exact zK.mpr (by omega))
     all_goals first|(exfalso; omega)|exact zG.mpr rfl
   · have hv:=vk h g2 g1
     unfold S.fv
     rw [if_neg (by omega),if_pos hv]
     show zY _ _ _
     unfold p60
     repeat' (first|with_reducible refine zP (fun h=> ?_) (fun h=> ?_)<;>(try simp only [SH] at h)|exact zK.mpr (by omega))
     all_goals first|(exfalso; omega)|exact zG.mpr rfl
theorem k60_ok:k60.ok Tryz.prog:=by
 intro x hx
 obtain ⟨⟨ap,np,mp,tp,_⟩,⟨aq,nq,mq,tq,_⟩,_⟩:=x
 obtain ⟨h1,h2⟩:=a60 ap np mp tp aq nq mq tq (s60 ap np mp tp aq nq mq tq (zm hx rfl))
 exact ⟨⟨400,(by decide:2+1+0≤400),h1⟩,h2⟩
section
variable (fR:TT) (fS:KS) (fT:KR) (ap np mp:Nat) (tp:NI) (aq nq mq:Nat) (tq:NI)
inductive St61 where
 |h0 (x0:Int)
abbrev Rt61:=Int
noncomputable def V61 (r:Rt61):PV:= .int .i64 r
noncomputable def N61 (r:Rt61):List Blk:= []
noncomputable def I61:St61→Hd
  | .h0 x0=>⟨hd Tryz.f119 0,[.loose ⟨0,1,ap,0⟩ np,
 .loose ⟨1,1,aq,0⟩ nq,.int .i64 x0],[[],[(0,(false,CB mp tp)),(1,(false,CB mq tq))]],2⟩
noncomputable def q61 (ap np mp:Nat) (tp:NI) (aq nq mq:Nat) (tq:NI):St61→Option (St61⊕Rt61)| .h0 x0=>bif (decide (x0≥0)) then (bif (decide ((0:Int)≤x0∧x0<(np:Int))) then (bif (decide (x0.toNat+ap<mp)) then (bif (decide ((0:Int)≤x0∧x0<(nq:Int))) then (bif (decide (x0.toNat+aq<mq)) then (bif (decide (tp (x0.toNat+ap)<tq (x0.toNat+aq))) then (some (.inr ((-1:Int)))) else (bif (decide (tp (x0.toNat+ap)>tq (x0.toNat+aq))) then (some (.inr ((1:Int)))) else (bif (lim .i64 (x0-1)) then (some (.inl (.h0 (x0-1)))) else none))) else none) else none) else none) else none) else (some (.inr ((0:Int))))
noncomputable def p61 (ap np mp:Nat) (tp:NI) (aq nq mq:Nat) (tq:NI):Option (St61⊕Rt61):=bif (decide ((np:Int)<(nq:Int))) then (some (.inr ((-1:Int)))) else (bif (decide ((np:Int)>(nq:Int))) then (some (.inr ((1:Int)))) else (bif (lim .i64 ((np:Int)-1)) then (some (.inl (.h0 ((np:Int)-1)))) else none))
def Te61:Prop:=fR (decide ((np:Int)<(nq:Int))) (fT (.int .i64 (-1:Int)) ([[(1,false,CB mq tq),(0,false,CB mp tp)]]) 2) (fR (decide ((np:Int)>(nq:Int))) (fT (.int .i64 1) ([[(1,false,CB mq tq),(0,false,CB mp tp)]]) 2) (fR (lim .i64 ((np:Int)-1)) (fS (hd Tryz.f119 0) ([.loose ⟨0,1,ap,0⟩ np,.loose ⟨1,1,aq,0⟩ nq,.int .i64 ((np:Int)-1)]) ([[(1,false,CB mq tq),(0,false,CB mp tp)]]) 2) False))
theorem te61:run fR Tryz.env true noX true 400 ⟨119,[.cd (zU Tryz.f119).body],z8 0 [.loose ⟨0,1,ap,0⟩ np,.loose ⟨1,1,aq,0⟩ nq],[[],[(0,(false,CB mp tp)),(1,(false,CB mq tq))]],2⟩ (zr 2 [0,1,5] fS fT)=
 Te61 fR fS fT ap np mp tp aq nq mq tq:=by kernel_rfl
noncomputable abbrev u61_0_0:=([[(1,false,Blk.cols mq [Col.int IntKind.i64 tq]),(0,false,Blk.cols mp [Col.int IntKind.i64 tp])]])
def T61_0 (x0:Int):Prop:=fR (decide (x0≥0)) (fR (decide ((0:Int)≤x0∧x0<(np:Int))) (fR (decide (x0.toNat+ap<mp)) (fR (decide ((0:Int)≤x0∧x0<(nq:Int))) (fR (decide (x0.toNat+aq<mq)) (fR (decide (tp (x0.toNat+ap)<tq (x0.toNat+aq))) (fT (.int .i64 (-1:Int)) (u61_0_0 mp tp mq tq) 2) (fR (decide ((0:Int)≤x0∧x0<(np:Int))) (fR (decide (x0.toNat+ap<mp)) (fR (decide ((0:Int)≤x0∧x0<(nq:Int))) (fR (decide (x0.toNat+aq<mq)) (fR (decide (tp (x0.toNat+ap)>tq (x0.toNat+aq))) (fT (.int .i64 1) (u61_0_0 mp tp mq tq) 2) (fR (lim .i64 (x0-1)) (fS (hd Tryz.f119 0) ([.loose ⟨0,1,ap,0⟩ np,.loose ⟨1,1,aq,0⟩ nq,.int .i64 (x0-1)]) (u61_0_0 mp tp mq tq) 2) False)) False) False) False) False)) False) False) False) False) (fT (.int .i64 0) (u61_0_0 mp tp mq tq) 2)
theorem t61_0 (x0:Int):run fR Tryz.env true noX true 400 ⟨119,hd Tryz.f119 0,yd [0,1,5] [.loose ⟨0,1,ap,0⟩ np,
 .loose ⟨1,1,aq,0⟩ nq,.int .i64 x0],[[],[(0,(false,CB mp tp)),(1,(false,CB mq tq))]],2⟩ (zr 2 [0,1,5] fS fT)=
  T61_0 fR fS fT ap np mp tp aq nq mq tq x0:=by kernel_rfl
noncomputable abbrev J61:Rt61→zS:=fun r=> [yC (2+1) ((N61) r)++ [(0,(false,CB mp tp)),(1,(false,CB mq tq))]]
attribute [local irreducible] Int.subNatNat in
theorem a61 {r:Rt61} (h:zY ((q61 ap np mp tp aq nq mq tq)) ((p61 ap np mp tp aq nq mq tq)) r):zn Tryz.prog 119 [.loose ⟨0,1,ap,0⟩ np,.loose ⟨1,1,aq,0⟩ nq] [[(0,(false,CB mp tp)),(1,(false,CB mq tq))]] 2 ((V61) r) ((J61 mp tp mq tq) r) 400∧HB Tryz.prog 119:=by
 refine zf Tryz.envOk Tryz.mixed yz ((I61 ap np mp tp aq nq mq tq)) ((V61)) (J61 mp tp mq tq) (fn:=zU Tryz.f119) (ts:= [0,1,5]) (n:=400) rfl (by decide) (by simp) (zW rfl) ?_ ?_ ?_ h
 · intro s; cases s<;>exact ⟨yo _ _,by simp [I61],zW rfl,Nat.le_of_ble_eq_true rfl⟩
 · intro fS fT x hS hR h
   refine Holds.eq (te61 cond fS fT ap np mp tp aq nq mq tq) ?_
   unfold Te61
   unfold p61 at h
   exact zA h (fun c0 h=>zV hR _ h (fun n=>n) rfl rfl rfl (zI rfl) rfl (zB (zC rfl) rfl rfl (zB (zC rfl) rfl rfl zE))) (fun c0 h=>zA h (fun c1 h=>zV hR _ h (fun n=>n) rfl rfl rfl (zI rfl) rfl (zB (zC rfl) rfl rfl (zB (zC rfl) rfl rfl zE))) (fun c1 h=>zA h (fun c2 h=>ze hS _ h (fun n=>n) rfl rfl rfl ⟨(zQ (zC rfl) rfl rfl rfl),⟨(zQ (zC rfl) rfl rfl rfl),⟨(zI rfl),trivial⟩⟩⟩ rfl (zB (zC rfl) rfl rfl (zB (zC rfl) rfl rfl zE))) (fun c2 h=>zF h)))
 · intro fS fT x hS hR s h
   cases s with
   |h0 x0=>
    refine Holds.eq (t61_0 cond fS fT ap np mp tp aq nq mq tq x0) ?_
    unfold T61_0
    rw [q61] at h
    exact zA h (fun c0 h=>zA h (fun c1 h=>zA h (fun c2 h=>zA h (fun c3 h=>zA h (fun c4 h=>zA h (fun c5 h=>zV hR _ h (fun n=>n) rfl rfl rfl (zI rfl) rfl (zB (zC rfl) rfl rfl (zB (zC rfl) rfl rfl zE))) (fun c5 h=>zJ c1 (zJ c2 (zJ c3 (zJ c4 (zA h (fun c6 h=>zV hR _ h (fun n=>n) rfl rfl rfl (zI rfl) rfl (zB (zC rfl) rfl rfl (zB (zC rfl) rfl rfl zE))) (fun c6 h=>zA h (fun c7 h=>ze hS _ h (fun n=>n) rfl rfl rfl ⟨(zQ (zC rfl) rfl rfl rfl),⟨(zQ (zC rfl) rfl rfl rfl),⟨(zI rfl),trivial⟩⟩⟩ rfl (zB (zC rfl) rfl rfl (zB (zC rfl) rfl rfl zE))) (fun c7 h=>zF h)))))))) (fun c4 h=>zF h)) (fun c3 h=>zF h)) (fun c2 h=>zF h)) (fun c1 h=>zF h)) (fun c0 h=>zV hR _ h (fun n=>n) rfl rfl rfl (zI rfl) rfl (zB (zC rfl) rfl rfl (zB (zC rfl) rfl rfl zE)))
end
noncomputable def k61:Con:=⟨119,[.one (.list [.int .i64]),.one (.list [.int .i64])],w60 (fun ap np mp tp aq nq mq tq=>decide (ap+np≤mp∧np≤1000000∧aq+nq≤mq∧nq≤1000000∧S.fW np (FS tp ap)=true∧S.fW nq (FS tq aq)=true)),w60 (fun ap np mp tp aq nq mq tq=>(V61) (S.fv (S.val np (FS tp ap)) (S.val nq (FS tq aq)))),w60 (fun ap np mp tp aq nq mq tq=>(N61) (S.fv (S.val np (FS tp ap)) (S.val nq (FS tq aq)))),fun _ _=> .dead⟩
theorem s61' (ap np mp:Nat) (tp:Nat→Int) (aq nq mq:Nat) (tq:Nat→Int) (hp:ap+np≤mp∧np≤1000000∧aq+nq≤mq∧nq≤1000000∧S.fW np (fun j=>tp (j+ap))=true∧S.fW nq (fun j=>tq (j+aq))=true) (hn:np=nq): ∀ (i:Nat),i≤np→S.fU (fun j=>tp (j+ap)) i (np-i)=S.fU (fun j=>tq (j+aq)) i (np-i)→Comes (q61 ap np mp tp aq nq mq tq) (.h0 ((i:Int)-1)) (S.fv (S.val np (fun j=>tp (j+ap))) (S.val nq (fun j=>tq (j+aq)))):=by
 obtain ⟨hp1,hp2,hp3,hp4,g1,g2⟩:=hp
 subst hn
 have d1:=(zp.mp g1).1
 have d2:=(zp.mp g2).1
 intro i
 induction i with
 | zero=>
  intro hi he
  have e:S.fv (S.val np (fun j=>tp (j+ap))) (S.val np (fun j=>tq (j+aq)))=0:=by
   have he:S.val np (fun j=>tp (j+ap))=S.val np (fun j=>tq (j+aq)):=he
   rw [he]
   unfold S.fv
   rw [if_neg (by omega),if_neg (by omega)]
  rw [e]
  apply Comes.of
  show zY _ _ _
  (first|rw [q61]|unfold q61)
  repeat' (first|with_reducible refine zP (fun h=> ?_) (fun h=> ?_)<;>(try simp only [SH] at h)|exact zK.mpr (by omega))
  all_goals first|(exfalso; omega)|exact zG.mpr rfl
 | succ i ih=>
  intro hi he
  have ih:=ih (by omega)
  have e1:(((i+1:Nat):Int)-1)=i:=by omega
  rw [e1]
  have s1:S.fU (fun j=>tp (j+ap)) i (np-i)=tp (i+ap)+1000000*S.fU (fun j=>tp (j+ap)) (i+1) (np-(i+1)):=by rw [show np-i=(np-(i+1))+1 by omega]; rfl
  have s2:S.fU (fun j=>tq (j+aq)) i (np-i)=tq (i+aq)+1000000*S.fU (fun j=>tq (j+aq)) (i+1) (np-(i+1)):=by rw [show np-i=(np-(i+1))+1 by omega]; rfl
  rw [s1,s2,he] at ih
  have l1:=wY d1 d2 (i:=i) (k:=np-i) (by omega)
  have l2:=wY d2 d1 (i:=i) (k:=np-i) (by omega)
  rw [s1,s2,he] at l1 l2
  unfold S.fv at*
  generalize S.fU (fun j=>tq (j+aq)) (i+1) (np-(i+1))=v at*
  apply Comes.of
  show zY _ _ _
  (first|rw [q61]|unfold q61)
  repeat' (first|with_reducible refine zP (fun h=> ?_) (fun h=> ?_)<;>(try simp only [SH] at h)|exact zK.mpr (by omega))
  all_goals first
    |(exfalso; omega)
    |exact ih (by omega)
    |(rw [if_pos (by omega)]; exact zG.mpr rfl)
    |(rw [if_neg (by omega),if_pos (by omega)]; exact zG.mpr rfl)
theorem s61 (ap np mp:Nat) (tp:Nat→Int) (aq nq mq:Nat) (tq:Nat→Int) (hp:ap+np≤mp∧np≤1000000∧aq+nq≤mq∧nq≤1000000∧S.fW np (fun j=>tp (j+ap))=true∧S.fW nq (fun j=>tq (j+aq))=true):zY ((q61 ap np mp tp aq nq mq tq)) ((p61 ap np mp tp aq nq mq tq)) (S.fv (S.val np (fun j=>tp (j+ap))) (S.val nq (fun j=>tq (j+aq)))):=by
 by_cases hn:np=nq
 · have hm:=s61' ap np mp tp aq nq mq tq hp hn np (Nat.le_refl _) (by rw [Nat.sub_self]; rfl)
   show zY _ _ _
   unfold p61
   repeat' (first|with_reducible refine zP (fun h=> ?_) (fun h=> ?_)<;>(try simp only [SH] at h)|exact zK.mpr (by omega))
   all_goals first|(exfalso; omega)|exact hm
 · obtain ⟨hp1,hp2,hp3,hp4,g1,g2⟩:=hp
   rcases Nat.lt_or_gt_of_ne hn with h|h
   · have hv:=vk h g1 g2
     unfold S.fv
     rw [if_pos hv]
     show zY _ _ _
     unfold p61
     repeat' (first|with_reducible refine zP (fun h=> ?_) (fun h=> ?_)<;>(try simp only [SH] at h)|exact zK.mpr (by omega))
     all_goals first|(exfalso; omega)|exact zG.mpr rfl
   · have hv:=vk h g2 g1
     unfold S.fv
     rw [if_neg (by omega),if_pos hv]
     show zY _ _ _
     unfold p61
     repeat' (first|with_reducible refine zP (fun h=> ?_) (fun h=> ?_)<;>(try simp only [SH] at h)|exact zK.mpr (by omega))
     all_goals first|(exfalso; omega)|exact zG.mpr rfl
theorem k61_ok:k61.ok Tryz.prog:=by
 intro x hx
 obtain ⟨⟨ap,np,mp,tp,_⟩,⟨aq,nq,mq,tq,_⟩,_⟩:=x
 obtain ⟨h1,h2⟩:=a61 ap np mp tp aq nq mq tq (s61 ap np mp tp aq nq mq tq (zm hx rfl))
 exact ⟨⟨400,(by decide:2+1+0≤400),h1⟩,h2⟩
namespace S
def pw:Nat→Int
  |0=>1
  |k+1=>1000000*pw k
def ext (n:Nat) (t:Nat→Int) (j:Nat):Int:=if j<n then t j else 0
end S
theorem tdB {x:Int} (h:0≤x):Int.tdiv x 1000000=x / 1000000:=Int.tdiv_eq_ediv_of_nonneg h
theorem tmB {x:Int} (h:0≤x):Int.tmod x 1000000=x % 1000000:=Int.tmod_eq_emod_of_nonneg h
theorem limu {x:Int}:lim .u64 x=decide (0≤x∧x≤18446744073709551615):=rfl
theorem ud:S.f0 1= [1]:=by rw [xN (by decide),show (1:Int) % 1000000=1 from by decide,show (1:Int) / 1000000=0 from by decide,yQ]
theorem wr64 {x:Int} (h:0≤x∧x<1000000):IntKind.i64.wrap x=x:=by rw [IntKind.wrap_i64]; omega
theorem ol {n:Nat} {t:Nat→Int} (h:S.fW n t=true) {i:Nat} (hi:i<n):0<S.fU t i (n-i):=by
 obtain ⟨h1,h2⟩:=zp.mp h
 exact wi (t:=t) (m:=0) (by omega) (fun j h1 h2=>by omega) (fun j _ hj=>h1 j (by omega)) (by rw [show i+(n-i)-1=n-1 by omega]; exact h2.resolve_left (by omega))
theorem uX {t:Nat→Int} {n i:Nat} (hi:i<n):S.fU t i (n-i)=t i+1000000*S.fU t (i+1) (n-(i+1)):=by
 rw [show n-i=(n-(i+1))+1 by omega]; rfl
theorem qi {n:Nat} {t:Nat→Int} (h: ∀ j,j<n→0≤t j∧t j<1000000) {i:Nat}:0≤S.fU t i (n-i):=by
 by_cases hi:i≤n
 · exact yI fun j h1 h2=>(h j (by omega)).1
 · rw [show n-i=0 by omega]; exact Int.le_refl _
theorem uT {n:Nat} {t:Nat→Int}: ∀ {k i:Nat},S.fU (S.ext n t) i k=S.fU t i (min k (n-i))
  |0,i=>by rw [Nat.zero_min]; rfl
  | k +1,i=>by
   simp only [S.fU]
   rw [uT]
   by_cases h:i<n
   · rw [show min (k+1) (n-i)=(min k (n-(i+1)))+1 by omega]
     simp only [S.fU,S.ext,if_pos h]
   · rw [show min (k+1) (n-i)=0 by omega,show min k (n-(i+1))=0 by omega]
     simp only [S.fU,S.ext,if_neg h]
     rfl
theorem vn {n:Nat} {t:Nat→Int} (h: ∀ j,j<n→0≤t j∧t j<1000000) (j:Nat):0≤S.ext n t j∧S.ext n t j<1000000:=by
 unfold S.ext
 split
 · rename_i hj; exact h j hj
 · omega
theorem yp {L D:List Int} {x:Int}:S.fZ L x++D=L++(x::D):=by simp [S.fZ]
theorem jz {L:List Int} {c:Int}:(S.fb (L.length+1) fun j=>bif Nat.blt j L.length then S.at' L j else c)=L++ [c]:=by
 rw [uN,wC]
 congr 1
 · rw [xn (g:=S.at' L) fun j hj=>by rw [Nat.blt_eq.mpr hj,cond_true],wW]
 · rw [show Nat.blt L.length L.length=false by rw [Bool.eq_false_iff]; exact fun e=>absurd (Nat.blt_eq.mp e) (Nat.lt_irrefl _),cond_false]
theorem y6 {x:Int} {D:List Int} (hx:0≤x∧x<1000000) (h: ∀ y ∈ D,0≤y∧y<1000000): ∀ y ∈ x::D,0≤y∧y<1000000:=fun y hy=>by
 rcases List.mem_cons.mp hy with rfl|hy
 · exact hx
 · exact h y hy
noncomputable def k45:Con:=⟨138,[.one (.list [.int .i64])],w69v (fun aa na ma ta=>decide (aa+na≤ma∧na≤1000000)),w69v (fun aa na ma ta=> .own 2 1 na),w69v (fun aa na ma ta=> [.cols na [.int .i64 (FS ta aa)]]),fun _ _=> .dead⟩
theorem e45s (fR:Bool→Prop→Prop→Prop) (fS:List It→List PV→zS→Nat→Prop) (fT:PV→zS→Nat→Prop) (aa na ma:Nat) (ta:Nat→Int):
  (run fR Tryz.env true noX true 300 ⟨138,[.cd (zU Tryz.f138).body],z8 0 [.sl ⟨0,1,aa,0⟩ na],[[],[(0,(false,.cols ma [.int .i64 ta]))]],1⟩ (zr 1 [] fS fT))=
  (fR (decide (0+na≤1000000))
  (fR true
    (fR (decide (aa+na≤ma))
      (fT (PV.own (2) (1) (0+na))
        [[(0,false,Blk.cols ma [Col.int IntKind.i64 ta]),
         (2,true,Blk.cols (0+na) [Col.int IntKind.i64 fun j=>ta (j+aa)])]]
        (3))
      False)
    False)
  False):=by kernel_rfl
theorem c45s (aa na ma:Nat) (ta:NI) (hp:aa+na≤ma∧na≤1000000) (h0:0<na):zn Tryz.prog 138 [.sl ⟨0,1,aa,0⟩ na] [[(0,(false,.cols ma [.int .i64 ta]))]] 1 (.own 2 1 na) [(2,(true,.cols na [.int .i64 (fun j=>ta (j+aa))])):: [(0,(false,.cols ma [.int .i64 ta]))]] 40∧ ∃ F,Tryz.prog.funcs[138]? =some F∧F.body.isSome=true∧(F.name== "runtime.NumGoroutine")=false:=by
 refine @oa _ _ Tryz.envOk Tryz.mixed _ yz 138 (zU Tryz.f138) [.sl ⟨0,1,aa,0⟩ na] [[(0,(false,.cols ma [.int .i64 ta]))]] [(2,(true,.cols na [.int .i64 (fun j=>ta (j+aa))])):: [(0,(false,.cols ma [.int .i64 ta]))]] 1 40 (.own 2 1 na) true 300 rfl (by decide) (by simp) (zW rfl) _ (e45s cond _ _ aa na ma ta) ?_
 repeat' first
   |with_reducible refine zJ rfl ?_
   |with_reducible refine zd rfl ?_
   |(with_reducible refine v3 (fun h=> ?_) (fun h=> ?_))<;>(try simp only [y3,decide_eq_true_eq,decide_eq_false_iff_not,reduceCtorEq,Int.toNat_natCast,Bool.not_eq_true',Bool.not_eq_false',Bool.and_eq_true,Bool.or_eq_true,Bool.and_eq_false_iff,Bool.or_eq_false_iff,bne_iff_ne,beq_iff_eq,bne_eq_false_iff_eq,beq_eq_false_iff_ne,ne_eq] at h)
 all_goals first
   |with_reducible apply kB
   |omega
 repeat' first
   |with_reducible exact qT
   |with_reducible refine sb ?_ ?_
   |with_reducible refine zk ?_
   |with_reducible refine zc ?_
   |with_reducible refine zI ?_
   |with_reducible refine yw ?_
   |with_reducible refine zR ?_
   |with_reducible refine zj ?_
   |with_reducible refine w7 ?_
   |with_reducible exact xy
   |with_reducible refine zO ?_
   |with_reducible refine zX ?_ ?_ ?_
   |with_reducible refine u9 ?_ ?_ ?_ ?_ ?_
   |with_reducible refine yN ?_ ?_ ?_ ?_
   |with_reducible refine zQ ?_ ?_ ?_ ?_
   |with_reducible refine xd ?_ ?_ ?_ ?_
   |exact zC rfl
   |exact zD rfl
   |exact ig rfl
   |exact kl rfl
   |((with_reducible refine (id:pos _=pos _→_) ?_); exact rfl)
   |((with_reducible refine (id:pos _=0→_) ?_); exact rfl)
   |((with_reducible refine (id:Nat.ble _ _=true→_) ?_); exact rfl)
   |((with_reducible refine (id:ub _ _=true→_) ?_); exact rfl)
   |((with_reducible refine (id:xj _=true→_) ?_); exact rfl)
   |((with_reducible refine (id:hget _ _=some _→_) ?_); exact rfl)
   |with_reducible exact (id:(_:Bool)=true→_=true)
   |with_reducible exact zE
   |with_reducible refine zB ?_ ?_ ?_ ?_
   |refine zL (zD rfl) (by rfl) ?_ ?_ ?_
   |refine tO (zD rfl) (by rfl) rfl ?_ (sU ?_) ?_
   |refine tG (zD rfl) (by rfl) (by simp) (by omega) ?_
   |with_reducible exact zM
   |with_reducible refine zN (fun j hj=> ?_) ?_
   |with_reducible refine sM (fun j hj=> ?_) ?_
   |with_reducible refine qM (fun j hj=> ?_) ?_
   |refine zT (k:=2) (zD rfl) (za (n:=39) rfl) ?_
   |with_reducible rfl
 all_goals try exact (0:Nat)
 all_goals try ((with_reducible refine (id:ub _ _=true→_) ?_); exact rfl)
 all_goals first
   |omega
   |skip
theorem e45z (fR:Bool→Prop→Prop→Prop) (fS:List It→List PV→zS→Nat→Prop) (fT:PV→zS→Nat→Prop) (aa na ma:Nat) (ta:Nat→Int):
  (run fR Tryz.env true noX true 300 ⟨138,[.cd (zU Tryz.f138).body],z8 0 [.zer true],[[],[(0,(false,.cols ma [.int .i64 ta]))]],1⟩ (zr 1 [] fS fT))=
  (fT (PV.own (1) (1) (0))
  [[(0,false,Blk.cols ma [Col.int IntKind.i64 ta]),(1,true,Blk.cells [])]] (2)):=by kernel_rfl
theorem c45z (aa na ma:Nat) (ta:NI) (hp:aa+na≤ma∧na≤1000000) (h0:na=0):zn Tryz.prog 138 [.zer true] [[(0,(false,.cols ma [.int .i64 ta]))]] 1 (.own 2 1 na) [(2,(true,.cols na [.int .i64 (fun j=>ta (j+aa))])):: [(0,(false,.cols ma [.int .i64 ta]))]] 40∧ ∃ F,Tryz.prog.funcs[138]? =some F∧F.body.isSome=true∧(F.name== "runtime.NumGoroutine")=false:=by
 refine @oa _ _ Tryz.envOk Tryz.mixed _ yz 138 (zU Tryz.f138) [.zer true] [[(0,(false,.cols ma [.int .i64 ta]))]] [(2,(true,.cols na [.int .i64 (fun j=>ta (j+aa))])):: [(0,(false,.cols ma [.int .i64 ta]))]] 1 40 (.own 2 1 na) true 300 rfl (by decide) (by simp) (zW rfl) _ (e45z cond _ _ aa na ma ta) ?_
 repeat' first
   |with_reducible refine zJ rfl ?_
   |with_reducible refine zd rfl ?_
   |(with_reducible refine v3 (fun h=> ?_) (fun h=> ?_))<;>(try simp only [y3,decide_eq_true_eq,decide_eq_false_iff_not,reduceCtorEq,Int.toNat_natCast,Bool.not_eq_true',Bool.not_eq_false',Bool.and_eq_true,Bool.or_eq_true,Bool.and_eq_false_iff,Bool.or_eq_false_iff,bne_iff_ne,beq_iff_eq,bne_eq_false_iff_eq,beq_eq_false_iff_ne,ne_eq] at h)
 all_goals first
   |with_reducible apply kB
   |omega
 repeat' first
   |with_reducible exact qT
   |with_reducible refine sb ?_ ?_
   |with_reducible refine zk ?_
   |with_reducible refine zc ?_
   |with_reducible refine zI ?_
   |with_reducible refine yw ?_
   |with_reducible refine zR ?_
   |with_reducible refine zj ?_
   |with_reducible refine w7 ?_
   |with_reducible exact xy
   |with_reducible refine zO ?_
   |with_reducible refine zX ?_ ?_ ?_
   |with_reducible refine u9 ?_ ?_ ?_ ?_ ?_
   |with_reducible refine yN ?_ ?_ ?_ ?_
   |with_reducible refine zQ ?_ ?_ ?_ ?_
   |with_reducible refine xd ?_ ?_ ?_ ?_
   |exact zC rfl
   |exact zD rfl
   |exact ig rfl
   |exact kl rfl
   |((with_reducible refine (id:pos _=pos _→_) ?_); exact rfl)
   |((with_reducible refine (id:pos _=0→_) ?_); exact rfl)
   |((with_reducible refine (id:Nat.ble _ _=true→_) ?_); exact rfl)
   |((with_reducible refine (id:ub _ _=true→_) ?_); exact rfl)
   |((with_reducible refine (id:xj _=true→_) ?_); exact rfl)
   |((with_reducible refine (id:hget _ _=some _→_) ?_); exact rfl)
   |with_reducible exact (id:(_:Bool)=true→_=true)
   |with_reducible exact zE
   |with_reducible refine zB ?_ ?_ ?_ ?_
   |refine zL (zD rfl) (by rfl) ?_ ?_ ?_
   |refine tO (zD rfl) (by rfl) rfl ?_ (sU ?_) ?_
   |refine tG (zD rfl) (by rfl) (by simp) (by omega) ?_
   |with_reducible exact zM
   |with_reducible refine zN (fun j hj=> ?_) ?_
   |with_reducible refine sM (fun j hj=> ?_) ?_
   |with_reducible refine qM (fun j hj=> ?_) ?_
   |refine zT (k:=2) (zD rfl) (za (n:=39) rfl) ?_
   |with_reducible rfl
 all_goals try exact (0:Nat)
 all_goals try ((with_reducible refine (id:ub _ _=true→_) ?_); exact rfl)
 all_goals first
   |omega
   |skip
theorem e45y (fR:Bool→Prop→Prop→Prop) (fS:List It→List PV→zS→Nat→Prop) (fT:PV→zS→Nat→Prop) (aa na ma:Nat) (ta:Nat→Int):
  (run fR Tryz.env true noX true 300 ⟨138,[.cd (zU Tryz.f138).body],z8 0 [.zer false],[[],[(0,(false,.cols ma [.int .i64 ta]))]],1⟩ (zr 1 [] fS fT))=
  (fT PV.nils [[(0,false,Blk.cols ma [Col.int IntKind.i64 ta])]] (1)):=by kernel_rfl
theorem c45y (aa na ma:Nat) (ta:NI) (hp:aa+na≤ma∧na≤1000000) (h0:na=0):zn Tryz.prog 138 [.zer false] [[(0,(false,.cols ma [.int .i64 ta]))]] 1 (.own 2 1 na) [(2,(true,.cols na [.int .i64 (fun j=>ta (j+aa))])):: [(0,(false,.cols ma [.int .i64 ta]))]] 40∧ ∃ F,Tryz.prog.funcs[138]? =some F∧F.body.isSome=true∧(F.name== "runtime.NumGoroutine")=false:=by
 refine @oa _ _ Tryz.envOk Tryz.mixed _ yz 138 (zU Tryz.f138) [.zer false] [[(0,(false,.cols ma [.int .i64 ta]))]] [(2,(true,.cols na [.int .i64 (fun j=>ta (j+aa))])):: [(0,(false,.cols ma [.int .i64 ta]))]] 1 40 (.own 2 1 na) true 300 rfl (by decide) (by simp) (zW rfl) _ (e45y cond _ _ aa na ma ta) ?_
 repeat' first
   |with_reducible refine zJ rfl ?_
   |with_reducible refine zd rfl ?_
   |(with_reducible refine v3 (fun h=> ?_) (fun h=> ?_))<;>(try simp only [y3,decide_eq_true_eq,decide_eq_false_iff_not,reduceCtorEq,Int.toNat_natCast,Bool.not_eq_true',Bool.not_eq_false',Bool.and_eq_true,Bool.or_eq_true,Bool.and_eq_false_iff,Bool.or_eq_false_iff,bne_iff_ne,beq_iff_eq,bne_eq_false_iff_eq,beq_eq_false_iff_ne,ne_eq] at h)
 all_goals first
   |with_reducible apply kB
   |omega
 repeat' first
   |with_reducible exact qT
   |with_reducible refine sb ?_ ?_
   |with_reducible refine zk ?_
   |with_reducible refine zc ?_
   |with_reducible refine zI ?_
   |with_reducible refine yw ?_
   |with_reducible refine zR ?_
   |with_reducible refine zj ?_
   |with_reducible refine w7 ?_
   |with_reducible exact xy
   |with_reducible refine zO ?_
   |with_reducible refine zX ?_ ?_ ?_
   |with_reducible refine u9 ?_ ?_ ?_ ?_ ?_
   |with_reducible refine yN ?_ ?_ ?_ ?_
   |with_reducible refine zQ ?_ ?_ ?_ ?_
   |with_reducible refine xd ?_ ?_ ?_ ?_
   |exact zC rfl
   |exact zD rfl
   |exact ig rfl
   |exact kl rfl
   |((with_reducible refine (id:pos _=pos _→_) ?_); exact rfl)
   |((with_reducible refine (id:pos _=0→_) ?_); exact rfl)
   |((with_reducible refine (id:Nat.ble _ _=true→_) ?_); exact rfl)
   |((with_reducible refine (id:ub _ _=true→_) ?_); exact rfl)
   |((with_reducible refine (id:xj _=true→_) ?_); exact rfl)
   |((with_reducible refine (id:hget _ _=some _→_) ?_); exact rfl)
   |with_reducible exact (id:(_:Bool)=true→_=true)
   |with_reducible exact zE
   |with_reducible refine zB ?_ ?_ ?_ ?_
   |refine zL (zD rfl) (by rfl) ?_ ?_ ?_
   |refine tO (zD rfl) (by rfl) rfl ?_ (sU ?_) ?_
   |refine tG (zD rfl) (by rfl) (by simp) (by omega) ?_
   |with_reducible exact zM
   |with_reducible refine zN (fun j hj=> ?_) ?_
   |with_reducible refine sM (fun j hj=> ?_) ?_
   |with_reducible refine qM (fun j hj=> ?_) ?_
   |refine zT (k:=2) (zD rfl) (za (n:=39) rfl) ?_
   |with_reducible rfl
 all_goals try exact (0:Nat)
 all_goals try ((with_reducible refine (id:ub _ _=true→_) ?_); exact rfl)
 all_goals first
   |omega
   |skip
theorem c45 (aa na ma:Nat) (ta:NI) (hp:aa+na≤ma∧na≤1000000):zn Tryz.prog 138 [.loose ⟨0,1,aa,0⟩ na] [[(0,(false,.cols ma [.int .i64 ta]))]] 1 (.own 2 1 na) [(2,(true,.cols na [.int .i64 (fun j=>ta (j+aa))])):: [(0,(false,.cols ma [.int .i64 ta]))]] 40∧ ∃ F,Tryz.prog.funcs[138]? =some F∧F.body.isSome=true∧(F.name== "runtime.NumGoroutine")=false:=
 ⟨pC (fun h=>(c45s aa na ma ta hp h).1) (fun h b=>by cases b; exact (c45y aa na ma ta hp h).1; exact (c45z aa na ma ta hp h).1),by
  rcases Nat.eq_zero_or_pos na with h|h
  · exact (c45y aa na ma ta hp h).2
  · exact (c45s aa na ma ta hp h).2⟩
theorem k45_ok:k45.ok Tryz.prog:=by
 intro x hx
 obtain ⟨⟨aa,na,ma,ta,_⟩,_⟩:=x
 have hp:aa+na≤ma∧na≤1000000:=of_decide_eq_true hx
 obtain ⟨h1,h2⟩:=c45 aa na ma ta hp
 exact ⟨⟨40,(by decide:1+1+1≤40),h1⟩,h2⟩
section
variable (fR:TT) (fS:KS) (fT:KR) (v:Int)
inductive St44 where
 |h0 (x0:Int) (x1:List Int)
abbrev Rt44:=List Int
noncomputable def V44 (r:Rt44):PV:= .own 1 1 r.length
noncomputable def N44 (r:Rt44):List Blk:= [CI r]
noncomputable def I44:St44→Hd
  | .h0 x0 x1=>⟨hd Tryz.f98 0,[.int .u64 x0,.own 0 1 x1.length],[[(0,(true,CI x1))],[]],1⟩
noncomputable def q44 (v:Int):St44→Option (St44⊕Rt44)| .h0 x0 x1=>bif (decide (x0>0)) then (bif (decide (x1.length+1≤1000000)) then (bif (decide (x1.length≤x1.length)) then (bif (lim .u64 (Int.tdiv x0 (1000000:Int))) then (some (.inl (.h0 (Int.tdiv x0 (1000000:Int)) (S.fZ x1 (IntKind.wrap .i64 (Int.tmod x0 (1000000:Int))))))) else none) else none) else none) else (some (.inr x1))
noncomputable def p44 (v:Int):Option (St44⊕Rt44):=some (.inl (.h0 v []))
def Te44:Prop:=fS (hd Tryz.f98 0) ([.int .u64 v,.nils]) ([[]]) 0
theorem te44:run fR Tryz.env true noX true 400 ⟨98,[.cd (zU Tryz.f98).body],z8 0 [.int .u64 v],[[],[]],0⟩ (zr 0 [0,3] fS fT)=
 Te44 fS v:=by kernel_rfl
def T44_0 (x0:Int) (x1:List Int):Prop:=fR (decide (x0>0)) (fR false False (fR (decide (x1.length+1≤1000000)) (fR (decide (x1.length≤x1.length)) (fR true (fR false False (fR (lim .u64 (Int.tdiv x0 (1000000:Int))) (fS (hd Tryz.f98 0) ([.int .u64 (Int.tdiv x0 (1000000:Int)),.own 2 1 (x1.length+1)]) ([[(2,true,.cols (x1.length+1) [.int .i64 fun j=>bif Nat.blt j x1.length then S.at' x1 j else IntKind.wrap .i64 (Int.tmod x0 (1000000:Int))])]]) 3) False)) False) False) False)) (fT (.own 0 1 x1.length) ([[(0,true,CI x1)]]) 1)
theorem t44_0 (x0:Int) (x1:List Int):run fR Tryz.env true noX true 400 ⟨98,hd Tryz.f98 0,yd [0,3] [.int .u64 x0,.own 0 1 x1.length],[[(0,(true,CI x1))],[]],1⟩ (zr 0 [0,3] fS fT)=
 T44_0 fR fS fT x0 x1:=by kernel_rfl
noncomputable abbrev J44:Rt44→zS:=fun r=> [yC (0+1) ((N44) r)++ []]
attribute [local irreducible] Int.subNatNat in
theorem a44 {r:Rt44} (h:zY ((q44 v)) ((p44 v)) r):zn Tryz.prog 98 [.int .u64 v] [[]] 0 ((V44) r) ((J44) r) 400∧HB Tryz.prog 98:=by
 refine zf Tryz.envOk Tryz.mixed yz ((I44)) ((V44)) (J44) (fn:=zU Tryz.f98) (ts:= [0,3]) (n:=400) rfl (by decide) (by simp) (zW rfl) ?_ ?_ ?_ h
 · intro s; cases s<;>exact ⟨yo _ _,by simp [I44],zW rfl,Nat.le_of_ble_eq_true rfl⟩
 · intro fS fT x hS hR h
   refine Holds.eq (te44 cond fS fT v) ?_
   unfold Te44
   exact ze hS _ h (fun n=>bif Nat.beq n 0 then 399 else n) rfl rfl rfl ⟨(zI rfl),⟨(zO rfl),trivial⟩⟩ rfl (zT (zD rfl) (za rfl) zE)
 · intro fS fT x hS hR s h
   cases s with
   |h0 x0 x1=>
    refine Holds.eq (t44_0 cond fS fT x0 x1) ?_
    unfold T44_0
    rw [q44] at h
    exact zA h (fun c0 h=>zd rfl (zA h (fun c1 h=>zA h (fun c2 h=>zJ rfl (zd rfl (zA h (fun c3 h=>ze hS _ h (fun n=>bif Nat.beq n 0 then 2 else n) rfl rfl rfl ⟨(zI rfl),⟨(zX (zD rfl) rfl (z7 rfl)),trivial⟩⟩ rfl (zL (zD rfl) rfl (Nat.le_of_eq (z7 rfl)) (zN (ym (fun (t:Int)=>t) rfl (fun _ _=>rfl)) zM) zE)) (fun c3 h=>zF h)))) (fun c2 h=>zF h)) (fun c1 h=>zF h))) (fun c0 h=>zV hR _ h (fun n=>bif Nat.beq n 1 then 0 else n) rfl rfl rfl (zX (zD rfl) rfl rfl) rfl (zL (zD rfl) rfl (Nat.le_of_eq rfl) (zN (fun _ _=>rfl) zM) zE))
end
noncomputable abbrev w44 {α:Type} (g:Int→α) (x:Int×Unit):α:=g x.1
noncomputable def k44:Con:=⟨98,[.one (.plain (.int .u64))],w44 (fun v=>decide (0≤v∧v≤9223372036854775808)),w44 (fun v=>(V44) (S.f0 v)),w44 (fun v=>(N44) (S.f0 v)),fun _ _=> .dead⟩
theorem s44' (v:Int): ∀ (k:Nat) (x:Int) (L:List Int),0≤x→x<S.pw k→x≤9223372036854775808→L.length+k≤1000→Comes (q44 v) (.h0 x L) (L++S.f0 x):=by
 intro k
 induction k with
 |zero=>
  intro x L h0 h1 h2 hl
  have:x<1:=h1
  rw [yS (by omega),List.append_nil]
  apply Comes.of
  show zY _ _ _
  (first|rw [q44]|unfold q44)
  repeat' (first|with_reducible refine zP (fun h=> ?_) (fun h=> ?_)<;>(try simp only [SH] at h)|exact zK.mpr (by omega))
  all_goals first|(exfalso; omega)|exact zG.mpr rfl
 | succ k ih=>
  intro x L h0 h1 h2 hl
  have h1:x<1000000*S.pw k:=h1
  by_cases hx:0<x
  · have ih:=ih (x / 1000000) (S.fZ L (x % 1000000)) (by omega) (by omega) (by omega) (by rw [yG]; omega)
    rw [yp,← xN hx] at ih
    apply Comes.of
    show zY _ _ _
    rw [q44,tdB h0,tmB h0,wr64 (x:=x % 1000000) (by omega)]
    repeat' (first|with_reducible refine zP (fun h=> ?_) (fun h=> ?_)<;>(try simp only [SH,limu] at h)|exact zK.mpr (by omega))
    all_goals first|(exfalso; omega)|exact ih
  · rw [yS (by omega),List.append_nil]
    apply Comes.of
    show zY _ _ _
    (first|rw [q44]|unfold q44)
    repeat' (first|with_reducible refine zP (fun h=> ?_) (fun h=> ?_)<;>(try simp only [SH] at h)|exact zK.mpr (by omega))
    all_goals first|(exfalso; omega)|exact zG.mpr rfl
theorem s44 (v:Int) (hp:0≤v∧v≤9223372036854775808):zY ((q44 v)) ((p44 v)) (S.f0 v):=by
 exact s44' v 4 v [] hp.1 (by have:S.pw 4=1000000000000000000000000:=rfl; omega) (by omega) (by decide)
theorem k44_ok:k44.ok Tryz.prog:=by
 intro x hx
 obtain ⟨v,_⟩:=x
 obtain ⟨h1,h2⟩:=a44 v (s44 v (zm hx rfl))
 exact ⟨⟨400,(by decide:0+1+1≤400),h1⟩,h2⟩
section
variable (fR:TT) (fS:KS) (fT:KR) (v:Int)
inductive St73 where
 |h0 (x0:Int) (x1:List Int)
abbrev Rt73:=List Int
noncomputable def V73 (r:Rt73):PV:= .own 1 1 r.length
noncomputable def N73 (r:Rt73):List Blk:= [CI r]
noncomputable def I73:St73→Hd
  | .h0 x0 x1=>⟨hd Tryz.f131 0,[.int .i64 x0,.own 0 1 x1.length],[[(0,(true,CI x1))],[]],1⟩
noncomputable def q73 (v:Int):St73→Option (St73⊕Rt73)| .h0 x0 x1=>bif (decide (x0>0)) then (bif (decide (x1.length+1≤1000000)) then (bif (decide (x1.length≤x1.length)) then (bif (lim .i64 (Int.tdiv x0 (1000000:Int))) then (some (.inl (.h0 (Int.tdiv x0 (1000000:Int)) (S.fZ x1 (Int.tmod x0 (1000000:Int)))))) else none) else none) else none) else (some (.inr x1))
noncomputable def p73 (v:Int):Option (St73⊕Rt73):=some (.inl (.h0 v []))
def Te73:Prop:=fS (hd Tryz.f131 0) ([.int .i64 v,.nils]) ([[]]) 0
theorem te73:run fR Tryz.env true noX true 400 ⟨131,[.cd (zU Tryz.f131).body],z8 0 [.int .i64 v],[[],[]],0⟩ (zr 0 [0,3] fS fT)=
 Te73 fS v:=by kernel_rfl
def T73_0 (x0:Int) (x1:List Int):Prop:=fR (decide (x0>0)) (fR false False (fR (decide (x1.length+1≤1000000)) (fR (decide (x1.length≤x1.length)) (fR true (fR false False (fR (lim .i64 (Int.tdiv x0 (1000000:Int))) (fS (hd Tryz.f131 0) ([.int .i64 (Int.tdiv x0 (1000000:Int)),.own 2 1 (x1.length+1)]) ([[(2,true,.cols (x1.length+1) [.int .i64 fun j=>bif Nat.blt j x1.length then S.at' x1 j else Int.tmod x0 (1000000:Int)])]]) 3) False)) False) False) False)) (fT (.own 0 1 x1.length) ([[(0,true,CI x1)]]) 1)
theorem t73_0 (x0:Int) (x1:List Int):run fR Tryz.env true noX true 400 ⟨131,hd Tryz.f131 0,yd [0,3] [.int .i64 x0,.own 0 1 x1.length],[[(0,(true,CI x1))],[]],1⟩ (zr 0 [0,3] fS fT)=
 T73_0 fR fS fT x0 x1:=by kernel_rfl
noncomputable abbrev J73:Rt73→zS:=fun r=> [yC (0+1) ((N73) r)++ []]
attribute [local irreducible] Int.subNatNat in
theorem a73 {r:Rt73} (h:zY ((q73 v)) ((p73 v)) r):zn Tryz.prog 131 [.int .i64 v] [[]] 0 ((V73) r) ((J73) r) 400∧HB Tryz.prog 131:=by
 refine zf Tryz.envOk Tryz.mixed yz ((I73)) ((V73)) (J73) (fn:=zU Tryz.f131) (ts:= [0,3]) (n:=400) rfl (by decide) (by simp) (zW rfl) ?_ ?_ ?_ h
 · intro s; cases s<;>exact ⟨yo _ _,by simp [I73],zW rfl,Nat.le_of_ble_eq_true rfl⟩
 · intro fS fT x hS hR h
   refine Holds.eq (te73 cond fS fT v) ?_
   unfold Te73
   exact ze hS _ h (fun n=>bif Nat.beq n 0 then 399 else n) rfl rfl rfl ⟨(zI rfl),⟨(zO rfl),trivial⟩⟩ rfl (zT (zD rfl) (za rfl) zE)
 · intro fS fT x hS hR s h
   cases s with
   |h0 x0 x1=>
    refine Holds.eq (t73_0 cond fS fT x0 x1) ?_
    unfold T73_0
    rw [q73] at h
    exact zA h (fun c0 h=>zd rfl (zA h (fun c1 h=>zA h (fun c2 h=>zJ rfl (zd rfl (zA h (fun c3 h=>ze hS _ h (fun n=>bif Nat.beq n 0 then 2 else n) rfl rfl rfl ⟨(zI rfl),⟨(zX (zD rfl) rfl (z7 rfl)),trivial⟩⟩ rfl (zL (zD rfl) rfl (Nat.le_of_eq (z7 rfl)) (zN (ym (fun (t:Int)=>t) rfl (fun _ _=>rfl)) zM) zE)) (fun c3 h=>zF h)))) (fun c2 h=>zF h)) (fun c1 h=>zF h))) (fun c0 h=>zV hR _ h (fun n=>bif Nat.beq n 1 then 0 else n) rfl rfl rfl (zX (zD rfl) rfl rfl) rfl (zL (zD rfl) rfl (Nat.le_of_eq rfl) (zN (fun _ _=>rfl) zM) zE))
end
noncomputable def k73:Con:=⟨131,[.one (.plain (.int .i64))],w44 (fun v=>decide (0≤v∧v≤9223372036854775807)),w44 (fun v=>(V73) (S.f0 v)),w44 (fun v=>(N73) (S.f0 v)),fun _ _=> .dead⟩
theorem s73' (v:Int): ∀ (k:Nat) (x:Int) (L:List Int),0≤x→x<S.pw k→x≤9223372036854775808→L.length+k≤1000→Comes (q73 v) (.h0 x L) (L++S.f0 x):=by
 intro k
 induction k with
 |zero=>
  intro x L h0 h1 h2 hl
  have:x<1:=h1
  rw [yS (by omega),List.append_nil]
  apply Comes.of
  show zY _ _ _
  (first|rw [q73]|unfold q73)
  repeat' (first|with_reducible refine zP (fun h=> ?_) (fun h=> ?_)<;>(try simp only [SH] at h)|exact zK.mpr (by omega))
  all_goals first|(exfalso; omega)|exact zG.mpr rfl
 | succ k ih=>
  intro x L h0 h1 h2 hl
  have h1:x<1000000*S.pw k:=h1
  by_cases hx:0<x
  · have ih:=ih (x / 1000000) (S.fZ L (x % 1000000)) (by omega) (by omega) (by omega) (by rw [yG]; omega)
    rw [yp,← xN hx] at ih
    apply Comes.of
    show zY _ _ _
    rw [q73,tdB h0,tmB h0]
    repeat' (first|with_reducible refine zP (fun h=> ?_) (fun h=> ?_)<;>(try simp only [SH] at h)|exact zK.mpr (by omega))
    all_goals first|(exfalso; omega)|exact ih
  · rw [yS (by omega),List.append_nil]
    apply Comes.of
    show zY _ _ _
    (first|rw [q73]|unfold q73)
    repeat' (first|with_reducible refine zP (fun h=> ?_) (fun h=> ?_)<;>(try simp only [SH] at h)|exact zK.mpr (by omega))
    all_goals first|(exfalso; omega)|exact zG.mpr rfl
theorem s73 (v:Int) (hp:0≤v∧v≤9223372036854775807):zY ((q73 v)) ((p73 v)) (S.f0 v):=by
 exact s73' v 4 v [] hp.1 (by have:S.pw 4=1000000000000000000000000:=rfl; omega) (by omega) (by decide)
theorem k73_ok:k73.ok Tryz.prog:=by
 intro x hx
 obtain ⟨v,_⟩:=x
 obtain ⟨h1,h2⟩:=a73 v (s73 v (zm hx rfl))
 exact ⟨⟨400,(by decide:0+1+1≤400),h1⟩,h2⟩
section
variable (fR:TT) (fS:KS) (fT:KR) (ap np mp:Nat) (tp:NI) (aq nq mq:Nat) (tq:NI)
inductive St55 where
 |h0 (x0:Int) (x1:Int) (x2:List Int)
 |h1 (x0:Int) (x1:Int) (x2:List Int)
abbrev Rt55:=List Int
noncomputable def V55 (r:Rt55):PV:= .own 3 1 r.length
noncomputable def N55 (r:Rt55):List Blk:= [CI r]
noncomputable def I55:St55→Hd
  | .h0 x0 x1 x2=>⟨hd Tryz.f115 0,[.loose ⟨0,1,ap,0⟩ np,
 .own 2 1 x2.length,.int .i64 x0,
 .loose ⟨1,1,aq,0⟩ nq,.int .i64 (nq:Int),
 .int .i64 x1],[[(2,(true,CI x2))],[(0,(false,CB mp tp)),(1,(false,CB mq tq))]],3⟩
  | .h1 x0 x1 x2=>⟨hd Tryz.f115 0,[.loose ⟨1,1,aq,0⟩ nq,
 .own 2 1 x2.length,.int .i64 x0,
 .loose ⟨0,1,ap,0⟩ np,.int .i64 (np:Int),
 .int .i64 x1],[[(2,(true,CI x2))],[(0,(false,CB mp tp)),(1,(false,CB mq tq))]],3⟩
noncomputable def q55 (ap np mp:Nat) (tp:NI) (aq nq mq:Nat) (tq:NI):St55→Option (St55⊕Rt55)| .h0 x0 x1 x2=>bif (decide (x1<(nq:Int))) then (bif (decide ((0:Int)≤x1∧x1<(nq:Int))) then (bif (decide (x1.toNat+aq<mq)) then (bif (lim .i64 (tq (x1.toNat+aq)+x0)) then (bif (decide (x1<(np:Int))) then (bif (decide ((0:Int)≤x1∧x1<(np:Int))) then (bif (decide (x1.toNat+ap<mp)) then (bif (lim .i64 (tq (x1.toNat+aq)+x0+tp (x1.toNat+ap))) then (bif (decide (tq (x1.toNat+aq)+x0+tp (x1.toNat+ap)≥1000000)) then (bif (lim .i64 (tq (x1.toNat+aq)+x0+tp (x1.toNat+ap)-1000000)) then (bif (decide (x2.length+1≤1000000)) then (bif (decide (x2.length≤x2.length)) then (bif (lim .i64 (x1+1)) then (some (.inl (.h0 ((1:Int)) (x1+1) (S.fZ x2 (tq (x1.toNat+aq)+x0+tp (x1.toNat+ap)-1000000))))) else none) else none) else none) else none) else (bif (decide (x2.length+1≤1000000)) then (bif (decide (x2.length≤x2.length)) then (bif (lim .i64 (x1+1)) then (some (.inl (.h0 ((0:Int)) (x1+1) (S.fZ x2 (tq (x1.toNat+aq)+x0+tp (x1.toNat+ap)))))) else none) else none) else none)) else none) else none) else none) else (bif (decide (tq (x1.toNat+aq)+x0≥1000000)) then (bif (lim .i64 (tq (x1.toNat+aq)+x0-1000000)) then (bif (decide (x2.length+1≤1000000)) then (bif (decide (x2.length≤x2.length)) then (bif (lim .i64 (x1+1)) then (some (.inl (.h0 ((1:Int)) (x1+1) (S.fZ x2 (tq (x1.toNat+aq)+x0-1000000))))) else none) else none) else none) else none) else (bif (decide (x2.length+1≤1000000)) then (bif (decide (x2.length≤x2.length)) then (bif (lim .i64 (x1+1)) then (some (.inl (.h0 ((0:Int)) (x1+1) (S.fZ x2 (tq (x1.toNat+aq)+x0))))) else none) else none) else none))) else none) else none) else none) else (bif (decide (x0>0)) then (bif (decide (x2.length+1≤1000000)) then (bif (decide (x2.length≤x2.length)) then (some (.inr (S.fZ x2 x0))) else none) else none) else (some (.inr x2)))| .h1 x0 x1 x2=>bif (decide (x1<(np:Int))) then (bif (decide ((0:Int)≤x1∧x1<(np:Int))) then (bif (decide (x1.toNat+ap<mp)) then (bif (lim .i64 (tp (x1.toNat+ap)+x0)) then (bif (decide (x1<(nq:Int))) then (bif (decide ((0:Int)≤x1∧x1<(nq:Int))) then (bif (decide (x1.toNat+aq<mq)) then (bif (lim .i64 (tp (x1.toNat+ap)+x0+tq (x1.toNat+aq))) then (bif (decide (tp (x1.toNat+ap)+x0+tq (x1.toNat+aq)≥1000000)) then (bif (lim .i64 (tp (x1.toNat+ap)+x0+tq (x1.toNat+aq)-1000000)) then (bif (decide (x2.length+1≤1000000)) then (bif (decide (x2.length≤x2.length)) then (bif (lim .i64 (x1+1)) then (some (.inl (.h1 ((1:Int)) (x1+1) (S.fZ x2 (tp (x1.toNat+ap)+x0+tq (x1.toNat+aq)-1000000))))) else none) else none) else none) else none) else (bif (decide (x2.length+1≤1000000)) then (bif (decide (x2.length≤x2.length)) then (bif (lim .i64 (x1+1)) then (some (.inl (.h1 ((0:Int)) (x1+1) (S.fZ x2 (tp (x1.toNat+ap)+x0+tq (x1.toNat+aq)))))) else none) else none) else none)) else none) else none) else none) else (bif (decide (tp (x1.toNat+ap)+x0≥1000000)) then (bif (lim .i64 (tp (x1.toNat+ap)+x0-1000000)) then (bif (decide (x2.length+1≤1000000)) then (bif (decide (x2.length≤x2.length)) then (bif (lim .i64 (x1+1)) then (some (.inl (.h1 ((1:Int)) (x1+1) (S.fZ x2 (tp (x1.toNat+ap)+x0-1000000))))) else none) else none) else none) else none) else (bif (decide (x2.length+1≤1000000)) then (bif (decide (x2.length≤x2.length)) then (bif (lim .i64 (x1+1)) then (some (.inl (.h1 ((0:Int)) (x1+1) (S.fZ x2 (tp (x1.toNat+ap)+x0))))) else none) else none) else none))) else none) else none) else none) else (bif (decide (x0>0)) then (bif (decide (x2.length+1≤1000000)) then (bif (decide (x2.length≤x2.length)) then (some (.inr (S.fZ x2 x0))) else none) else none) else (some (.inr x2)))
noncomputable def p55 (ap np mp:Nat) (tp:NI) (aq nq mq:Nat) (tq:NI):Option (St55⊕Rt55):=bif (decide ((np:Int)<(nq:Int))) then (bif (lim .i64 ((nq:Int)+1)) then (bif (decide ((0:Int)≤0∧(0:Int)≤(nq:Int)+1∧(nq:Int)+1≤1000000)) then (some (.inl (.h0 ((0:Int)) ((0:Int)) (S.fb 0 fun j=>0)))) else none) else none) else (bif (lim .i64 ((np:Int)+1)) then (bif (decide ((0:Int)≤0∧(0:Int)≤(np:Int)+1∧(np:Int)+1≤1000000)) then (some (.inl (.h1 ((0:Int)) ((0:Int)) (S.fb 0 fun j=>0)))) else none) else none)
def Te55:Prop:=fR (decide ((np:Int)<(nq:Int))) (fR (lim .i64 ((nq:Int)+1)) (fR (decide ((0:Int)≤0∧(0:Int)≤(nq:Int)+1∧(nq:Int)+1≤1000000)) (fS (hd Tryz.f115 0) ([.loose ⟨0,1,ap,0⟩ np,.own 2 1 0,.int .i64 0,.loose ⟨1,1,aq,0⟩ nq,.int .i64 (nq:Int),.int .i64 0]) ([[(1,false,CB mq tq),(0,false,CB mp tp),(2,true,.cols 0 [.int .i64 fun (x:Nat)=>0])]]) 3) False) False) (fR (lim .i64 ((np:Int)+1)) (fR (decide ((0:Int)≤0∧(0:Int)≤(np:Int)+1∧(np:Int)+1≤1000000)) (fS (hd Tryz.f115 0) ([.loose ⟨1,1,aq,0⟩ nq,.own 2 1 0,.int .i64 0,.loose ⟨0,1,ap,0⟩ np,.int .i64 (np:Int),.int .i64 0]) ([[(1,false,CB mq tq),(0,false,CB mp tp),(2,true,.cols 0 [.int .i64 fun (x:Nat)=>0])]]) 3) False) False)
theorem te55:run fR Tryz.env true noX true 400 ⟨115,[.cd (zU Tryz.f115).body],z8 0 [.loose ⟨0,1,ap,0⟩ np,.loose ⟨1,1,aq,0⟩ nq],[[],[(0,(false,CB mp tp)),(1,(false,CB mq tq))]],2⟩ (zr 2 [1,5,6,20,21,22] fS fT)=
 Te55 fR fS ap np mp tp aq nq mq tq:=by kernel_rfl
def T55_0 (x0 x1:Int) (x2:List Int):Prop:=fR (decide (x1<(nq:Int))) (fR (decide ((0:Int)≤x1∧x1<(nq:Int))) (fR (decide (x1.toNat+aq<mq)) (fR (lim .i64 (tq (x1.toNat+aq)+x0)) (fR (decide (x1<(np:Int))) (fR (decide ((0:Int)≤x1∧x1<(np:Int))) (fR (decide (x1.toNat+ap<mp)) (fR (lim .i64 (tq (x1.toNat+aq)+x0+tp (x1.toNat+ap))) (fR (decide (tq (x1.toNat+aq)+x0+tp (x1.toNat+ap)≥1000000)) (fR (lim .i64 (tq (x1.toNat+aq)+x0+tp (x1.toNat+ap)-1000000)) (fR (decide (x2.length+1≤1000000)) (fR (decide (x2.length≤x2.length)) (fR true (fR (lim .i64 (x1+1)) (fS (hd Tryz.f115 0) ([.loose ⟨0,1,ap,0⟩ np,.own 4 1 (x2.length+1),.int .i64 1,.loose ⟨1,1,aq,0⟩ nq,.int .i64 (nq:Int),.int .i64 (x1+1)]) ([[(1,false,CB mq tq),(0,false,CB mp tp),(4,true,.cols (x2.length+1) [.int .i64 fun j=>bif Nat.blt j x2.length then S.at' x2 j else tq (x1.toNat+aq)+x0+tp (x1.toNat+ap)-1000000])]]) 5) False) False) False) False) False) (fR (decide (x2.length+1≤1000000)) (fR (decide (x2.length≤x2.length)) (fR true (fR (lim .i64 (x1+1)) (fS (hd Tryz.f115 0) ([.loose ⟨0,1,ap,0⟩ np,.own 4 1 (x2.length+1),.int .i64 0,.loose ⟨1,1,aq,0⟩ nq,.int .i64 (nq:Int),.int .i64 (x1+1)]) ([[(1,false,CB mq tq),(0,false,CB mp tp),(4,true,.cols (x2.length+1) [.int .i64 fun j=>bif Nat.blt j x2.length then S.at' x2 j else tq (x1.toNat+aq)+x0+tp (x1.toNat+ap)])]]) 5) False) False) False) False)) False) False) False) (fR (decide (tq (x1.toNat+aq)+x0≥1000000)) (fR (lim .i64 (tq (x1.toNat+aq)+x0-1000000)) (fR (decide (x2.length+1≤1000000)) (fR (decide (x2.length≤x2.length)) (fR true (fR (lim .i64 (x1+1)) (fS (hd Tryz.f115 0) ([.loose ⟨0,1,ap,0⟩ np,.own 4 1 (x2.length+1),.int .i64 1,.loose ⟨1,1,aq,0⟩ nq,.int .i64 (nq:Int),.int .i64 (x1+1)]) ([[(1,false,CB mq tq),(0,false,CB mp tp),(4,true,.cols (x2.length+1) [.int .i64 fun j=>bif Nat.blt j x2.length then S.at' x2 j else tq (x1.toNat+aq)+x0-1000000])]]) 5) False) False) False) False) False) (fR (decide (x2.length+1≤1000000)) (fR (decide (x2.length≤x2.length)) (fR true (fR (lim .i64 (x1+1)) (fS (hd Tryz.f115 0) ([.loose ⟨0,1,ap,0⟩ np,.own 4 1 (x2.length+1),.int .i64 0,.loose ⟨1,1,aq,0⟩ nq,.int .i64 (nq:Int),.int .i64 (x1+1)]) ([[(1,false,CB mq tq),(0,false,CB mp tp),(4,true,.cols (x2.length+1) [.int .i64 fun j=>bif Nat.blt j x2.length then S.at' x2 j else tq (x1.toNat+aq)+x0])]]) 5) False) False) False) False))) False) False) False) (fR (decide (x0>0)) (fR (decide (x2.length+1≤1000000)) (fR (decide (x2.length≤x2.length)) (fR true (fT (.own 4 1 (x2.length+1)) ([[(1,false,CB mq tq),(0,false,CB mp tp),(4,true,.cols (x2.length+1) [.int .i64 fun j=>bif Nat.blt j x2.length then S.at' x2 j else x0])]]) 5) False) False) False) (fT (.own 2 1 x2.length) ([[(1,false,CB mq tq),(0,false,CB mp tp),(2,true,CI x2)]]) 3))
theorem t55_0 (x0 x1:Int) (x2:List Int):run fR Tryz.env true noX true 400 ⟨115,hd Tryz.f115 0,yd [1,5,6,20,21,22] [.loose ⟨0,1,ap,0⟩ np,
 .own 2 1 x2.length,.int .i64 x0,
 .loose ⟨1,1,aq,0⟩ nq,.int .i64 (nq:Int),
 .int .i64 x1],[[(2,(true,CI x2))],[(0,(false,CB mp tp)),(1,(false,CB mq tq))]],3⟩ (zr 2 [1,5,6,20,21,22] fS fT)=
  T55_0 fR fS fT ap np mp tp aq nq mq tq x0 x1 x2:=by kernel_rfl
def T55_1 (x0 x1:Int) (x2:List Int):Prop:=fR (decide (x1<(np:Int))) (fR (decide ((0:Int)≤x1∧x1<(np:Int))) (fR (decide (x1.toNat+ap<mp)) (fR (lim .i64 (tp (x1.toNat+ap)+x0)) (fR (decide (x1<(nq:Int))) (fR (decide ((0:Int)≤x1∧x1<(nq:Int))) (fR (decide (x1.toNat+aq<mq)) (fR (lim .i64 (tp (x1.toNat+ap)+x0+tq (x1.toNat+aq))) (fR (decide (tp (x1.toNat+ap)+x0+tq (x1.toNat+aq)≥1000000)) (fR (lim .i64 (tp (x1.toNat+ap)+x0+tq (x1.toNat+aq)-1000000)) (fR (decide (x2.length+1≤1000000)) (fR (decide (x2.length≤x2.length)) (fR true (fR (lim .i64 (x1+1)) (fS (hd Tryz.f115 0) ([.loose ⟨1,1,aq,0⟩ nq,.own 4 1 (x2.length+1),.int .i64 1,.loose ⟨0,1,ap,0⟩ np,.int .i64 (np:Int),.int .i64 (x1+1)]) ([[(1,false,CB mq tq),(0,false,CB mp tp),(4,true,.cols (x2.length+1) [.int .i64 fun j=>bif Nat.blt j x2.length then S.at' x2 j else tp (x1.toNat+ap)+x0+tq (x1.toNat+aq)-1000000])]]) 5) False) False) False) False) False) (fR (decide (x2.length+1≤1000000)) (fR (decide (x2.length≤x2.length)) (fR true (fR (lim .i64 (x1+1)) (fS (hd Tryz.f115 0) ([.loose ⟨1,1,aq,0⟩ nq,.own 4 1 (x2.length+1),.int .i64 0,.loose ⟨0,1,ap,0⟩ np,.int .i64 (np:Int),.int .i64 (x1+1)]) ([[(1,false,CB mq tq),(0,false,CB mp tp),(4,true,.cols (x2.length+1) [.int .i64 fun j=>bif Nat.blt j x2.length then S.at' x2 j else tp (x1.toNat+ap)+x0+tq (x1.toNat+aq)])]]) 5) False) False) False) False)) False) False) False) (fR (decide (tp (x1.toNat+ap)+x0≥1000000)) (fR (lim .i64 (tp (x1.toNat+ap)+x0-1000000)) (fR (decide (x2.length+1≤1000000)) (fR (decide (x2.length≤x2.length)) (fR true (fR (lim .i64 (x1+1)) (fS (hd Tryz.f115 0) ([.loose ⟨1,1,aq,0⟩ nq,.own 4 1 (x2.length+1),.int .i64 1,.loose ⟨0,1,ap,0⟩ np,.int .i64 (np:Int),.int .i64 (x1+1)]) ([[(1,false,CB mq tq),(0,false,CB mp tp),(4,true,.cols (x2.length+1) [.int .i64 fun j=>bif Nat.blt j x2.length then S.at' x2 j else tp (x1.toNat+ap)+x0-1000000])]]) 5) False) False) False) False) False) (fR (decide (x2.length+1≤1000000)) (fR (decide (x2.length≤x2.length)) (fR true (fR (lim .i64 (x1+1)) (fS (hd Tryz.f115 0) ([.loose ⟨1,1,aq,0⟩ nq,.own 4 1 (x2.length+1),.int .i64 0,.loose ⟨0,1,ap,0⟩ np,.int .i64 (np:Int),.int .i64 (x1+1)]) ([[(1,false,CB mq tq),(0,false,CB mp tp),(4,true,.cols (x2.length+1) [.int .i64 fun j=>bif Nat.blt j x2.length then S.at' x2 j else tp (x1.toNat+ap)+x0])]]) 5) False) False) False) False))) False) False) False) (fR (decide (x0>0)) (fR (decide (x2.length+1≤1000000)) (fR (decide (x2.length≤x2.length)) (fR true (fT (.own 4 1 (x2.length+1)) ([[(1,false,CB mq tq),(0,false,CB mp tp),(4,true,.cols (x2.length+1) [.int .i64 fun j=>bif Nat.blt j x2.length then S.at' x2 j else x0])]]) 5) False) False) False) (fT (.own 2 1 x2.length) ([[(1,false,CB mq tq),(0,false,CB mp tp),(2,true,CI x2)]]) 3))
theorem t55_1 (x0 x1:Int) (x2:List Int):run fR Tryz.env true noX true 400 ⟨115,hd Tryz.f115 0,yd [1,5,6,20,21,22] [.loose ⟨1,1,aq,0⟩ nq,
 .own 2 1 x2.length,.int .i64 x0,
 .loose ⟨0,1,ap,0⟩ np,.int .i64 (np:Int),
 .int .i64 x1],[[(2,(true,CI x2))],[(0,(false,CB mp tp)),(1,(false,CB mq tq))]],3⟩ (zr 2 [1,5,6,20,21,22] fS fT)=
  T55_1 fR fS fT ap np mp tp aq nq mq tq x0 x1 x2:=by kernel_rfl
noncomputable abbrev J55:Rt55→zS:=fun r=> [yC (2+1) ((N55) r)++ [(0,(false,CB mp tp)),(1,(false,CB mq tq))]]
attribute [local irreducible] Int.subNatNat in
theorem a55 {r:Rt55} (h:zY ((q55 ap np mp tp aq nq mq tq)) ((p55 ap np mp tp aq nq mq tq)) r):zn Tryz.prog 115 [.loose ⟨0,1,ap,0⟩ np,.loose ⟨1,1,aq,0⟩ nq] [[(0,(false,CB mp tp)),(1,(false,CB mq tq))]] 2 ((V55) r) ((J55 mp tp mq tq) r) 400∧HB Tryz.prog 115:=by
 refine zf Tryz.envOk Tryz.mixed yz ((I55 ap np mp tp aq nq mq tq)) ((V55)) (J55 mp tp mq tq) (fn:=zU Tryz.f115) (ts:= [1,5,6,20,21,22]) (n:=400) rfl (by decide) (by simp) (zW rfl) ?_ ?_ ?_ h
 · intro s; cases s<;>exact ⟨yo _ _,by simp [I55],zW rfl,Nat.le_of_ble_eq_true rfl⟩
 · intro fS fT x hS hR h
   refine Holds.eq (te55 cond fS fT ap np mp tp aq nq mq tq) ?_
   unfold Te55
   unfold p55 at h
   refine zA h (fun c0 h=>zA h (fun c1 h=>zA h (fun c2 h=> ?_) (fun c2 h=> ?_)) (fun c1 h=> ?_)) (fun c0 h=>zA h (fun c1 h=>zA h (fun c2 h=> ?_) (fun c2 h=> ?_)) (fun c1 h=> ?_))
   all_goals first
     |exact zF h
     |exact ze hS _ h (fun n=>bif Nat.beq n 2 then 2 else n) rfl rfl rfl ⟨(zQ (zC rfl) rfl rfl rfl),⟨(zX (zD rfl) rfl zZ),⟨(zI rfl),⟨(zQ (zC rfl) rfl rfl rfl),⟨(zI rfl),⟨(zI rfl),trivial⟩⟩⟩⟩⟩⟩ rfl (zL (zD rfl) rfl (Nat.le_of_eq zZ) (zN (fun _ hj=>z4 (fun (t:Int)=>t) hj) zM) (zB (zC rfl) rfl rfl (zB (zC rfl) rfl rfl zE)))
 · intro fS fT x hS hR s h
   cases s with
   | h0 x0 x1 x2=>
    refine Holds.eq (t55_0 cond fS fT ap np mp tp aq nq mq tq x0 x1 x2) ?_
    unfold T55_0
    rw [q55] at h
    refine zA h (fun c0 h=>zA h (fun c1 h=>zA h (fun c2 h=>zA h (fun c3 h=>zA h (fun c4 h=>zA h (fun c5 h=>zA h (fun c6 h=>zA h (fun c7 h=>zA h (fun c8 h=>zA h (fun c9 h=>zA h (fun c10 h=>zA h (fun c11 h=>zJ rfl (zA h (fun c12 h=> ?_) (fun c12 h=> ?_))) (fun c11 h=> ?_)) (fun c10 h=> ?_)) (fun c9 h=> ?_)) (fun c8 h=>zA h (fun c9 h=>zA h (fun c10 h=>zJ rfl (zA h (fun c11 h=> ?_) (fun c11 h=> ?_))) (fun c10 h=> ?_)) (fun c9 h=> ?_))) (fun c7 h=> ?_)) (fun c6 h=> ?_)) (fun c5 h=> ?_)) (fun c4 h=>zA h (fun c5 h=>zA h (fun c6 h=>zA h (fun c7 h=>zA h (fun c8 h=>zJ rfl (zA h (fun c9 h=> ?_) (fun c9 h=> ?_))) (fun c8 h=> ?_)) (fun c7 h=> ?_)) (fun c6 h=> ?_)) (fun c5 h=>zA h (fun c6 h=>zA h (fun c7 h=>zJ rfl (zA h (fun c8 h=> ?_) (fun c8 h=> ?_))) (fun c7 h=> ?_)) (fun c6 h=> ?_)))) (fun c3 h=> ?_)) (fun c2 h=> ?_)) (fun c1 h=> ?_)) (fun c0 h=>zA h (fun c1 h=>zA h (fun c2 h=>zA h (fun c3 h=>zJ rfl (zV hR _ h (fun n=>bif Nat.beq n 3 then 4 else n) rfl rfl rfl (zX (zD rfl) rfl (z7 rfl)) rfl (zL (zD rfl) rfl (Nat.le_of_eq (z7 rfl)) (zN (ym (fun (t:Int)=>t) rfl (fun _ _=>rfl)) zM) (zB (zC rfl) rfl rfl (zB (zC rfl) rfl rfl zE))))) (fun c3 h=> ?_)) (fun c2 h=> ?_)) (fun c1 h=>zV hR _ h (fun n=>bif Nat.beq n 3 then 2 else n) rfl rfl rfl (zX (zD rfl) rfl rfl) rfl (zL (zD rfl) rfl (Nat.le_of_eq rfl) (zN (fun _ _=>rfl) zM) (zB (zC rfl) rfl rfl (zB (zC rfl) rfl rfl zE)))))
    all_goals first
      |exact zF h
      |exact ze hS _ h (fun n=>bif Nat.beq n 2 then 4 else n) rfl rfl rfl ⟨(zQ (zC rfl) rfl rfl rfl),⟨(zX (zD rfl) rfl (z7 rfl)),⟨(zI rfl),⟨(zQ (zC rfl) rfl rfl rfl),⟨(zI rfl),⟨(zI rfl),trivial⟩⟩⟩⟩⟩⟩ rfl (zL (zD rfl) rfl (Nat.le_of_eq (z7 rfl)) (zN (ym (fun (t:Int)=>t) rfl (fun _ _=>rfl)) zM) (zB (zC rfl) rfl rfl (zB (zC rfl) rfl rfl zE)))
   | h1 x0 x1 x2=>
    refine Holds.eq (t55_1 cond fS fT ap np mp tp aq nq mq tq x0 x1 x2) ?_
    unfold T55_1
    rw [q55] at h
    refine zA h (fun c0 h=>zA h (fun c1 h=>zA h (fun c2 h=>zA h (fun c3 h=>zA h (fun c4 h=>zA h (fun c5 h=>zA h (fun c6 h=>zA h (fun c7 h=>zA h (fun c8 h=>zA h (fun c9 h=>zA h (fun c10 h=>zA h (fun c11 h=>zJ rfl (zA h (fun c12 h=> ?_) (fun c12 h=> ?_))) (fun c11 h=> ?_)) (fun c10 h=> ?_)) (fun c9 h=> ?_)) (fun c8 h=>zA h (fun c9 h=>zA h (fun c10 h=>zJ rfl (zA h (fun c11 h=> ?_) (fun c11 h=> ?_))) (fun c10 h=> ?_)) (fun c9 h=> ?_))) (fun c7 h=> ?_)) (fun c6 h=> ?_)) (fun c5 h=> ?_)) (fun c4 h=>zA h (fun c5 h=>zA h (fun c6 h=>zA h (fun c7 h=>zA h (fun c8 h=>zJ rfl (zA h (fun c9 h=> ?_) (fun c9 h=> ?_))) (fun c8 h=> ?_)) (fun c7 h=> ?_)) (fun c6 h=> ?_)) (fun c5 h=>zA h (fun c6 h=>zA h (fun c7 h=>zJ rfl (zA h (fun c8 h=> ?_) (fun c8 h=> ?_))) (fun c7 h=> ?_)) (fun c6 h=> ?_)))) (fun c3 h=> ?_)) (fun c2 h=> ?_)) (fun c1 h=> ?_)) (fun c0 h=>zA h (fun c1 h=>zA h (fun c2 h=>zA h (fun c3 h=>zJ rfl (zV hR _ h (fun n=>bif Nat.beq n 3 then 4 else n) rfl rfl rfl (zX (zD rfl) rfl (z7 rfl)) rfl (zL (zD rfl) rfl (Nat.le_of_eq (z7 rfl)) (zN (ym (fun (t:Int)=>t) rfl (fun _ _=>rfl)) zM) (zB (zC rfl) rfl rfl (zB (zC rfl) rfl rfl zE))))) (fun c3 h=> ?_)) (fun c2 h=> ?_)) (fun c1 h=>zV hR _ h (fun n=>bif Nat.beq n 3 then 2 else n) rfl rfl rfl (zX (zD rfl) rfl rfl) rfl (zL (zD rfl) rfl (Nat.le_of_eq rfl) (zN (fun _ _=>rfl) zM) (zB (zC rfl) rfl rfl (zB (zC rfl) rfl rfl zE)))))
    all_goals first
      |exact zF h
      |exact ze hS _ h (fun n=>bif Nat.beq n 2 then 4 else n) rfl rfl rfl ⟨(zQ (zC rfl) rfl rfl rfl),⟨(zX (zD rfl) rfl (z7 rfl)),⟨(zI rfl),⟨(zQ (zC rfl) rfl rfl rfl),⟨(zI rfl),⟨(zI rfl),trivial⟩⟩⟩⟩⟩⟩ rfl (zL (zD rfl) rfl (Nat.le_of_eq (z7 rfl)) (zN (ym (fun (t:Int)=>t) rfl (fun _ _=>rfl)) zM) (zB (zC rfl) rfl rfl (zB (zC rfl) rfl rfl zE)))
end
noncomputable def k55:Con:=⟨115,[.one (.list [.int .i64]),.one (.list [.int .i64])],w60 (fun ap np mp tp aq nq mq tq=>decide ((ap+np≤mp∧aq+nq≤mq)∧(np≤1000∧nq≤1000)∧S.fW np (FS tp ap)=true∧S.fW nq (FS tq aq)=true)),w60 (fun ap np mp tp aq nq mq tq=>(V55) (S.f0 (S.val np (FS tp ap)+S.val nq (FS tq aq)))),w60 (fun ap np mp tp aq nq mq tq=>(N55) (S.f0 (S.val np (FS tp ap)+S.val nq (FS tq aq)))),fun _ _=> .dead⟩
theorem s55_h1 (ap np mp:Nat) (tp:Nat→Int) (aq nq mq:Nat) (tq:Nat→Int) (hp:ap+np≤mp∧aq+nq≤mq) (hn:nq≤np∧np≤1000) (g1:S.fW np (fun j=>tp (j+ap))=true) (g2:S.fW nq (fun j=>tq (j+aq))=true): ∀ (k i:Nat) (c:Int) (L:List Int),i+k=np→L.length=i→(0≤c∧c≤1)→Comes (q55 ap np mp tp aq nq mq tq) (.h1 c (i:Int) L) (L++S.f0 (c+S.fU (fun j=>tp (j+ap)) i k+S.fU (S.ext nq (fun j=>tq (j+aq))) i k)):=by
 obtain ⟨hp1,hp2⟩:=hp
 have d1:=(zp.mp g1).1
 have d2:=(zp.mp g2).1
 intro k
 induction k with
 | zero=>
  intro i c L hi hL hc
  simp only [S.fU]
  apply Comes.of
  by_cases h0:c=0
  · subst h0
    simp only [Int.add_zero,yQ,List.append_nil]
    show zY _ _ _
    (first|rw [q55]|unfold q55)
    repeat' (first|with_reducible refine zP (fun h=> ?_) (fun h=> ?_)<;>(try simp only [SH] at h)|exact zK.mpr (by omega))
    all_goals first|(exfalso; omega)|exact zG.mpr rfl
  · have:c=1:=by omega
    subst this
    simp only [Int.add_zero,ud,← wC]
    show zY _ _ _
    (first|rw [q55]|unfold q55)
    repeat' (first|with_reducible refine zP (fun h=> ?_) (fun h=> ?_)<;>(try simp only [SH] at h)|exact zK.mpr (by omega))
    all_goals first|(exfalso; omega)|exact zG.mpr rfl
 | succ k ih=>
  intro i c L hi hL hc
  have hpos:=ol g1 (i:=i) (by omega)
  rw [show np-i=k+1 by omega] at hpos
  have hb:=d1 i (by omega)
  have hb2:=vn d2 i
  have n1:=yI (t:=(fun j=>tp (j+ap))) (k:=k) (i:=i+1) fun j h1 h2=>(d1 j (by omega)).1
  have n2:=yI (t:=S.ext nq (fun j=>tq (j+aq))) (k:=k) (i:=i+1) fun j h1 h2=>(vn d2 j).1
  have ih0:=ih (i+1) 0 (S.fZ L (tp (i+ap)+c+S.ext nq (fun j=>tq (j+aq)) i)) (by omega) (by rw [yG]; omega) (by omega)
  have ih1:=ih (i+1) 1 (S.fZ L (tp (i+ap)+c+S.ext nq (fun j=>tq (j+aq)) i-1000000)) (by omega) (by rw [yG]; omega) (by omega)
  rw [yp] at ih0 ih1
  simp only [S.fU] at hpos ⊢
  (try dsimp only at hb)
  generalize S.fU (fun j=>tp (j+ap)) (i+1) k=vp at*
  generalize S.fU (S.ext nq (fun j=>tq (j+aq))) (i+1) k=vq at*
  have t0:tp (i+ap)+c+S.ext nq (fun j=>tq (j+aq)) i<1000000→S.f0 (c+(tp (i+ap)+1000000*vp)+(S.ext nq (fun j=>tq (j+aq)) i+1000000*vq))=(tp (i+ap)+c+S.ext nq (fun j=>tq (j+aq)) i)::S.f0 (0+vp+vq):=fun h=>by
   rw [show c+(tp (i+ap)+1000000*vp)+(S.ext nq (fun j=>tq (j+aq)) i+1000000*vq)=(tp (i+ap)+c+S.ext nq (fun j=>tq (j+aq)) i)+1000000*(0+vp+vq) by omega]
   exact wZ (by omega) (by omega) (by omega)
  have t1:1000000≤tp (i+ap)+c+S.ext nq (fun j=>tq (j+aq)) i→S.f0 (c+(tp (i+ap)+1000000*vp)+(S.ext nq (fun j=>tq (j+aq)) i+1000000*vq))=(tp (i+ap)+c+S.ext nq (fun j=>tq (j+aq)) i-1000000)::S.f0 (1+vp+vq):=fun h=>by
   rw [show c+(tp (i+ap)+1000000*vp)+(S.ext nq (fun j=>tq (j+aq)) i+1000000*vq)=(tp (i+ap)+c+S.ext nq (fun j=>tq (j+aq)) i-1000000)+1000000*(1+vp+vq) by omega]
   exact wZ (by omega) (by omega) (by omega)
  by_cases hq:i<nq
  · have e:S.ext nq (fun j=>tq (j+aq)) i=tq (i+aq):=if_pos hq
    rw [e] at t0 t1 ih0 ih1 hb2 ⊢
    by_cases h0:tp (i+ap)+c+tq (i+aq)<1000000
    · rw [t0 h0]
      apply Comes.of
      show zY _ _ _
      (first|rw [q55]|unfold q55)
      repeat' (first|with_reducible refine zP (fun h=> ?_) (fun h=> ?_)<;>(try simp only [SH] at h)|exact zK.mpr (by omega))
      all_goals first|(exfalso; omega)|exact ih0
    · rw [t1 (by omega)]
      apply Comes.of
      show zY _ _ _
      (first|rw [q55]|unfold q55)
      repeat' (first|with_reducible refine zP (fun h=> ?_) (fun h=> ?_)<;>(try simp only [SH] at h)|exact zK.mpr (by omega))
      all_goals first|(exfalso; omega)|exact ih1
  · have e:S.ext nq (fun j=>tq (j+aq)) i=0:=if_neg hq
    simp only [e,Int.add_zero] at t0 t1 ih0 ih1 hb2 ⊢
    by_cases h0:tp (i+ap)+c<1000000
    · rw [t0 h0]
      apply Comes.of
      show zY _ _ _
      (first|rw [q55]|unfold q55)
      repeat' (first|with_reducible refine zP (fun h=> ?_) (fun h=> ?_)<;>(try simp only [SH] at h)|exact zK.mpr (by omega))
      all_goals first|(exfalso; omega)|exact ih0
    · rw [t1 (by omega)]
      apply Comes.of
      show zY _ _ _
      (first|rw [q55]|unfold q55)
      repeat' (first|with_reducible refine zP (fun h=> ?_) (fun h=> ?_)<;>(try simp only [SH] at h)|exact zK.mpr (by omega))
      all_goals first|(exfalso; omega)|exact ih1
theorem s55_h0 (ap np mp:Nat) (tp:Nat→Int) (aq nq mq:Nat) (tq:Nat→Int) (hp:ap+np≤mp∧aq+nq≤mq) (hn:np≤nq∧nq≤1000) (g1:S.fW nq (fun j=>tq (j+aq))=true) (g2:S.fW np (fun j=>tp (j+ap))=true): ∀ (k i:Nat) (c:Int) (L:List Int),i+k=nq→L.length=i→(0≤c∧c≤1)→Comes (q55 ap np mp tp aq nq mq tq) (.h0 c (i:Int) L) (L++S.f0 (c+S.fU (fun j=>tq (j+aq)) i k+S.fU (S.ext np (fun j=>tp (j+ap))) i k)):=by
 obtain ⟨hp1,hp2⟩:=hp
 have d1:=(zp.mp g1).1
 have d2:=(zp.mp g2).1
 intro k
 induction k with
 | zero=>
  intro i c L hi hL hc
  simp only [S.fU]
  apply Comes.of
  by_cases h0:c=0
  · subst h0
    simp only [Int.add_zero,yQ,List.append_nil]
    show zY _ _ _
    (first|rw [q55]|unfold q55)
    repeat' (first|with_reducible refine zP (fun h=> ?_) (fun h=> ?_)<;>(try simp only [SH] at h)|exact zK.mpr (by omega))
    all_goals first|(exfalso; omega)|exact zG.mpr rfl
  · have:c=1:=by omega
    subst this
    simp only [Int.add_zero,ud,← wC]
    show zY _ _ _
    (first|rw [q55]|unfold q55)
    repeat' (first|with_reducible refine zP (fun h=> ?_) (fun h=> ?_)<;>(try simp only [SH] at h)|exact zK.mpr (by omega))
    all_goals first|(exfalso; omega)|exact zG.mpr rfl
 | succ k ih=>
  intro i c L hi hL hc
  have hpos:=ol g1 (i:=i) (by omega)
  rw [show nq-i=k+1 by omega] at hpos
  have hb:=d1 i (by omega)
  have hb2:=vn d2 i
  have n1:=yI (t:=(fun j=>tq (j+aq))) (k:=k) (i:=i+1) fun j h1 h2=>(d1 j (by omega)).1
  have n2:=yI (t:=S.ext np (fun j=>tp (j+ap))) (k:=k) (i:=i+1) fun j h1 h2=>(vn d2 j).1
  have ih0:=ih (i+1) 0 (S.fZ L (tq (i+aq)+c+S.ext np (fun j=>tp (j+ap)) i)) (by omega) (by rw [yG]; omega) (by omega)
  have ih1:=ih (i+1) 1 (S.fZ L (tq (i+aq)+c+S.ext np (fun j=>tp (j+ap)) i-1000000)) (by omega) (by rw [yG]; omega) (by omega)
  rw [yp] at ih0 ih1
  simp only [S.fU] at hpos ⊢
  (try dsimp only at hb)
  generalize S.fU (fun j=>tq (j+aq)) (i+1) k=vp at*
  generalize S.fU (S.ext np (fun j=>tp (j+ap))) (i+1) k=vq at*
  have t0:tq (i+aq)+c+S.ext np (fun j=>tp (j+ap)) i<1000000→S.f0 (c+(tq (i+aq)+1000000*vp)+(S.ext np (fun j=>tp (j+ap)) i+1000000*vq))=(tq (i+aq)+c+S.ext np (fun j=>tp (j+ap)) i)::S.f0 (0+vp+vq):=fun h=>by
   rw [show c+(tq (i+aq)+1000000*vp)+(S.ext np (fun j=>tp (j+ap)) i+1000000*vq)=(tq (i+aq)+c+S.ext np (fun j=>tp (j+ap)) i)+1000000*(0+vp+vq) by omega]
   exact wZ (by omega) (by omega) (by omega)
  have t1:1000000≤tq (i+aq)+c+S.ext np (fun j=>tp (j+ap)) i→S.f0 (c+(tq (i+aq)+1000000*vp)+(S.ext np (fun j=>tp (j+ap)) i+1000000*vq))=(tq (i+aq)+c+S.ext np (fun j=>tp (j+ap)) i-1000000)::S.f0 (1+vp+vq):=fun h=>by
   rw [show c+(tq (i+aq)+1000000*vp)+(S.ext np (fun j=>tp (j+ap)) i+1000000*vq)=(tq (i+aq)+c+S.ext np (fun j=>tp (j+ap)) i-1000000)+1000000*(1+vp+vq) by omega]
   exact wZ (by omega) (by omega) (by omega)
  by_cases hq:i<np
  · have e:S.ext np (fun j=>tp (j+ap)) i=tp (i+ap):=if_pos hq
    rw [e] at t0 t1 ih0 ih1 hb2 ⊢
    by_cases h0:tq (i+aq)+c+tp (i+ap)<1000000
    · rw [t0 h0]
      apply Comes.of
      show zY _ _ _
      (first|rw [q55]|unfold q55)
      repeat' (first|with_reducible refine zP (fun h=> ?_) (fun h=> ?_)<;>(try simp only [SH] at h)|exact zK.mpr (by omega))
      all_goals first|(exfalso; omega)|exact ih0
    · rw [t1 (by omega)]
      apply Comes.of
      show zY _ _ _
      (first|rw [q55]|unfold q55)
      repeat' (first|with_reducible refine zP (fun h=> ?_) (fun h=> ?_)<;>(try simp only [SH] at h)|exact zK.mpr (by omega))
      all_goals first|(exfalso; omega)|exact ih1
  · have e:S.ext np (fun j=>tp (j+ap)) i=0:=if_neg hq
    simp only [e,Int.add_zero] at t0 t1 ih0 ih1 hb2 ⊢
    by_cases h0:tq (i+aq)+c<1000000
    · rw [t0 h0]
      apply Comes.of
      show zY _ _ _
      (first|rw [q55]|unfold q55)
      repeat' (first|with_reducible refine zP (fun h=> ?_) (fun h=> ?_)<;>(try simp only [SH] at h)|exact zK.mpr (by omega))
      all_goals first|(exfalso; omega)|exact ih0
    · rw [t1 (by omega)]
      apply Comes.of
      show zY _ _ _
      (first|rw [q55]|unfold q55)
      repeat' (first|with_reducible refine zP (fun h=> ?_) (fun h=> ?_)<;>(try simp only [SH] at h)|exact zK.mpr (by omega))
      all_goals first|(exfalso; omega)|exact ih1
theorem s55 (ap np mp:Nat) (tp:Nat→Int) (aq nq mq:Nat) (tq:Nat→Int) (hp:(ap+np≤mp∧aq+nq≤mq)∧(np≤1000∧nq≤1000)∧S.fW np (fun j=>tp (j+ap))=true∧S.fW nq (fun j=>tq (j+aq))=true):zY ((q55 ap np mp tp aq nq mq tq)) ((p55 ap np mp tp aq nq mq tq)) (S.f0 (S.val np (fun j=>tp (j+ap))+S.val nq (fun j=>tq (j+aq)))):=by
 obtain ⟨hp1,⟨hp2,hp3⟩,g1,g2⟩:=hp
 by_cases hn:np<nq
 · have hm:=s55_h0 ap np mp tp aq nq mq tq hp1 (by omega) g2 g1 nq 0 0 [] (by omega) rfl (by omega)
   rw [uT,Nat.sub_zero,Nat.min_eq_right (by omega),Int.zero_add,List.nil_append,Int.add_comm] at hm
   have e0:(S.fb 0 fun _=>(0:Int))= []:=rfl
   show zY _ _ _
   unfold p55
   repeat' (first|with_reducible refine zP (fun h=> ?_) (fun h=> ?_)<;>(try simp only [SH] at h)|exact zK.mpr (by omega))
   all_goals first|(exfalso; omega)|exact hm
 · have hm:=s55_h1 ap np mp tp aq nq mq tq hp1 (by omega) g1 g2 np 0 0 [] (by omega) rfl (by omega)
   rw [uT,Nat.sub_zero,Nat.min_eq_right (by omega),Int.zero_add,List.nil_append] at hm
   show zY _ _ _
   unfold p55
   repeat' (first|with_reducible refine zP (fun h=> ?_) (fun h=> ?_)<;>(try simp only [SH] at h)|exact zK.mpr (by omega))
   all_goals first|(exfalso; omega)|exact hm
theorem k55_ok:k55.ok Tryz.prog:=by
 intro x hx
 obtain ⟨⟨ap,np,mp,tp,_⟩,⟨aq,nq,mq,tq,_⟩,_⟩:=x
 obtain ⟨h1,h2⟩:=a55 ap np mp tp aq nq mq tq (s55 ap np mp tp aq nq mq tq (zm hx rfl))
 exact ⟨⟨400,(by decide:2+1+1≤400),h1⟩,h2⟩
noncomputable def xB0 (fR:Bool→Prop→Prop→Prop):Ext:=y2 fR [k69,k65,k69v,k65v,k60,k61,k44,k73,k55,k45]
theorem uF:yT Tryz.prog (xB0 cond):=yH ⟨k69_ok,k65_ok,k69v_ok,k65v_ok,k60_ok,k61_ok,k44_ok,k73_ok,k55_ok,k45_ok,trivial⟩
namespace S
noncomputable def eY (v:Int):Nat×List Int:=((f0 v).length,f0 v)
def fy (ng:Bool) (v:Int):Bool:=ng&&decide (0<v)
end S
section
variable (fR:TT) (fS:KS) (fT:KR) (ap np mp:Nat) (tp:NI) (aq nq mq:Nat) (tq:NI)
inductive St58 where
 |h0 (x0:Int) (x1:Int) (x2:List Int)
abbrev Rt58:=Nat×List Int
noncomputable def V58 (r:Rt58):PV:= .loose ⟨3,1,0,0⟩ r.1
noncomputable def N58 (r:Rt58):List Blk:= [CI r.2]
noncomputable def I58:St58→Hd
  | .h0 x0 x1 x2=>⟨hd Tryz.f117 0,[.loose ⟨0,1,ap,0⟩ np,
 .loose ⟨1,1,aq,0⟩ nq,
 .own 2 1 x2.length,.int .i64 x0,.int .i64 x1],[[(2,(true,CI x2))],[(0,(false,CB mp tp)),(1,(false,CB mq tq))]],3⟩
noncomputable def q58 (ap np mp:Nat) (tp:NI) (aq nq mq:Nat) (tq:NI):St58→Option (St58⊕Rt58)| .h0 x0 x1 x2=>bif (decide (x1<(np:Int))) then (bif (decide ((0:Int)≤x1∧x1<(np:Int))) then (bif (decide (x1.toNat+ap<mp)) then (bif (decide (x1<(nq:Int))) then (bif (decide ((0:Int)≤x1∧x1<(nq:Int))) then (bif (decide (x1.toNat+aq<mq)) then (bif (lim .i64 (tp (x1.toNat+ap)+tq (x1.toNat+aq))) then (bif (lim .i64 (tp (x1.toNat+ap)+tq (x1.toNat+aq)+x0)) then (bif (decide (x2.length+1≤1000000)) then (bif (decide (x2.length≤x2.length)) then (bif (lim .i64 (Int.tdiv (tp (x1.toNat+ap)+tq (x1.toNat+aq)+x0) (1000000:Int))) then (bif (lim .i64 (x1+1)) then (some (.inl (.h0 (Int.tdiv (tp (x1.toNat+ap)+tq (x1.toNat+aq)+x0) (1000000:Int)) (x1+1) (S.fZ x2 (Int.tmod (tp (x1.toNat+ap)+tq (x1.toNat+aq)+x0) (1000000:Int)))))) else none) else none) else none) else none) else none) else none) else none) else none) else (bif (lim .i64 (tp (x1.toNat+ap)+0)) then (bif (lim .i64 (tp (x1.toNat+ap)+0+x0)) then (bif (decide (x2.length+1≤1000000)) then (bif (decide (x2.length≤x2.length)) then (bif (lim .i64 (Int.tdiv (tp (x1.toNat+ap)+0+x0) (1000000:Int))) then (bif (lim .i64 (x1+1)) then (some (.inl (.h0 (Int.tdiv (tp (x1.toNat+ap)+0+x0) (1000000:Int)) (x1+1) (S.fZ x2 (Int.tmod (tp (x1.toNat+ap)+0+x0) (1000000:Int)))))) else none) else none) else none) else none) else none) else none)) else none) else none) else (bif (decide (x1<(nq:Int))) then (bif (decide ((0:Int)≤x1∧x1<(nq:Int))) then (bif (decide (x1.toNat+aq<mq)) then (bif (lim .i64 ((0:Int)+tq (x1.toNat+aq))) then (bif (lim .i64 ((0:Int)+tq (x1.toNat+aq)+x0)) then (bif (decide (x2.length+1≤1000000)) then (bif (decide (x2.length≤x2.length)) then (bif (lim .i64 (Int.tdiv ((0:Int)+tq (x1.toNat+aq)+x0) (1000000:Int))) then (bif (lim .i64 (x1+1)) then (some (.inl (.h0 (Int.tdiv ((0:Int)+tq (x1.toNat+aq)+x0) (1000000:Int)) (x1+1) (S.fZ x2 (Int.tmod ((0:Int)+tq (x1.toNat+aq)+x0) (1000000:Int)))))) else none) else none) else none) else none) else none) else none) else none) else none) else (bif (decide (x2.length+1≤1000000)) then (bif (decide (x2.length≤x2.length)) then (bif (decide (x2.length+1≤x2.length+1)) then (some (.inr ((S.trim (S.fb (x2.length+1) fun j=>bif Nat.blt j x2.length then S.at' x2 j else x0)).length,S.trim (S.fb (x2.length+1) fun j=>bif Nat.blt j x2.length then S.at' x2 j else x0)))) else none) else none) else none))
noncomputable def p58 (ap np mp:Nat) (tp:NI) (aq nq mq:Nat) (tq:NI):Option (St58⊕Rt58):=some (.inl (.h0 ((0:Int)) ((0:Int)) []))
def Te58:Prop:=fS (hd Tryz.f117 0) ([.loose ⟨0,1,ap,0⟩ np,.loose ⟨1,1,aq,0⟩ nq,.nils,.int .i64 0,.int .i64 0]) ([[(1,false,CB mq tq),(0,false,CB mp tp)]]) 2
theorem te58:run fR Tryz.env true (xB0 fR) true 400 ⟨117,[.cd (zU Tryz.f117).body],z8 0 [.loose ⟨0,1,ap,0⟩ np,.loose ⟨1,1,aq,0⟩ nq],[[],[(0,(false,CB mp tp)),(1,(false,CB mq tq))]],2⟩ (zr 2 [0,1,5,6,7] fS fT)=
 Te58 fS ap np mp tp aq nq mq tq:=by kernel_rfl
noncomputable abbrev u58_0_0:=(1,false,Blk.cols mq [Col.int IntKind.i64 tq])
noncomputable abbrev u58_0_1:=(0,false,Blk.cols mp [Col.int IntKind.i64 tp])
noncomputable abbrev u58_0_2 (x0:Int) (x2:List Int):=S.trim (S.fb (x2.length+1) fun j=>bif Nat.blt j x2.length then S.at' x2 j else x0)
def T58_0 (x0 x1:Int) (x2:List Int):Prop:=fR (decide (x1<(np:Int))) (fR (decide (x1<(np:Int))) (fR (decide ((0:Int)≤x1∧x1<(np:Int))) (fR (decide (x1.toNat+ap<mp)) (fR (decide (x1<(nq:Int))) (fR (decide ((0:Int)≤x1∧x1<(nq:Int))) (fR (decide (x1.toNat+aq<mq)) (fR (lim .i64 (tp (x1.toNat+ap)+tq (x1.toNat+aq))) (fR (lim .i64 (tp (x1.toNat+ap)+tq (x1.toNat+aq)+x0)) (fR false False (fR (decide (x2.length+1≤1000000)) (fR (decide (x2.length≤x2.length)) (fR true (fR false False (fR (lim .i64 (Int.tdiv (tp (x1.toNat+ap)+tq (x1.toNat+aq)+x0) (1000000:Int))) (fR (lim .i64 (x1+1)) (fS (hd Tryz.f117 0) ([.loose ⟨0,1,ap,0⟩ np,.loose ⟨1,1,aq,0⟩ nq,.own 4 1 (x2.length+1),.int .i64 (Int.tdiv (tp (x1.toNat+ap)+tq (x1.toNat+aq)+x0) (1000000:Int)),.int .i64 (x1+1)]) ([[(u58_0_0 mq tq),(u58_0_1 mp tp),(4,true,.cols (x2.length+1) [.int .i64 fun j=>bif Nat.blt j x2.length then S.at' x2 j else Int.tmod (tp (x1.toNat+ap)+tq (x1.toNat+aq)+x0) (1000000:Int)])]]) 5) False) False)) False) False) False)) False) False) False) False) (fR (lim .i64 (tp (x1.toNat+ap)+0)) (fR (lim .i64 (tp (x1.toNat+ap)+0+x0)) (fR false False (fR (decide (x2.length+1≤1000000)) (fR (decide (x2.length≤x2.length)) (fR true (fR false False (fR (lim .i64 (Int.tdiv (tp (x1.toNat+ap)+0+x0) (1000000:Int))) (fR (lim .i64 (x1+1)) (fS (hd Tryz.f117 0) ([.loose ⟨0,1,ap,0⟩ np,.loose ⟨1,1,aq,0⟩ nq,.own 4 1 (x2.length+1),.int .i64 (Int.tdiv (tp (x1.toNat+ap)+0+x0) (1000000:Int)),.int .i64 (x1+1)]) ([[(u58_0_0 mq tq),(u58_0_1 mp tp),(4,true,.cols (x2.length+1) [.int .i64 fun j=>bif Nat.blt j x2.length then S.at' x2 j else Int.tmod (tp (x1.toNat+ap)+0+x0) (1000000:Int)])]]) 5) False) False)) False) False) False)) False) False)) False) False) (fR (decide (x1<(nq:Int))) (fR (decide ((0:Int)≤x1∧x1<(nq:Int))) (fR (decide (x1.toNat+aq<mq)) (fR (lim .i64 ((0:Int)+tq (x1.toNat+aq))) (fR (lim .i64 ((0:Int)+tq (x1.toNat+aq)+x0)) (fR false False (fR (decide (x2.length+1≤1000000)) (fR (decide (x2.length≤x2.length)) (fR true (fR false False (fR (lim .i64 (Int.tdiv ((0:Int)+tq (x1.toNat+aq)+x0) (1000000:Int))) (fR (lim .i64 (x1+1)) (fS (hd Tryz.f117 0) ([.loose ⟨0,1,ap,0⟩ np,.loose ⟨1,1,aq,0⟩ nq,.own 4 1 (x2.length+1),.int .i64 (Int.tdiv ((0:Int)+tq (x1.toNat+aq)+x0) (1000000:Int)),.int .i64 (x1+1)]) ([[(u58_0_0 mq tq),(u58_0_1 mp tp),(4,true,.cols (x2.length+1) [.int .i64 fun j=>bif Nat.blt j x2.length then S.at' x2 j else Int.tmod ((0:Int)+tq (x1.toNat+aq)+x0) (1000000:Int)])]]) 5) False) False)) False) False) False)) False) False) False) False) (fR true (fR (lim .i64 ((0:Int)+x0)) (fR false False (fR (decide (x2.length+1≤1000000)) (fR (decide (x2.length≤x2.length)) (fR true (fR false False (fR (lim .i64 (Int.tdiv ((0:Int)+x0) (1000000:Int))) (fR (lim .i64 (x1+1)) (fS (hd Tryz.f117 0) ([.loose ⟨0,1,ap,0⟩ np,.loose ⟨1,1,aq,0⟩ nq,.own 4 1 (x2.length+1),.int .i64 (Int.tdiv ((0:Int)+x0) (1000000:Int)),.int .i64 (x1+1)]) ([[(u58_0_0 mq tq),(u58_0_1 mp tp),(4,true,.cols (x2.length+1) [.int .i64 fun j=>bif Nat.blt j x2.length then S.at' x2 j else Int.tmod ((0:Int)+x0) (1000000:Int)])]]) 5) False) False)) False) False) False)) False) False))) (fR (decide (x1<(nq:Int))) (fR (decide (x1<(np:Int))) (fR (decide ((0:Int)≤x1∧x1<(np:Int))) (fR (decide (x1.toNat+ap<mp)) (fR (decide (x1<(nq:Int))) (fR (decide ((0:Int)≤x1∧x1<(nq:Int))) (fR (decide (x1.toNat+aq<mq)) (fR (lim .i64 (tp (x1.toNat+ap)+tq (x1.toNat+aq))) (fR (lim .i64 (tp (x1.toNat+ap)+tq (x1.toNat+aq)+x0)) (fR false False (fR (decide (x2.length+1≤1000000)) (fR (decide (x2.length≤x2.length)) (fR true (fR false False (fR (lim .i64 (Int.tdiv (tp (x1.toNat+ap)+tq (x1.toNat+aq)+x0) (1000000:Int))) (fR (lim .i64 (x1+1)) (fS (hd Tryz.f117 0) ([.loose ⟨0,1,ap,0⟩ np,.loose ⟨1,1,aq,0⟩ nq,.own 4 1 (x2.length+1),.int .i64 (Int.tdiv (tp (x1.toNat+ap)+tq (x1.toNat+aq)+x0) (1000000:Int)),.int .i64 (x1+1)]) ([[(u58_0_0 mq tq),(u58_0_1 mp tp),(4,true,.cols (x2.length+1) [.int .i64 fun j=>bif Nat.blt j x2.length then S.at' x2 j else Int.tmod (tp (x1.toNat+ap)+tq (x1.toNat+aq)+x0) (1000000:Int)])]]) 5) False) False)) False) False) False)) False) False) False) False) (fR (lim .i64 (tp (x1.toNat+ap)+0)) (fR (lim .i64 (tp (x1.toNat+ap)+0+x0)) (fR false False (fR (decide (x2.length+1≤1000000)) (fR (decide (x2.length≤x2.length)) (fR true (fR false False (fR (lim .i64 (Int.tdiv (tp (x1.toNat+ap)+0+x0) (1000000:Int))) (fR (lim .i64 (x1+1)) (fS (hd Tryz.f117 0) ([.loose ⟨0,1,ap,0⟩ np,.loose ⟨1,1,aq,0⟩ nq,.own 4 1 (x2.length+1),.int .i64 (Int.tdiv (tp (x1.toNat+ap)+0+x0) (1000000:Int)),.int .i64 (x1+1)]) ([[(u58_0_0 mq tq),(u58_0_1 mp tp),(4,true,.cols (x2.length+1) [.int .i64 fun j=>bif Nat.blt j x2.length then S.at' x2 j else Int.tmod (tp (x1.toNat+ap)+0+x0) (1000000:Int)])]]) 5) False) False)) False) False) False)) False) False)) False) False) (fR (decide (x1<(nq:Int))) (fR (decide ((0:Int)≤x1∧x1<(nq:Int))) (fR (decide (x1.toNat+aq<mq)) (fR (lim .i64 ((0:Int)+tq (x1.toNat+aq))) (fR (lim .i64 ((0:Int)+tq (x1.toNat+aq)+x0)) (fR false False (fR (decide (x2.length+1≤1000000)) (fR (decide (x2.length≤x2.length)) (fR true (fR false False (fR (lim .i64 (Int.tdiv ((0:Int)+tq (x1.toNat+aq)+x0) (1000000:Int))) (fR (lim .i64 (x1+1)) (fS (hd Tryz.f117 0) ([.loose ⟨0,1,ap,0⟩ np,.loose ⟨1,1,aq,0⟩ nq,.own 4 1 (x2.length+1),.int .i64 (Int.tdiv ((0:Int)+tq (x1.toNat+aq)+x0) (1000000:Int)),.int .i64 (x1+1)]) ([[(u58_0_0 mq tq),(u58_0_1 mp tp),(4,true,.cols (x2.length+1) [.int .i64 fun j=>bif Nat.blt j x2.length then S.at' x2 j else Int.tmod ((0:Int)+tq (x1.toNat+aq)+x0) (1000000:Int)])]]) 5) False) False)) False) False) False)) False) False) False) False) (fR true (fR (lim .i64 ((0:Int)+x0)) (fR false False (fR (decide (x2.length+1≤1000000)) (fR (decide (x2.length≤x2.length)) (fR true (fR false False (fR (lim .i64 (Int.tdiv ((0:Int)+x0) (1000000:Int))) (fR (lim .i64 (x1+1)) (fS (hd Tryz.f117 0) ([.loose ⟨0,1,ap,0⟩ np,.loose ⟨1,1,aq,0⟩ nq,.own 4 1 (x2.length+1),.int .i64 (Int.tdiv ((0:Int)+x0) (1000000:Int)),.int .i64 (x1+1)]) ([[(u58_0_0 mq tq),(u58_0_1 mp tp),(4,true,.cols (x2.length+1) [.int .i64 fun j=>bif Nat.blt j x2.length then S.at' x2 j else Int.tmod ((0:Int)+x0) (1000000:Int)])]]) 5) False) False)) False) False) False)) False) False))) (fR (decide (x2.length+1≤1000000)) (fR (decide (x2.length≤x2.length)) (fR true (fR (decide (x2.length+1≤x2.length+1)) (fR (decide (x2.length+1≤1000000)) (fT (.own 4 1 (u58_0_2 x0 x2).length) ([[(u58_0_0 mq tq),(u58_0_1 mp tp),(4,true,CI (u58_0_2 x0 x2))]]) 6) False) False) False) False) False))
theorem t58_0 (x0 x1:Int) (x2:List Int):run fR Tryz.env true (xB0 fR) true 400 ⟨117,hd Tryz.f117 0,yd [0,1,5,6,7] [.loose ⟨0,1,ap,0⟩ np,
 .loose ⟨1,1,aq,0⟩ nq,
 .own 2 1 x2.length,.int .i64 x0,.int .i64 x1],[[(2,(true,CI x2))],[(0,(false,CB mp tp)),(1,(false,CB mq tq))]],3⟩ (zr 2 [0,1,5,6,7] fS fT)=
  T58_0 fR fS fT ap np mp tp aq nq mq tq x0 x1 x2:=by kernel_rfl
noncomputable abbrev J58:Rt58→zS:=fun r=> [yC (2+1) ((N58) r)++ [(0,(false,CB mp tp)),(1,(false,CB mq tq))]]
attribute [local irreducible] Int.subNatNat in
theorem a58 {r:Rt58} (h:zY ((q58 ap np mp tp aq nq mq tq)) ((p58 ap np mp tp aq nq mq tq)) r):zn Tryz.prog 117 [.loose ⟨0,1,ap,0⟩ np,.loose ⟨1,1,aq,0⟩ nq] [[(0,(false,CB mp tp)),(1,(false,CB mq tq))]] 2 ((V58) r) ((J58 mp tp mq tq) r) 400∧HB Tryz.prog 117:=by
 refine zf Tryz.envOk Tryz.mixed uF ((I58 ap np mp tp aq nq mq tq)) ((V58)) (J58 mp tp mq tq) (fn:=zU Tryz.f117) (ts:= [0,1,5,6,7]) (n:=400) rfl (by decide) (by simp) (zW rfl) ?_ ?_ ?_ h
 · intro s; cases s<;>exact ⟨yo _ _,by simp [I58],zW rfl,Nat.le_of_ble_eq_true rfl⟩
 · intro fS fT x hS hR h
   refine Holds.eq (te58 cond fS fT ap np mp tp aq nq mq tq) ?_
   unfold Te58
   exact ze hS _ h (fun n=>bif Nat.beq n 2 then 399 else n) rfl rfl rfl ⟨(zQ (zC rfl) rfl rfl rfl),⟨(zQ (zC rfl) rfl rfl rfl),⟨(zO rfl),⟨(zI rfl),⟨(zI rfl),trivial⟩⟩⟩⟩⟩ rfl (zT (zD rfl) (za rfl) (zB (zC rfl) rfl rfl (zB (zC rfl) rfl rfl zE)))
 · intro fS fT x hS hR s h
   cases s with
   | h0 x0 x1 x2=>
    refine Holds.eq (t58_0 cond fS fT ap np mp tp aq nq mq tq x0 x1 x2) ?_
    unfold T58_0
    rw [q58] at h
    refine zA h (fun c0 h=>zJ c0 (zA h (fun c1 h=>zA h (fun c2 h=>zA h (fun c3 h=>zA h (fun c4 h=>zA h (fun c5 h=>zA h (fun c6 h=>zA h (fun c7 h=>zd rfl (zA h (fun c8 h=>zA h (fun c9 h=>zJ rfl (zd rfl (zA h (fun c10 h=>zA h (fun c11 h=> ?_) (fun c11 h=> ?_)) (fun c10 h=> ?_)))) (fun c9 h=> ?_)) (fun c8 h=> ?_))) (fun c7 h=> ?_)) (fun c6 h=> ?_)) (fun c5 h=> ?_)) (fun c4 h=> ?_)) (fun c3 h=>zA h (fun c4 h=>zA h (fun c5 h=>zd rfl (zA h (fun c6 h=>zA h (fun c7 h=>zJ rfl (zd rfl (zA h (fun c8 h=>zA h (fun c9 h=> ?_) (fun c9 h=> ?_)) (fun c8 h=> ?_)))) (fun c7 h=> ?_)) (fun c6 h=> ?_))) (fun c5 h=> ?_)) (fun c4 h=> ?_))) (fun c2 h=> ?_)) (fun c1 h=> ?_))) (fun c0 h=>zA h (fun c1 h=>zd c0 (zJ c1 (zA h (fun c2 h=>zA h (fun c3 h=>zA h (fun c4 h=>zA h (fun c5 h=>zd rfl (zA h (fun c6 h=>zA h (fun c7 h=>zJ rfl (zd rfl (zA h (fun c8 h=>zA h (fun c9 h=> ?_) (fun c9 h=> ?_)) (fun c8 h=> ?_)))) (fun c7 h=> ?_)) (fun c6 h=> ?_))) (fun c5 h=> ?_)) (fun c4 h=> ?_)) (fun c3 h=> ?_)) (fun c2 h=> ?_)))) (fun c1 h=>zA h (fun c2 h=>zA h (fun c3 h=>zJ rfl (zA h (fun c4 h=>zJ c2 (zV hR _ h (fun n=>bif Nat.beq n 3 then 4 else n) rfl rfl rfl (yN (zD rfl) rfl rfl rfl) rfl (zL (zD rfl) rfl (Nat.le_of_eq rfl) (zN (fun _ _=>rfl) zM) (zB (zC rfl) rfl rfl (zB (zC rfl) rfl rfl zE))))) (fun c4 h=> ?_))) (fun c3 h=> ?_)) (fun c2 h=> ?_)))
    all_goals first
      |exact zF h
      |exact ze hS _ h (fun n=>bif Nat.beq n 2 then 4 else n) rfl rfl rfl ⟨(zQ (zC rfl) rfl rfl rfl),⟨(zQ (zC rfl) rfl rfl rfl),⟨(zX (zD rfl) rfl (z7 rfl)),⟨(zI rfl),⟨(zI rfl),trivial⟩⟩⟩⟩⟩ rfl (zL (zD rfl) rfl (Nat.le_of_eq (z7 rfl)) (zN (ym (fun (t:Int)=>t) rfl (fun _ _=>rfl)) zM) (zB (zC rfl) rfl rfl (zB (zC rfl) rfl rfl zE)))
end
noncomputable def k58:Con:=⟨117,[.one (.list [.int .i64]),.one (.list [.int .i64])],w60 (fun ap np mp tp aq nq mq tq=>decide ((ap+np≤mp∧aq+nq≤mq)∧(np≤1000∧nq≤1000)∧S.fW np (FS tp ap)=true∧S.fW nq (FS tq aq)=true)),w60 (fun ap np mp tp aq nq mq tq=>(V58) (S.eY (S.val np (FS tp ap)+S.val nq (FS tq aq)))),w60 (fun ap np mp tp aq nq mq tq=>(N58) (S.eY (S.val np (FS tp ap)+S.val nq (FS tq aq)))),fun _ _=> .dead⟩
theorem s58' (ap np mp:Nat) (tp:Nat→Int) (aq nq mq:Nat) (tq:Nat→Int) (hp:(ap+np≤mp∧aq+nq≤mq)∧(np≤1000∧nq≤1000)∧S.fW np (fun j=>tp (j+ap))=true∧S.fW nq (fun j=>tq (j+aq))=true): ∀ (k i:Nat) (c:Int) (L:List Int),i+k=max np nq→L.length=i→(0≤c∧c≤1)→ ∃ D:List Int,(∀ y ∈ D,0≤y∧y<1000000)∧S.eD D=c+S.fU (S.ext np (fun j=>tp (j+ap))) i k+S.fU (S.ext nq (fun j=>tq (j+aq))) i k∧Comes (q58 ap np mp tp aq nq mq tq) (.h0 c (i:Int) L) ((S.trim (L++D)).length,S.trim (L++D)):=by
 obtain ⟨⟨hp1,hp2⟩,⟨hp3,hp4⟩,g1,g2⟩:=hp
 have d1:=(zp.mp g1).1
 have d2:=(zp.mp g2).1
 intro k
 induction k with
 |zero=>
  intro i c L hi hL hc
  refine ⟨[c],y6 (by omega) (fun y hy=>by cases hy),by simp only [S.eD,S.fU]; omega,?_⟩
  rw [← jz]
  apply Comes.of
  show zY _ _ _
  (first|rw [q58]|unfold q58)
  repeat' (first|with_reducible refine zP (fun h=> ?_) (fun h=> ?_)<;>(try simp only [SH] at h)|exact zK.mpr (by omega))
  all_goals first|(exfalso; omega)|exact zG.mpr rfl
 | succ k ih=>
  intro i c L hi hL hc
  have hb:=vn d1 i
  have hb2:=vn d2 i
  obtain ⟨D,h1,h2,h3⟩:=ih (i+1) ((S.ext np (fun j=>tp (j+ap)) i+S.ext nq (fun j=>tq (j+aq)) i+c) / 1000000) (S.fZ L ((S.ext np (fun j=>tp (j+ap)) i+S.ext nq (fun j=>tq (j+aq)) i+c) % 1000000)) (by omega) (by rw [yG]; omega) (by omega)
  refine ⟨((S.ext np (fun j=>tp (j+ap)) i+S.ext nq (fun j=>tq (j+aq)) i+c) % 1000000)::D,y6 (by omega) h1,by simp only [S.eD,S.fU]; rw [h2]; omega,?_⟩
  rw [yp] at h3
  have tB:=tdB (x:=S.ext np (fun j=>tp (j+ap)) i+S.ext nq (fun j=>tq (j+aq)) i+c) (by omega)
  have mB:=tmB (x:=S.ext np (fun j=>tp (j+ap)) i+S.ext nq (fun j=>tq (j+aq)) i+c) (by omega)
  rw [← tB,← mB] at h3
  rw [← mB]
  have tb:0≤Int.tdiv (S.ext np (fun j=>tp (j+ap)) i+S.ext nq (fun j=>tq (j+aq)) i+c) 1000000∧Int.tdiv (S.ext np (fun j=>tp (j+ap)) i+S.ext nq (fun j=>tq (j+aq)) i+c) 1000000≤1:=by rw [tB]; omega
  have e1:S.ext np (fun j=>tp (j+ap)) i=if i<np then tp (i+ap) else 0:=rfl
  have e2:S.ext nq (fun j=>tq (j+aq)) i=if i<nq then tq (i+aq) else 0:=rfl
  by_cases c1:i<np
  · rw [if_pos c1] at e1
    by_cases c2:i<nq
    · rw [if_pos c2] at e2
      simp only [e1,e2] at h3 tb hb hb2 ⊢
      clear tB mB ih h2
      apply Comes.of
      show zY _ _ _
      (first|rw [q58]|unfold q58)
      repeat' (first|with_reducible refine zP (fun h=> ?_) (fun h=> ?_)<;>(try simp only [SH] at h)|exact zK.mpr (by omega))
      all_goals first|(exfalso; omega)|exact h3
    · rw [if_neg c2] at e2
      simp only [e1,e2] at h3 tb hb hb2 ⊢
      clear tB mB ih h2
      apply Comes.of
      show zY _ _ _
      (first|rw [q58]|unfold q58)
      repeat' (first|with_reducible refine zP (fun h=> ?_) (fun h=> ?_)<;>(try simp only [SH] at h)|exact zK.mpr (by omega))
      all_goals first|(exfalso; omega)|exact h3
  · rw [if_neg c1] at e1
    by_cases c2:i<nq
    · rw [if_pos c2] at e2
      simp only [e1,e2] at h3 tb hb hb2 ⊢
      clear tB mB ih h2
      apply Comes.of
      show zY _ _ _
      (first|rw [q58]|unfold q58)
      repeat' (first|with_reducible refine zP (fun h=> ?_) (fun h=> ?_)<;>(try simp only [SH] at h)|exact zK.mpr (by omega))
      all_goals first|(exfalso; omega)|exact h3
    · exfalso; omega
theorem s58 (ap np mp:Nat) (tp:Nat→Int) (aq nq mq:Nat) (tq:Nat→Int) (hp:(ap+np≤mp∧aq+nq≤mq)∧(np≤1000∧nq≤1000)∧S.fW np (fun j=>tp (j+ap))=true∧S.fW nq (fun j=>tq (j+aq))=true):zY ((q58 ap np mp tp aq nq mq tq)) ((p58 ap np mp tp aq nq mq tq)) ((S.eY (S.val np (fun j=>tp (j+ap))+S.val nq (fun j=>tq (j+aq)))).1,(S.eY (S.val np (fun j=>tp (j+ap))+S.val nq (fun j=>tq (j+aq)))).2):=by
 obtain ⟨D,h1,h2,h3⟩:=s58' ap np mp tp aq nq mq tq hp (max np nq) 0 0 [] (by omega) rfl (by omega)
 rw [uT,uT,Nat.sub_zero,Nat.sub_zero,Nat.min_eq_right (by omega),Nat.min_eq_right (by omega),Int.zero_add] at h2
 rw [List.nil_append,xK h1,h2] at h3
 exact h3
theorem k58_ok:k58.ok Tryz.prog:=by
 intro x hx
 obtain ⟨⟨ap,np,mp,tp,_⟩,⟨aq,nq,mq,tq,_⟩,_⟩:=x
 obtain ⟨h1,h2⟩:=a58 ap np mp tp aq nq mq tq (s58 ap np mp tp aq nq mq tq (zm hx rfl))
 exact ⟨⟨400,(by decide:2+1+1≤400),h1⟩,h2⟩
section
variable (fR:TT) (fS:KS) (fT:KR) (ap np mp:Nat) (tp:NI) (aq nq mq:Nat) (tq:NI)
inductive St56 where
 |h0 (x0:Int) (x1:Int) (x2:List Int)
abbrev Rt56:=List Int
noncomputable def V56 (r:Rt56):PV:= .own 3 1 r.length
noncomputable def N56 (r:Rt56):List Blk:= [CI r]
noncomputable def I56:St56→Hd
  | .h0 x0 x1 x2=>⟨hd Tryz.f116 0,[.loose ⟨1,1,aq,0⟩ nq,
 .own 2 1 x2.length,.int .i64 x0,
 .loose ⟨0,1,ap,0⟩ np,.int .i64 (np:Int),
 .int .i64 x1],[[(2,(true,CI x2))],[(0,(false,CB mp tp)),(1,(false,CB mq tq))]],3⟩
noncomputable def q56 (ap np mp:Nat) (tp:NI) (aq nq mq:Nat) (tq:NI):St56→Option (St56⊕Rt56)| .h0 x0 x1 x2=>bif (decide (x1<(np:Int))) then (bif (decide ((0:Int)≤x1∧x1<(np:Int))) then (bif (decide (x1.toNat+ap<mp)) then (bif (lim .i64 (tp (x1.toNat+ap)-x0)) then (bif (decide (x1<(nq:Int))) then (bif (decide ((0:Int)≤x1∧x1<(nq:Int))) then (bif (decide (x1.toNat+aq<mq)) then (bif (lim .i64 (tp (x1.toNat+ap)-x0-tq (x1.toNat+aq))) then (bif (decide (tp (x1.toNat+ap)-x0-tq (x1.toNat+aq)<0)) then (bif (lim .i64 (tp (x1.toNat+ap)-x0-tq (x1.toNat+aq)+1000000)) then (bif (decide (x2.length+1≤1000000)) then (bif (decide (x2.length≤x2.length)) then (bif (lim .i64 (x1+1)) then (some (.inl (.h0 ((1:Int)) (x1+1) (S.fZ x2 (tp (x1.toNat+ap)-x0-tq (x1.toNat+aq)+1000000))))) else none) else none) else none) else none) else (bif (decide (x2.length+1≤1000000)) then (bif (decide (x2.length≤x2.length)) then (bif (lim .i64 (x1+1)) then (some (.inl (.h0 ((0:Int)) (x1+1) (S.fZ x2 (tp (x1.toNat+ap)-x0-tq (x1.toNat+aq)))))) else none) else none) else none)) else none) else none) else none) else (bif (decide (tp (x1.toNat+ap)-x0<0)) then (bif (lim .i64 (tp (x1.toNat+ap)-x0+1000000)) then (bif (decide (x2.length+1≤1000000)) then (bif (decide (x2.length≤x2.length)) then (bif (lim .i64 (x1+1)) then (some (.inl (.h0 ((1:Int)) (x1+1) (S.fZ x2 (tp (x1.toNat+ap)-x0+1000000))))) else none) else none) else none) else none) else (bif (decide (x2.length+1≤1000000)) then (bif (decide (x2.length≤x2.length)) then (bif (lim .i64 (x1+1)) then (some (.inl (.h0 ((0:Int)) (x1+1) (S.fZ x2 (tp (x1.toNat+ap)-x0))))) else none) else none) else none))) else none) else none) else none) else (bif (decide (x2.length≤x2.length)) then (bif (decide (x2.length≤1000000)) then (some (.inr (S.trim (S.fb x2.length fun j=>S.at' x2 j)))) else none) else none)
noncomputable def p56 (ap np mp:Nat) (tp:NI) (aq nq mq:Nat) (tq:NI):Option (St56⊕Rt56):=bif (decide ((0:Int)≤0∧(0:Int)≤(np:Int)∧(np:Int)≤1000000)) then (some (.inl (.h0 ((0:Int)) ((0:Int)) (S.fb 0 fun j=>0)))) else none
def Te56:Prop:=fR (decide ((0:Int)≤0∧(0:Int)≤(np:Int)∧(np:Int)≤1000000)) (fS (hd Tryz.f116 0) ([.loose ⟨1,1,aq,0⟩ nq,.own 2 1 0,.int .i64 0,.loose ⟨0,1,ap,0⟩ np,.int .i64 (np:Int),.int .i64 0]) ([[(1,false,CB mq tq),(0,false,CB mp tp),(2,true,.cols 0 [.int .i64 fun (x:Nat)=>0])]]) 3) False
theorem te56:run fR Tryz.env true (xB0 fR) true 400 ⟨116,[.cd (zU Tryz.f116).body],z8 0 [.loose ⟨0,1,ap,0⟩ np,.loose ⟨1,1,aq,0⟩ nq],[[],[(0,(false,CB mp tp)),(1,(false,CB mq tq))]],2⟩ (zr 2 [1,5,6,12,13,14] fS fT)=
 Te56 fR fS ap np mp tp aq nq mq tq:=by kernel_rfl
def T56_0 (x0 x1:Int) (x2:List Int):Prop:=fR (decide (x1<(np:Int))) (fR (decide ((0:Int)≤x1∧x1<(np:Int))) (fR (decide (x1.toNat+ap<mp)) (fR (lim .i64 (tp (x1.toNat+ap)-x0)) (fR (decide (x1<(nq:Int))) (fR (decide ((0:Int)≤x1∧x1<(nq:Int))) (fR (decide (x1.toNat+aq<mq)) (fR (lim .i64 (tp (x1.toNat+ap)-x0-tq (x1.toNat+aq))) (fR (decide (tp (x1.toNat+ap)-x0-tq (x1.toNat+aq)<0)) (fR (lim .i64 (tp (x1.toNat+ap)-x0-tq (x1.toNat+aq)+1000000)) (fR (decide (x2.length+1≤1000000)) (fR (decide (x2.length≤x2.length)) (fR true (fR (lim .i64 (x1+1)) (fS (hd Tryz.f116 0) ([.loose ⟨1,1,aq,0⟩ nq,.own 4 1 (x2.length+1),.int .i64 1,.loose ⟨0,1,ap,0⟩ np,.int .i64 (np:Int),.int .i64 (x1+1)]) ([[(1,false,CB mq tq),(0,false,CB mp tp),(4,true,.cols (x2.length+1) [.int .i64 fun j=>bif Nat.blt j x2.length then S.at' x2 j else tp (x1.toNat+ap)-x0-tq (x1.toNat+aq)+1000000])]]) 5) False) False) False) False) False) (fR (decide (x2.length+1≤1000000)) (fR (decide (x2.length≤x2.length)) (fR true (fR (lim .i64 (x1+1)) (fS (hd Tryz.f116 0) ([.loose ⟨1,1,aq,0⟩ nq,.own 4 1 (x2.length+1),.int .i64 0,.loose ⟨0,1,ap,0⟩ np,.int .i64 (np:Int),.int .i64 (x1+1)]) ([[(1,false,CB mq tq),(0,false,CB mp tp),(4,true,.cols (x2.length+1) [.int .i64 fun j=>bif Nat.blt j x2.length then S.at' x2 j else tp (x1.toNat+ap)-x0-tq (x1.toNat+aq)])]]) 5) False) False) False) False)) False) False) False) (fR (decide (tp (x1.toNat+ap)-x0<0)) (fR (lim .i64 (tp (x1.toNat+ap)-x0+1000000)) (fR (decide (x2.length+1≤1000000)) (fR (decide (x2.length≤x2.length)) (fR true (fR (lim .i64 (x1+1)) (fS (hd Tryz.f116 0) ([.loose ⟨1,1,aq,0⟩ nq,.own 4 1 (x2.length+1),.int .i64 1,.loose ⟨0,1,ap,0⟩ np,.int .i64 (np:Int),.int .i64 (x1+1)]) ([[(1,false,CB mq tq),(0,false,CB mp tp),(4,true,.cols (x2.length+1) [.int .i64 fun j=>bif Nat.blt j x2.length then S.at' x2 j else tp (x1.toNat+ap)-x0+1000000])]]) 5) False) False) False) False) False) (fR (decide (x2.length+1≤1000000)) (fR (decide (x2.length≤x2.length)) (fR true (fR (lim .i64 (x1+1)) (fS (hd Tryz.f116 0) ([.loose ⟨1,1,aq,0⟩ nq,.own 4 1 (x2.length+1),.int .i64 0,.loose ⟨0,1,ap,0⟩ np,.int .i64 (np:Int),.int .i64 (x1+1)]) ([[(1,false,CB mq tq),(0,false,CB mp tp),(4,true,.cols (x2.length+1) [.int .i64 fun j=>bif Nat.blt j x2.length then S.at' x2 j else tp (x1.toNat+ap)-x0])]]) 5) False) False) False) False))) False) False) False) (fR (decide (x2.length≤x2.length)) (fR (decide (x2.length≤1000000)) (fT (.own 2 1 (S.trim (S.fb x2.length fun j=>S.at' x2 j)).length) ([[(1,false,CB mq tq),(0,false,CB mp tp),(2,true,CI (S.trim (S.fb x2.length fun j=>S.at' x2 j)))]]) 4) False) False)
theorem t56_0 (x0 x1:Int) (x2:List Int):run fR Tryz.env true (xB0 fR) true 400 ⟨116,hd Tryz.f116 0,yd [1,5,6,12,13,14] [.loose ⟨1,1,aq,0⟩ nq,
 .own 2 1 x2.length,.int .i64 x0,
 .loose ⟨0,1,ap,0⟩ np,.int .i64 (np:Int),
 .int .i64 x1],[[(2,(true,CI x2))],[(0,(false,CB mp tp)),(1,(false,CB mq tq))]],3⟩ (zr 2 [1,5,6,12,13,14] fS fT)=
  T56_0 fR fS fT ap np mp tp aq nq mq tq x0 x1 x2:=by kernel_rfl
noncomputable abbrev J56:Rt56→zS:=fun r=> [yC (2+1) ((N56) r)++ [(0,(false,CB mp tp)),(1,(false,CB mq tq))]]
attribute [local irreducible] Int.subNatNat in
theorem a56 {r:Rt56} (h:zY ((q56 ap np mp tp aq nq mq tq)) ((p56 ap np mp tp aq nq mq tq)) r):zn Tryz.prog 116 [.loose ⟨0,1,ap,0⟩ np,.loose ⟨1,1,aq,0⟩ nq] [[(0,(false,CB mp tp)),(1,(false,CB mq tq))]] 2 ((V56) r) ((J56 mp tp mq tq) r) 400∧HB Tryz.prog 116:=by
 refine zf Tryz.envOk Tryz.mixed uF ((I56 ap np mp tp aq nq mq tq)) ((V56)) (J56 mp tp mq tq) (fn:=zU Tryz.f116) (ts:= [1,5,6,12,13,14]) (n:=400) rfl (by decide) (by simp) (zW rfl) ?_ ?_ ?_ h
 · intro s; cases s<;>exact ⟨yo _ _,by simp [I56],zW rfl,Nat.le_of_ble_eq_true rfl⟩
 · intro fS fT x hS hR h
   refine Holds.eq (te56 cond fS fT ap np mp tp aq nq mq tq) ?_
   unfold Te56
   unfold p56 at h
   exact zA h (fun c0 h=>ze hS _ h (fun n=>bif Nat.beq n 2 then 2 else n) rfl rfl rfl ⟨(zQ (zC rfl) rfl rfl rfl),⟨(zX (zD rfl) rfl zZ),⟨(zI rfl),⟨(zQ (zC rfl) rfl rfl rfl),⟨(zI rfl),⟨(zI rfl),trivial⟩⟩⟩⟩⟩⟩ rfl (zL (zD rfl) rfl (Nat.le_of_eq zZ) (zN (fun _ hj=>z4 (fun (t:Int)=>t) hj) zM) (zB (zC rfl) rfl rfl (zB (zC rfl) rfl rfl zE)))) (fun c0 h=>zF h)
 · intro fS fT x hS hR s h
   cases s with
   | h0 x0 x1 x2=>
    refine Holds.eq (t56_0 cond fS fT ap np mp tp aq nq mq tq x0 x1 x2) ?_
    unfold T56_0
    rw [q56] at h
    refine zA h (fun c0 h=>zA h (fun c1 h=>zA h (fun c2 h=>zA h (fun c3 h=>zA h (fun c4 h=>zA h (fun c5 h=>zA h (fun c6 h=>zA h (fun c7 h=>zA h (fun c8 h=>zA h (fun c9 h=>zA h (fun c10 h=>zA h (fun c11 h=>zJ rfl (zA h (fun c12 h=> ?_) (fun c12 h=> ?_))) (fun c11 h=> ?_)) (fun c10 h=> ?_)) (fun c9 h=> ?_)) (fun c8 h=>zA h (fun c9 h=>zA h (fun c10 h=>zJ rfl (zA h (fun c11 h=> ?_) (fun c11 h=> ?_))) (fun c10 h=> ?_)) (fun c9 h=> ?_))) (fun c7 h=> ?_)) (fun c6 h=> ?_)) (fun c5 h=> ?_)) (fun c4 h=>zA h (fun c5 h=>zA h (fun c6 h=>zA h (fun c7 h=>zA h (fun c8 h=>zJ rfl (zA h (fun c9 h=> ?_) (fun c9 h=> ?_))) (fun c8 h=> ?_)) (fun c7 h=> ?_)) (fun c6 h=> ?_)) (fun c5 h=>zA h (fun c6 h=>zA h (fun c7 h=>zJ rfl (zA h (fun c8 h=> ?_) (fun c8 h=> ?_))) (fun c7 h=> ?_)) (fun c6 h=> ?_)))) (fun c3 h=> ?_)) (fun c2 h=> ?_)) (fun c1 h=> ?_)) (fun c0 h=>zA h (fun c1 h=>zA h (fun c2 h=>zV hR _ h (fun n=>bif Nat.beq n 3 then 2 else n) rfl rfl rfl (zX (zD rfl) rfl rfl) rfl (zL (zD rfl) rfl (Nat.le_of_eq rfl) (zN (fun _ _=>rfl) zM) (zB (zC rfl) rfl rfl (zB (zC rfl) rfl rfl zE)))) (fun c2 h=> ?_)) (fun c1 h=> ?_))
    all_goals first
      |exact zF h
      |exact ze hS _ h (fun n=>bif Nat.beq n 2 then 4 else n) rfl rfl rfl ⟨(zQ (zC rfl) rfl rfl rfl),⟨(zX (zD rfl) rfl (z7 rfl)),⟨(zI rfl),⟨(zQ (zC rfl) rfl rfl rfl),⟨(zI rfl),⟨(zI rfl),trivial⟩⟩⟩⟩⟩⟩ rfl (zL (zD rfl) rfl (Nat.le_of_eq (z7 rfl)) (zN (ym (fun (t:Int)=>t) rfl (fun _ _=>rfl)) zM) (zB (zC rfl) rfl rfl (zB (zC rfl) rfl rfl zE)))
end
noncomputable def k56:Con:=⟨116,[.one (.list [.int .i64]),.one (.list [.int .i64])],w60 (fun ap np mp tp aq nq mq tq=>decide ((ap+np≤mp∧aq+nq≤mq)∧(np≤1000∧nq≤1000)∧S.fW np (FS tp ap)=true∧S.fW nq (FS tq aq)=true∧S.val nq (FS tq aq)≤S.val np (FS tp ap))),w60 (fun ap np mp tp aq nq mq tq=>(V56) (S.f0 (S.val np (FS tp ap)-S.val nq (FS tq aq)))),w60 (fun ap np mp tp aq nq mq tq=>(N56) (S.f0 (S.val np (FS tp ap)-S.val nq (FS tq aq)))),fun _ _=> .dead⟩
theorem s56' (ap np mp:Nat) (tp:Nat→Int) (aq nq mq:Nat) (tq:Nat→Int) (hp:(ap+np≤mp∧aq+nq≤mq)∧(np≤1000∧nq≤1000)∧S.fW np (fun j=>tp (j+ap))=true∧S.fW nq (fun j=>tq (j+aq))=true): ∀ (k i:Nat) (c:Int) (L:List Int),i+k=np→L.length=i→(0≤c∧c≤1)→c+S.fU (fun j=>tq (j+aq)) i (nq-i)≤S.fU (fun j=>tp (j+ap)) i k→ ∃ D:List Int,(∀ y ∈ D,0≤y∧y<1000000)∧S.eD D=S.fU (fun j=>tp (j+ap)) i k-S.fU (fun j=>tq (j+aq)) i (nq-i)-c∧Comes (q56 ap np mp tp aq nq mq tq) (.h0 c (i:Int) L) (S.trim (L++D)):=by
 obtain ⟨⟨hp1,hp2⟩,⟨hp3,hp4⟩,g1,g2⟩:=hp
 have d1:=(zp.mp g1).1
 have d2:=(zp.mp g2).1
 intro k
 induction k with
 |zero=>
  intro i c L hi hL hc hv
  have hn2:=qi d2 (i:=i)
  simp only [S.fU] at hv ⊢
  refine ⟨[],fun y hy=>(by cases hy),by simp only [S.eD]; omega,?_⟩
  rw [List.append_nil,← uR]
  apply Comes.of
  show zY _ _ _
  (first|rw [q56]|unfold q56)
  repeat' (first|with_reducible refine zP (fun h=> ?_) (fun h=> ?_)<;>(try simp only [SH] at h)|exact zK.mpr (by omega))
  all_goals first|(exfalso; omega)|exact zG.mpr rfl
 | succ k ih=>
  intro i c L hi hL hc hv
  have hb:=d1 i (by omega)
  simp only [S.fU] at hv ⊢
  (try dsimp only at hb)
  by_cases c2:i<nq
  · have hb2:=d2 i c2
    (try dsimp only at hb2)
    rw [uX c2] at hv ⊢
    (try dsimp only at hv)
    by_cases h0:tp (i+ap)-c-tq (i+aq)<0
    · obtain ⟨D,h1,h2,h3⟩:=ih (i+1) 1 (S.fZ L (tp (i+ap)-c-tq (i+aq)+1000000)) (by omega) (by rw [yG]; omega) (by omega) (by omega)
      refine ⟨(tp (i+ap)-c-tq (i+aq)+1000000)::D,y6 (by omega) h1,by simp only [S.eD]; rw [h2]; (try dsimp only); omega,?_⟩
      rw [yp] at h3
      generalize S.fU _ _ _=v1 at*
      generalize S.fU _ _ _=v2 at*
      have ex:tp (i+ap)-tq (i+aq)-c=tp (i+ap)-c-tq (i+aq):=by omega
      clear ih h2
      apply Comes.of
      show zY _ _ _
      (first|rw [q56]|unfold q56)
      repeat' (first|with_reducible refine zP (fun h=> ?_) (fun h=> ?_)<;>(try simp only [SH] at h)|exact zK.mpr (by omega))
      all_goals first|(exfalso; omega)|exact h3|(rw [Int.toNat_natCast,ex]; exact h3)
    · obtain ⟨D,h1,h2,h3⟩:=ih (i+1) 0 (S.fZ L (tp (i+ap)-c-tq (i+aq))) (by omega) (by rw [yG]; omega) (by omega) (by omega)
      refine ⟨(tp (i+ap)-c-tq (i+aq))::D,y6 (by omega) h1,by simp only [S.eD]; rw [h2]; (try dsimp only); omega,?_⟩
      rw [yp] at h3
      generalize S.fU _ _ _=v1 at*
      generalize S.fU _ _ _=v2 at*
      have ex:tp (i+ap)-tq (i+aq)-c=tp (i+ap)-c-tq (i+aq):=by omega
      clear ih h2
      apply Comes.of
      show zY _ _ _
      (first|rw [q56]|unfold q56)
      repeat' (first|with_reducible refine zP (fun h=> ?_) (fun h=> ?_)<;>(try simp only [SH] at h)|exact zK.mpr (by omega))
      all_goals first|(exfalso; omega)|exact h3|(rw [Int.toNat_natCast,ex]; exact h3)
  · rw [show nq-i=0 by omega] at hv ⊢
    simp only [S.fU] at hv ⊢
    (try dsimp only at hv)
    have e0:nq-(i+1)=0:=by omega
    by_cases h0:tp (i+ap)-c<0
    · obtain ⟨D,h1,h2,h3⟩:=ih (i+1) 1 (S.fZ L (tp (i+ap)-c+1000000)) (by omega) (by rw [yG]; omega) (by omega) (by rw [e0]; simp only [S.fU]; omega)
      rw [e0] at h2
      simp only [S.fU] at h2
      refine ⟨(tp (i+ap)-c+1000000)::D,y6 (by omega) h1,by simp only [S.eD]; rw [h2]; (try dsimp only); omega,?_⟩
      rw [yp] at h3
      generalize S.fU _ _ _=v1 at*
      have ex:tp (i+ap)-0-c=tp (i+ap)-c:=by omega
      clear ih h2
      apply Comes.of
      show zY _ _ _
      (first|rw [q56]|unfold q56)
      repeat' (first|with_reducible refine zP (fun h=> ?_) (fun h=> ?_)<;>(try simp only [SH] at h)|exact zK.mpr (by omega))
      all_goals first|(exfalso; omega)|exact h3|(rw [Int.toNat_natCast,ex]; exact h3)
    · obtain ⟨D,h1,h2,h3⟩:=ih (i+1) 0 (S.fZ L (tp (i+ap)-c)) (by omega) (by rw [yG]; omega) (by omega) (by rw [e0]; simp only [S.fU]; omega)
      rw [e0] at h2
      simp only [S.fU] at h2
      refine ⟨(tp (i+ap)-c)::D,y6 (by omega) h1,by simp only [S.eD]; rw [h2]; (try dsimp only); omega,?_⟩
      rw [yp] at h3
      generalize S.fU _ _ _=v1 at*
      have ex:tp (i+ap)-0-c=tp (i+ap)-c:=by omega
      clear ih h2
      apply Comes.of
      show zY _ _ _
      (first|rw [q56]|unfold q56)
      repeat' (first|with_reducible refine zP (fun h=> ?_) (fun h=> ?_)<;>(try simp only [SH] at h)|exact zK.mpr (by omega))
      all_goals first|(exfalso; omega)|exact h3|(rw [Int.toNat_natCast,ex]; exact h3)
theorem s56 (ap np mp:Nat) (tp:Nat→Int) (aq nq mq:Nat) (tq:Nat→Int) (hp:(ap+np≤mp∧aq+nq≤mq)∧(np≤1000∧nq≤1000)∧S.fW np (fun j=>tp (j+ap))=true∧S.fW nq (fun j=>tq (j+aq))=true∧S.val nq (fun j=>tq (j+aq))≤S.val np (fun j=>tp (j+ap))):zY ((q56 ap np mp tp aq nq mq tq)) ((p56 ap np mp tp aq nq mq tq)) (S.f0 (S.val np (fun j=>tp (j+ap))-S.val nq (fun j=>tq (j+aq)))):=by
 obtain ⟨⟨hp1,hp2⟩,⟨hp3,hp4⟩,g1,g2,hv⟩:=hp
 obtain ⟨D,h1,h2,h3⟩:=s56' ap np mp tp aq nq mq tq ⟨⟨hp1,hp2⟩,⟨hp3,hp4⟩,g1,g2⟩ np 0 0 [] (by omega) rfl (by omega) (by rw [Int.zero_add]; exact hv)
 rw [List.nil_append,xK h1,h2,Int.sub_zero,Nat.sub_zero] at h3
 show zY _ _ _
 unfold p56
 repeat' (first|with_reducible refine zP (fun h=> ?_) (fun h=> ?_)<;>(try simp only [SH] at h)|exact zK.mpr (by omega))
 all_goals first|(exfalso; omega)|exact h3
theorem k56_ok:k56.ok Tryz.prog:=by
 intro x hx
 obtain ⟨⟨ap,np,mp,tp,_⟩,⟨aq,nq,mq,tq,_⟩,_⟩:=x
 obtain ⟨h1,h2⟩:=a56 ap np mp tp aq nq mq tq (s56 ap np mp tp aq nq mq tq (zm hx rfl))
 exact ⟨⟨400,(by decide:2+1+1≤400),h1⟩,h2⟩
section
variable (fR:TT) (fS:KS) (fT:KR) (ap np mp:Nat) (tp:NI) (aq nq mq:Nat) (tq:NI)
inductive St59 where
 |h0 (x0:Int) (x1:Int) (x2:List Int)
abbrev Rt59:=List Int
noncomputable def V59 (r:Rt59):PV:= .own 3 1 r.length
noncomputable def N59 (r:Rt59):List Blk:= [CI r]
noncomputable def I59:St59→Hd
  | .h0 x0 x1 x2=>⟨hd Tryz.f118 0,[.loose ⟨0,1,ap,0⟩ np,
 .loose ⟨1,1,aq,0⟩ nq,
 .own 2 1 x2.length,.int .i64 x0,.int .i64 x1],[[(2,(true,CI x2))],[(0,(false,CB mp tp)),(1,(false,CB mq tq))]],3⟩
noncomputable def q59 (ap np mp:Nat) (tp:NI) (aq nq mq:Nat) (tq:NI):St59→Option (St59⊕Rt59)| .h0 x0 x1 x2=>bif (decide (x1<(np:Int))) then (bif (decide ((0:Int)≤x1∧x1<(np:Int))) then (bif (decide (x1.toNat+ap<mp)) then (bif (decide (x1<(nq:Int))) then (bif (decide ((0:Int)≤x1∧x1<(nq:Int))) then (bif (decide (x1.toNat+aq<mq)) then (bif (lim .i64 (tp (x1.toNat+ap)-tq (x1.toNat+aq))) then (bif (lim .i64 (tp (x1.toNat+ap)-tq (x1.toNat+aq)-x0)) then (bif (decide (tp (x1.toNat+ap)-tq (x1.toNat+aq)-x0<0)) then (bif (lim .i64 (tp (x1.toNat+ap)-tq (x1.toNat+aq)-x0+1000000)) then (bif (decide (x2.length+1≤1000000)) then (bif (decide (x2.length≤x2.length)) then (bif (lim .i64 (x1+1)) then (some (.inl (.h0 ((1:Int)) (x1+1) (S.fZ x2 (tp (x1.toNat+ap)-tq (x1.toNat+aq)-x0+1000000))))) else none) else none) else none) else none) else (bif (decide (x2.length+1≤1000000)) then (bif (decide (x2.length≤x2.length)) then (bif (lim .i64 (x1+1)) then (some (.inl (.h0 ((0:Int)) (x1+1) (S.fZ x2 (tp (x1.toNat+ap)-tq (x1.toNat+aq)-x0))))) else none) else none) else none)) else none) else none) else none) else none) else (bif (lim .i64 (tp (x1.toNat+ap)-0)) then (bif (lim .i64 (tp (x1.toNat+ap)-0-x0)) then (bif (decide (tp (x1.toNat+ap)-0-x0<0)) then (bif (lim .i64 (tp (x1.toNat+ap)-0-x0+1000000)) then (bif (decide (x2.length+1≤1000000)) then (bif (decide (x2.length≤x2.length)) then (bif (lim .i64 (x1+1)) then (some (.inl (.h0 ((1:Int)) (x1+1) (S.fZ x2 (tp (x1.toNat+ap)-0-x0+1000000))))) else none) else none) else none) else none) else (bif (decide (x2.length+1≤1000000)) then (bif (decide (x2.length≤x2.length)) then (bif (lim .i64 (x1+1)) then (some (.inl (.h0 ((0:Int)) (x1+1) (S.fZ x2 (tp (x1.toNat+ap)-0-x0))))) else none) else none) else none)) else none) else none)) else none) else none) else (bif (decide (x2.length≤x2.length)) then (bif (decide (x2.length≤1000000)) then (some (.inr (S.trim (S.fb x2.length fun j=>S.at' x2 j)))) else none) else none)
noncomputable def p59 (ap np mp:Nat) (tp:NI) (aq nq mq:Nat) (tq:NI):Option (St59⊕Rt59):=some (.inl (.h0 ((0:Int)) ((0:Int)) []))
def Te59:Prop:=fS (hd Tryz.f118 0) ([.loose ⟨0,1,ap,0⟩ np,.loose ⟨1,1,aq,0⟩ nq,.nils,.int .i64 0,.int .i64 0]) ([[(1,false,CB mq tq),(0,false,CB mp tp)]]) 2
theorem te59:run fR Tryz.env true (xB0 fR) true 400 ⟨118,[.cd (zU Tryz.f118).body],z8 0 [.loose ⟨0,1,ap,0⟩ np,.loose ⟨1,1,aq,0⟩ nq],[[],[(0,(false,CB mp tp)),(1,(false,CB mq tq))]],2⟩ (zr 2 [0,1,5,6,7] fS fT)=
 Te59 fS ap np mp tp aq nq mq tq:=by kernel_rfl
def T59_0 (x0 x1:Int) (x2:List Int):Prop:=fR (decide (x1<(np:Int))) (fR (decide ((0:Int)≤x1∧x1<(np:Int))) (fR (decide (x1.toNat+ap<mp)) (fR (decide (x1<(nq:Int))) (fR (decide ((0:Int)≤x1∧x1<(nq:Int))) (fR (decide (x1.toNat+aq<mq)) (fR (lim .i64 (tp (x1.toNat+ap)-tq (x1.toNat+aq))) (fR (lim .i64 (tp (x1.toNat+ap)-tq (x1.toNat+aq)-x0)) (fR (decide (tp (x1.toNat+ap)-tq (x1.toNat+aq)-x0<0)) (fR (lim .i64 (tp (x1.toNat+ap)-tq (x1.toNat+aq)-x0+1000000)) (fR (decide (x2.length+1≤1000000)) (fR (decide (x2.length≤x2.length)) (fR true (fR (lim .i64 (x1+1)) (fS (hd Tryz.f118 0) ([.loose ⟨0,1,ap,0⟩ np,.loose ⟨1,1,aq,0⟩ nq,.own 4 1 (x2.length+1),.int .i64 1,.int .i64 (x1+1)]) ([[(1,false,CB mq tq),(0,false,CB mp tp),(4,true,.cols (x2.length+1) [.int .i64 fun j=>bif Nat.blt j x2.length then S.at' x2 j else tp (x1.toNat+ap)-tq (x1.toNat+aq)-x0+1000000])]]) 5) False) False) False) False) False) (fR (decide (x2.length+1≤1000000)) (fR (decide (x2.length≤x2.length)) (fR true (fR (lim .i64 (x1+1)) (fS (hd Tryz.f118 0) ([.loose ⟨0,1,ap,0⟩ np,.loose ⟨1,1,aq,0⟩ nq,.own 4 1 (x2.length+1),.int .i64 0,.int .i64 (x1+1)]) ([[(1,false,CB mq tq),(0,false,CB mp tp),(4,true,.cols (x2.length+1) [.int .i64 fun j=>bif Nat.blt j x2.length then S.at' x2 j else tp (x1.toNat+ap)-tq (x1.toNat+aq)-x0])]]) 5) False) False) False) False)) False) False) False) False) (fR (lim .i64 (tp (x1.toNat+ap)-0)) (fR (lim .i64 (tp (x1.toNat+ap)-0-x0)) (fR (decide (tp (x1.toNat+ap)-0-x0<0)) (fR (lim .i64 (tp (x1.toNat+ap)-0-x0+1000000)) (fR (decide (x2.length+1≤1000000)) (fR (decide (x2.length≤x2.length)) (fR true (fR (lim .i64 (x1+1)) (fS (hd Tryz.f118 0) ([.loose ⟨0,1,ap,0⟩ np,.loose ⟨1,1,aq,0⟩ nq,.own 4 1 (x2.length+1),.int .i64 1,.int .i64 (x1+1)]) ([[(1,false,CB mq tq),(0,false,CB mp tp),(4,true,.cols (x2.length+1) [.int .i64 fun j=>bif Nat.blt j x2.length then S.at' x2 j else tp (x1.toNat+ap)-0-x0+1000000])]]) 5) False) False) False) False) False) (fR (decide (x2.length+1≤1000000)) (fR (decide (x2.length≤x2.length)) (fR true (fR (lim .i64 (x1+1)) (fS (hd Tryz.f118 0) ([.loose ⟨0,1,ap,0⟩ np,.loose ⟨1,1,aq,0⟩ nq,.own 4 1 (x2.length+1),.int .i64 0,.int .i64 (x1+1)]) ([[(1,false,CB mq tq),(0,false,CB mp tp),(4,true,.cols (x2.length+1) [.int .i64 fun j=>bif Nat.blt j x2.length then S.at' x2 j else tp (x1.toNat+ap)-0-x0])]]) 5) False) False) False) False)) False) False)) False) False) (fR (decide (x2.length≤x2.length)) (fR (decide (x2.length≤1000000)) (fT (.own 2 1 (S.trim (S.fb x2.length fun j=>S.at' x2 j)).length) ([[(1,false,CB mq tq),(0,false,CB mp tp),(2,true,CI (S.trim (S.fb x2.length fun j=>S.at' x2 j)))]]) 4) False) False)
theorem t59_0 (x0 x1:Int) (x2:List Int):run fR Tryz.env true (xB0 fR) true 400 ⟨118,hd Tryz.f118 0,yd [0,1,5,6,7] [.loose ⟨0,1,ap,0⟩ np,
 .loose ⟨1,1,aq,0⟩ nq,
 .own 2 1 x2.length,.int .i64 x0,.int .i64 x1],[[(2,(true,CI x2))],[(0,(false,CB mp tp)),(1,(false,CB mq tq))]],3⟩ (zr 2 [0,1,5,6,7] fS fT)=
  T59_0 fR fS fT ap np mp tp aq nq mq tq x0 x1 x2:=by kernel_rfl
noncomputable abbrev J59:Rt59→zS:=fun r=> [yC (2+1) ((N59) r)++ [(0,(false,CB mp tp)),(1,(false,CB mq tq))]]
attribute [local irreducible] Int.subNatNat in
theorem a59 {r:Rt59} (h:zY ((q59 ap np mp tp aq nq mq tq)) ((p59 ap np mp tp aq nq mq tq)) r):zn Tryz.prog 118 [.loose ⟨0,1,ap,0⟩ np,.loose ⟨1,1,aq,0⟩ nq] [[(0,(false,CB mp tp)),(1,(false,CB mq tq))]] 2 ((V59) r) ((J59 mp tp mq tq) r) 400∧HB Tryz.prog 118:=by
 refine zf Tryz.envOk Tryz.mixed uF ((I59 ap np mp tp aq nq mq tq)) ((V59)) (J59 mp tp mq tq) (fn:=zU Tryz.f118) (ts:= [0,1,5,6,7]) (n:=400) rfl (by decide) (by simp) (zW rfl) ?_ ?_ ?_ h
 · intro s; cases s<;>exact ⟨yo _ _,by simp [I59],zW rfl,Nat.le_of_ble_eq_true rfl⟩
 · intro fS fT x hS hR h
   refine Holds.eq (te59 cond fS fT ap np mp tp aq nq mq tq) ?_
   unfold Te59
   exact ze hS _ h (fun n=>bif Nat.beq n 2 then 399 else n) rfl rfl rfl ⟨(zQ (zC rfl) rfl rfl rfl),⟨(zQ (zC rfl) rfl rfl rfl),⟨(zO rfl),⟨(zI rfl),⟨(zI rfl),trivial⟩⟩⟩⟩⟩ rfl (zT (zD rfl) (za rfl) (zB (zC rfl) rfl rfl (zB (zC rfl) rfl rfl zE)))
 · intro fS fT x hS hR s h
   cases s with
   | h0 x0 x1 x2=>
    refine Holds.eq (t59_0 cond fS fT ap np mp tp aq nq mq tq x0 x1 x2) ?_
    unfold T59_0
    rw [q59] at h
    refine zA h (fun c0 h=>zA h (fun c1 h=>zA h (fun c2 h=>zA h (fun c3 h=>zA h (fun c4 h=>zA h (fun c5 h=>zA h (fun c6 h=>zA h (fun c7 h=>zA h (fun c8 h=>zA h (fun c9 h=>zA h (fun c10 h=>zA h (fun c11 h=>zJ rfl (zA h (fun c12 h=> ?_) (fun c12 h=> ?_))) (fun c11 h=> ?_)) (fun c10 h=> ?_)) (fun c9 h=> ?_)) (fun c8 h=>zA h (fun c9 h=>zA h (fun c10 h=>zJ rfl (zA h (fun c11 h=> ?_) (fun c11 h=> ?_))) (fun c10 h=> ?_)) (fun c9 h=> ?_))) (fun c7 h=> ?_)) (fun c6 h=> ?_)) (fun c5 h=> ?_)) (fun c4 h=> ?_)) (fun c3 h=>zA h (fun c4 h=>zA h (fun c5 h=>zA h (fun c6 h=>zA h (fun c7 h=>zA h (fun c8 h=>zA h (fun c9 h=>zJ rfl (zA h (fun c10 h=> ?_) (fun c10 h=> ?_))) (fun c9 h=> ?_)) (fun c8 h=> ?_)) (fun c7 h=> ?_)) (fun c6 h=>zA h (fun c7 h=>zA h (fun c8 h=>zJ rfl (zA h (fun c9 h=> ?_) (fun c9 h=> ?_))) (fun c8 h=> ?_)) (fun c7 h=> ?_))) (fun c5 h=> ?_)) (fun c4 h=> ?_))) (fun c2 h=> ?_)) (fun c1 h=> ?_)) (fun c0 h=>zA h (fun c1 h=>zA h (fun c2 h=>zV hR _ h (fun n=>bif Nat.beq n 3 then 2 else n) rfl rfl rfl (zX (zD rfl) rfl rfl) rfl (zL (zD rfl) rfl (Nat.le_of_eq rfl) (zN (fun _ _=>rfl) zM) (zB (zC rfl) rfl rfl (zB (zC rfl) rfl rfl zE)))) (fun c2 h=> ?_)) (fun c1 h=> ?_))
    all_goals first
      |exact zF h
      |exact ze hS _ h (fun n=>bif Nat.beq n 2 then 4 else n) rfl rfl rfl ⟨(zQ (zC rfl) rfl rfl rfl),⟨(zQ (zC rfl) rfl rfl rfl),⟨(zX (zD rfl) rfl (z7 rfl)),⟨(zI rfl),⟨(zI rfl),trivial⟩⟩⟩⟩⟩ rfl (zL (zD rfl) rfl (Nat.le_of_eq (z7 rfl)) (zN (ym (fun (t:Int)=>t) rfl (fun _ _=>rfl)) zM) (zB (zC rfl) rfl rfl (zB (zC rfl) rfl rfl zE)))
end
noncomputable def k59:Con:=⟨118,[.one (.list [.int .i64]),.one (.list [.int .i64])],w60 (fun ap np mp tp aq nq mq tq=>decide ((ap+np≤mp∧aq+nq≤mq)∧(np≤1000∧nq≤1000)∧S.fW np (FS tp ap)=true∧S.fW nq (FS tq aq)=true∧S.val nq (FS tq aq)≤S.val np (FS tp ap))),w60 (fun ap np mp tp aq nq mq tq=>(V59) (S.f0 (S.val np (FS tp ap)-S.val nq (FS tq aq)))),w60 (fun ap np mp tp aq nq mq tq=>(N59) (S.f0 (S.val np (FS tp ap)-S.val nq (FS tq aq)))),fun _ _=> .dead⟩
theorem s59' (ap np mp:Nat) (tp:Nat→Int) (aq nq mq:Nat) (tq:Nat→Int) (hp:(ap+np≤mp∧aq+nq≤mq)∧(np≤1000∧nq≤1000)∧S.fW np (fun j=>tp (j+ap))=true∧S.fW nq (fun j=>tq (j+aq))=true): ∀ (k i:Nat) (c:Int) (L:List Int),i+k=np→L.length=i→(0≤c∧c≤1)→c+S.fU (fun j=>tq (j+aq)) i (nq-i)≤S.fU (fun j=>tp (j+ap)) i k→ ∃ D:List Int,(∀ y ∈ D,0≤y∧y<1000000)∧S.eD D=S.fU (fun j=>tp (j+ap)) i k-S.fU (fun j=>tq (j+aq)) i (nq-i)-c∧Comes (q59 ap np mp tp aq nq mq tq) (.h0 c (i:Int) L) (S.trim (L++D)):=by
 obtain ⟨⟨hp1,hp2⟩,⟨hp3,hp4⟩,g1,g2⟩:=hp
 have d1:=(zp.mp g1).1
 have d2:=(zp.mp g2).1
 intro k
 induction k with
 |zero=>
  intro i c L hi hL hc hv
  have hn2:=qi d2 (i:=i)
  simp only [S.fU] at hv ⊢
  refine ⟨[],fun y hy=>(by cases hy),by simp only [S.eD]; omega,?_⟩
  rw [List.append_nil,← uR]
  apply Comes.of
  show zY _ _ _
  (first|rw [q59]|unfold q59)
  repeat' (first|with_reducible refine zP (fun h=> ?_) (fun h=> ?_)<;>(try simp only [SH] at h)|exact zK.mpr (by omega))
  all_goals first|(exfalso; omega)|exact zG.mpr rfl
 | succ k ih=>
  intro i c L hi hL hc hv
  have hb:=d1 i (by omega)
  simp only [S.fU] at hv ⊢
  (try dsimp only at hb)
  by_cases c2:i<nq
  · have hb2:=d2 i c2
    (try dsimp only at hb2)
    rw [uX c2] at hv ⊢
    (try dsimp only at hv)
    by_cases h0:tp (i+ap)-c-tq (i+aq)<0
    · obtain ⟨D,h1,h2,h3⟩:=ih (i+1) 1 (S.fZ L (tp (i+ap)-c-tq (i+aq)+1000000)) (by omega) (by rw [yG]; omega) (by omega) (by omega)
      refine ⟨(tp (i+ap)-c-tq (i+aq)+1000000)::D,y6 (by omega) h1,by simp only [S.eD]; rw [h2]; (try dsimp only); omega,?_⟩
      rw [yp] at h3
      generalize S.fU _ _ _=v1 at*
      generalize S.fU _ _ _=v2 at*
      have ex:tp (i+ap)-tq (i+aq)-c=tp (i+ap)-c-tq (i+aq):=by omega
      clear ih h2
      apply Comes.of
      show zY _ _ _
      (first|rw [q59]|unfold q59)
      repeat' (first|with_reducible refine zP (fun h=> ?_) (fun h=> ?_)<;>(try simp only [SH] at h)|exact zK.mpr (by omega))
      all_goals first|(exfalso; omega)|exact h3|(rw [Int.toNat_natCast,ex]; exact h3)
    · obtain ⟨D,h1,h2,h3⟩:=ih (i+1) 0 (S.fZ L (tp (i+ap)-c-tq (i+aq))) (by omega) (by rw [yG]; omega) (by omega) (by omega)
      refine ⟨(tp (i+ap)-c-tq (i+aq))::D,y6 (by omega) h1,by simp only [S.eD]; rw [h2]; (try dsimp only); omega,?_⟩
      rw [yp] at h3
      generalize S.fU _ _ _=v1 at*
      generalize S.fU _ _ _=v2 at*
      have ex:tp (i+ap)-tq (i+aq)-c=tp (i+ap)-c-tq (i+aq):=by omega
      clear ih h2
      apply Comes.of
      show zY _ _ _
      (first|rw [q59]|unfold q59)
      repeat' (first|with_reducible refine zP (fun h=> ?_) (fun h=> ?_)<;>(try simp only [SH] at h)|exact zK.mpr (by omega))
      all_goals first|(exfalso; omega)|exact h3|(rw [Int.toNat_natCast,ex]; exact h3)
  · rw [show nq-i=0 by omega] at hv ⊢
    simp only [S.fU] at hv ⊢
    (try dsimp only at hv)
    have e0:nq-(i+1)=0:=by omega
    by_cases h0:tp (i+ap)-c<0
    · obtain ⟨D,h1,h2,h3⟩:=ih (i+1) 1 (S.fZ L (tp (i+ap)-c+1000000)) (by omega) (by rw [yG]; omega) (by omega) (by rw [e0]; simp only [S.fU]; omega)
      rw [e0] at h2
      simp only [S.fU] at h2
      refine ⟨(tp (i+ap)-c+1000000)::D,y6 (by omega) h1,by simp only [S.eD]; rw [h2]; (try dsimp only); omega,?_⟩
      rw [yp] at h3
      generalize S.fU _ _ _=v1 at*
      have ex:tp (i+ap)-0-c=tp (i+ap)-c:=by omega
      clear ih h2
      apply Comes.of
      show zY _ _ _
      (first|rw [q59]|unfold q59)
      repeat' (first|with_reducible refine zP (fun h=> ?_) (fun h=> ?_)<;>(try simp only [SH] at h)|exact zK.mpr (by omega))
      all_goals first|(exfalso; omega)|exact h3|(rw [Int.toNat_natCast,ex]; exact h3)
    · obtain ⟨D,h1,h2,h3⟩:=ih (i+1) 0 (S.fZ L (tp (i+ap)-c)) (by omega) (by rw [yG]; omega) (by omega) (by rw [e0]; simp only [S.fU]; omega)
      rw [e0] at h2
      simp only [S.fU] at h2
      refine ⟨(tp (i+ap)-c)::D,y6 (by omega) h1,by simp only [S.eD]; rw [h2]; (try dsimp only); omega,?_⟩
      rw [yp] at h3
      generalize S.fU _ _ _=v1 at*
      have ex:tp (i+ap)-0-c=tp (i+ap)-c:=by omega
      clear ih h2
      apply Comes.of
      show zY _ _ _
      (first|rw [q59]|unfold q59)
      repeat' (first|with_reducible refine zP (fun h=> ?_) (fun h=> ?_)<;>(try simp only [SH] at h)|exact zK.mpr (by omega))
      all_goals first|(exfalso; omega)|exact h3|(rw [Int.toNat_natCast,ex]; exact h3)
theorem s59 (ap np mp:Nat) (tp:Nat→Int) (aq nq mq:Nat) (tq:Nat→Int) (hp:(ap+np≤mp∧aq+nq≤mq)∧(np≤1000∧nq≤1000)∧S.fW np (fun j=>tp (j+ap))=true∧S.fW nq (fun j=>tq (j+aq))=true∧S.val nq (fun j=>tq (j+aq))≤S.val np (fun j=>tp (j+ap))):zY ((q59 ap np mp tp aq nq mq tq)) ((p59 ap np mp tp aq nq mq tq)) (S.f0 (S.val np (fun j=>tp (j+ap))-S.val nq (fun j=>tq (j+aq)))):=by
 obtain ⟨⟨hp1,hp2⟩,⟨hp3,hp4⟩,g1,g2,hv⟩:=hp
 obtain ⟨D,h1,h2,h3⟩:=s59' ap np mp tp aq nq mq tq ⟨⟨hp1,hp2⟩,⟨hp3,hp4⟩,g1,g2⟩ np 0 0 [] (by omega) rfl (by omega) (by rw [Int.zero_add]; exact hv)
 rw [List.nil_append,xK h1,h2,Int.sub_zero,Nat.sub_zero] at h3
 show zY _ _ _
 unfold p59
 repeat' (first|with_reducible refine zP (fun h=> ?_) (fun h=> ?_)<;>(try simp only [SH] at h)|exact zK.mpr (by omega))
 all_goals first|(exfalso; omega)|exact h3
theorem k59_ok:k59.ok Tryz.prog:=by
 intro x hx
 obtain ⟨⟨ap,np,mp,tp,_⟩,⟨aq,nq,mq,tq,_⟩,_⟩:=x
 obtain ⟨h1,h2⟩:=a59 ap np mp tp aq nq mq tq (s59 ap np mp tp aq nq mq tq (zm hx rfl))
 exact ⟨⟨400,(by decide:2+1+1≤400),h1⟩,h2⟩
section
variable (fR:TT) (fS:KS) (fT:KR) (ng:Bool) (ap np mp:Nat) (tp:NI)
abbrev St46:=Empty
abbrev Rt46:=Bool×List Int
noncomputable def V46 (r:Rt46):PV:= .agg [.bool r.1,.own 2 1 r.2.length]
noncomputable def N46 (r:Rt46):List Blk:= [CI r.2]
noncomputable def I46:St46→Hd:=fun s=>s.elim
noncomputable def q46 (ng:Bool) (ap np mp:Nat) (tp:NI):St46→Option (St46⊕Rt46):=fun s=>s.elim
noncomputable def p46 (ng:Bool) (ap np mp:Nat) (tp:NI):Option (St46⊕Rt46):=bif (decide (ap+np≤mp∧np≤1000000)) then (bif ng then (bif (decide ((↑(S.eW np fun j=>tp (j+ap)):Int)>0)) then (bif (decide ((0+S.eW np fun j=>tp (j+ap))≤1000000)) then (bif (decide ((ap+S.eW np fun j=>tp (j+ap))≤mp)) then (some (.inr (true,S.fb (0+S.eW np fun j=>tp (j+ap)) fun j=>tp (j+ap)))) else none) else none) else (bif (decide ((0+S.eW np fun j=>tp (j+ap))≤1000000)) then (bif (decide ((ap+S.eW np fun j=>tp (j+ap))≤mp)) then (some (.inr (false,S.fb (0+S.eW np fun j=>tp (j+ap)) fun j=>tp (j+ap)))) else none) else none)) else (bif (decide ((0+S.eW np fun j=>tp (j+ap))≤1000000)) then (bif (decide ((ap+S.eW np fun j=>tp (j+ap))≤mp)) then (some (.inr (false,S.fb (0+S.eW np fun j=>tp (j+ap)) fun j=>tp (j+ap)))) else none) else none)) else none
noncomputable abbrev u46_e_0:=([[(0,false,Blk.cols mp [Col.int IntKind.i64 tp]),(4,true,Blk.cols (0+S.eW np fun j=>tp (j+ap)) [Col.int IntKind.i64 fun j=>tp (j+ap)])]])
def Te46:Prop:=fR (decide (ap+np≤mp∧np≤1000000)) (fR ng (fR (decide ((↑(S.eW np (FS tp ap)):Int)>0)) (fR (decide ((0+S.eW np (FS tp ap))≤1000000)) (fR true (fR (decide ((ap+S.eW np (FS tp ap))≤mp)) (fT (.agg [.tf true,.own 4 1 (0+S.eW np (FS tp ap))]) (u46_e_0 ap np mp tp) 5) False) False) False) (fR (decide ((0+S.eW np (FS tp ap))≤1000000)) (fR true (fR (decide ((ap+S.eW np (FS tp ap))≤mp)) (fT (.agg [.tf false,.own 4 1 (0+S.eW np (FS tp ap))]) (u46_e_0 ap np mp tp) 5) False) False) False)) (fR (decide ((0+S.eW np (FS tp ap))≤1000000)) (fR true (fR (decide ((ap+S.eW np (FS tp ap))≤mp)) (fT (.agg [.tf false,.own 4 1 (0+S.eW np (FS tp ap))]) (u46_e_0 ap np mp tp) 5) False) False) False)) False
theorem te46:run fR Tryz.env true (xB0 fR) true 400 ⟨90,[.cd (zU Tryz.f90).body],z8 0 [.bool ng,.loose ⟨0,1,ap,0⟩ np],[[],[(0,(false,CB mp tp))]],1⟩ (zr 1 [] fS fT)=
 Te46 fR fT ng ap np mp tp:=by kernel_rfl
noncomputable abbrev J46:Rt46→zS:=fun r=> [yC (1+1) ((N46) r)++ [(0,(false,CB mp tp))]]
attribute [local irreducible] Int.subNatNat in
theorem a46 {r:Rt46} (h:zY ((q46 ng ap np mp tp)) ((p46 ng ap np mp tp)) r):zn Tryz.prog 90 [.bool ng,.loose ⟨0,1,ap,0⟩ np] [[(0,(false,CB mp tp))]] 1 ((V46) r) ((J46 mp tp) r) 400∧HB Tryz.prog 90:=by
 refine zf Tryz.envOk Tryz.mixed uF ((I46)) ((V46)) (J46 mp tp) (fn:=zU Tryz.f90) (ts:= []) (n:=400) rfl (by decide) (by simp) (zW rfl) ?_ ?_ ?_ h
 · intro s; exact s.elim
 · intro fS fT x hS hR h
   refine Holds.eq (te46 cond fS fT ng ap np mp tp) ?_
   unfold Te46
   unfold p46 at h
   refine zA h (fun c0 h=>zA h (fun c1 h=>zA h (fun c2 h=>zA h (fun c3 h=>zJ rfl (zA h (fun c4 h=> ?_) (fun c4 h=> ?_))) (fun c3 h=> ?_)) (fun c2 h=>zA h (fun c3 h=>zJ rfl (zA h (fun c4 h=> ?_) (fun c4 h=> ?_))) (fun c3 h=> ?_))) (fun c1 h=>zA h (fun c2 h=>zJ rfl (zA h (fun c3 h=> ?_) (fun c3 h=> ?_))) (fun c2 h=> ?_))) (fun c0 h=> ?_)
   all_goals first
     |exact zF h
     |exact zV hR _ h (fun n=>bif Nat.beq n 2 then 4 else n) rfl rfl rfl (zc ⟨(zR rfl),(zX (zD rfl) rfl zZ),trivial⟩) rfl (zL (zD rfl) rfl (Nat.le_of_eq zZ) (zN (fun _ hj=>z4 (fun (t:Int)=>t) hj) zM) (zB (zC rfl) rfl rfl zE))
 · intro fS fT x hS hR s h; exact s.elim
end
noncomputable abbrev w46 {α:Type} (g:Bool→Nat→Nat→Nat→(Nat→Int)→α) (x:Bool×(Nat×Nat×Nat×(Nat→Int)×Unit)×Unit):α:=g x.1 x.2.1.1 x.2.1.2.1 x.2.1.2.2.1 x.2.1.2.2.2.1
noncomputable def k46:Con:=⟨90,[.one (.plain (.bool)),.one (.list [.int .i64])],w46 (fun ng ap np mp tp=>decide (ap+np≤mp∧np≤1000000∧S.fX np (FS tp ap)=true)),w46 (fun ng ap np mp tp=>(V46) (S.fy ng (S.val np (FS tp ap)),S.f0 (S.val np (FS tp ap)))),w46 (fun ng ap np mp tp=>(N46) (S.fy ng (S.val np (FS tp ap)),S.f0 (S.val np (FS tp ap)))),fun _ _=> .dead⟩
theorem s46 (ng:Bool) (ap np mp:Nat) (tp:Nat→Int) (hp:ap+np≤mp∧np≤1000000∧S.fX np (fun j=>tp (j+ap))=true):zY ((q46 ng ap np mp tp)) ((p46 ng ap np mp tp)) ((S.fy ng (S.val np (fun j=>tp (j+ap))),S.f0 (S.val np (fun j=>tp (j+ap))))):=by
 obtain ⟨hp1,hp2,hp3⟩:=hp
 have e1:=jk (n:=np) (t:=(fun j=>tp (j+ap)))
 have hl:S.eW np (fun j=>tp (j+ap))≤np:=by
  have:=(vf (L:=S.fb np (fun j=>tp (j+ap)))).1
  rw [zZ] at this
  exact this
 have e2:(0<S.eW np (fun j=>tp (j+ap)))↔0<S.val np (fun j=>tp (j+ap)):=by
  unfold S.eW
  rw [vJ hp3]
  constructor
  · intro h
    refine Int.not_le.mp fun h2=> ?_
    rw [yS h2] at h
    exact absurd h (by simp)
  · exact yc
 rw [← vJ hp3,← e1]
 generalize S.val np (fun j=>tp (j+ap))=v at*
 unfold S.fy
 unfold p46
 rw [Nat.zero_add]
 generalize S.eW np (fun j=>tp (j+ap))=k at*
 by_cases hk:0<k
 · rw [decide_eq_true (e2.mp hk)]
   cases ng
   repeat' (first|with_reducible refine zP (fun h=> ?_) (fun h=> ?_)<;>(try simp only [SH] at h)|exact zK.mpr (by omega))
   all_goals first|(exfalso; omega)|exact zG.mpr rfl|simp at*
 · rw [decide_eq_false (fun h=>hk (e2.mpr h))]
   cases ng
   repeat' (first|with_reducible refine zP (fun h=> ?_) (fun h=> ?_)<;>(try simp only [SH] at h)|exact zK.mpr (by omega))
   all_goals first|(exfalso; omega)|exact zG.mpr rfl|simp at*
theorem k46_ok:k46.ok Tryz.prog:=by
 intro x hx
 obtain ⟨ng,⟨ap,np,mp,tp,_⟩,_⟩:=x
 obtain ⟨h1,h2⟩:=a46 ng ap np mp tp (s46 ng ap np mp tp (zm hx rfl))
 exact ⟨⟨400,(by decide:1+1+1≤400),h1⟩,h2⟩
namespace S
def fV (ng:Bool) (n:Nat) (t:Nat→Int):Bool:=decide (n≤80)&&(fW n t&&(decide (0<n)|| !ng))
def sv (ng:Bool) (v:Int):Int:=bif ng then-v else v
noncomputable def fi (v:Int):Bool×List Int:=(decide (v<0),f0 (v.natAbs:Int))
end S
theorem yg {ng:Bool} {n:Nat} {t:Nat→Int}:S.fV ng n t=true↔n≤80∧S.fW n t=true∧(0<n∨ng=false):=by
 unfold S.fV
 rw [Bool.and_eq_true,Bool.and_eq_true,Bool.or_eq_true,decide_eq_true_eq,decide_eq_true_eq,Bool.not_eq_true']
section
variable (fR:TT) (fS:KS) (fT:KR) (ng:Bool) (ap np mp:Nat) (tp:NI)
inductive St18 where
 |h0 (x0:Int)
abbrev Rt18:=Bool
noncomputable def V18 (r:Rt18):PV:= .bool r
noncomputable def N18 (r:Rt18):List Blk:= []
noncomputable def I18:St18→Hd
  | .h0 x0=>⟨hd Tryz.f51 0,[.ptr ⟨1,0,0,0⟩,
 .loose ⟨0,1,ap,0⟩ np,.int .i64 (np:Int),
 .int .i64 x0],[[(1,(true,.cells [.bool ng,.loose ⟨0,1,ap,0⟩ np]))],[(0,(false,CB mp tp))]],2⟩
noncomputable def q18 (ng:Bool) (ap np mp:Nat) (tp:NI):St18→Option (St18⊕Rt18)| .h0 x0=>bif (decide (x0<(np:Int))) then (bif (decide ((0:Int)≤x0∧x0<(np:Int))) then (bif (decide (x0.toNat+ap<mp)) then (bif (decide (tp (x0.toNat+ap)<0)) then (some (.inr false)) else (bif (decide (tp (x0.toNat+ap)≥1000000)) then (some (.inr false)) else (bif (lim .i64 (x0+1)) then (some (.inl (.h0 (x0+1)))) else none))) else none) else none) else (bif ((np:Int)==0) then (bif ng then (some (.inr false)) else (some (.inr true))) else (bif (lim .i64 ((np:Int)-1)) then (bif (decide ((0:Int)≤(np:Int)-1∧(np:Int)-1<(np:Int))) then (bif (decide (((np:Int)-1).toNat+ap<mp)) then (bif (tp (((np:Int)-1).toNat+ap) != 0) then (some (.inr true)) else (some (.inr false))) else none) else none) else none))
noncomputable def p18 (ng:Bool) (ap np mp:Nat) (tp:NI):Option (St18⊕Rt18):=bif (decide ((np:Int)>80)) then (some (.inr false)) else (some (.inl (.h0 ((0:Int)))))
def Te18:Prop:=fR (decide ((np:Int)>80)) (fT (.tf false) ([[(0,false,CB mp tp)]]) 2) (fS (hd Tryz.f51 0) ([.ptr ⟨1,0,0,0⟩,.loose ⟨0,1,ap,0⟩ np,.int .i64 (np:Int),.int .i64 0]) ([[(0,false,CB mp tp),(1,true,.cells [.bool ng,.loose ⟨0,1,ap,0⟩ np])]]) 2)
theorem te18:run fR Tryz.env true noX true 400 ⟨51,[.cd (zU Tryz.f51).body],z8 0 [.agg [.bool ng,.loose ⟨0,1,ap,0⟩ np]],[[],[(0,(false,CB mp tp))]],1⟩ (zr 1 [1,10,11,12] fS fT)=
 Te18 fR fS fT ng ap np mp tp:=by kernel_rfl
noncomputable abbrev u18_0_0:=(0,false,Blk.cols mp [Col.int IntKind.i64 tp])
def T18_0 (x0:Int):Prop:=fR (decide (x0<(np:Int))) (fR (decide ((0:Int)≤x0∧x0<(np:Int))) (fR (decide (x0.toNat+ap<mp)) (fR (decide (tp (x0.toNat+ap)<0)) (fT (.tf false) ([[(u18_0_0 mp tp)]]) 2) (fR (decide (tp (x0.toNat+ap)≥1000000)) (fT (.tf false) ([[(u18_0_0 mp tp)]]) 2) (fR (lim .i64 (x0+1)) (fS (hd Tryz.f51 0) ([.ptr ⟨1,0,0,0⟩,.loose ⟨0,1,ap,0⟩ np,.int .i64 (np:Int),.int .i64 (x0+1)]) ([[(u18_0_0 mp tp),(1,true,.cells [.bool ng,.loose ⟨0,1,ap,0⟩ np])]]) 2) False))) False) False) (fR ((np:Int)==0) (fR ng (fT (.tf false) ([[(u18_0_0 mp tp)]]) 2) (fT (.tf true) ([[(u18_0_0 mp tp)]]) 2)) (fR (lim .i64 ((np:Int)-1)) (fR (decide ((0:Int)≤(np:Int)-1∧(np:Int)-1<(np:Int))) (fR (decide (((np:Int)-1).toNat+ap<mp)) (fR (tp (((np:Int)-1).toNat+ap) != 0) (fT (.tf true) ([[(u18_0_0 mp tp)]]) 2) (fT (.tf false) ([[(u18_0_0 mp tp)]]) 2)) False) False) False))
theorem t18_0 (x0:Int):run fR Tryz.env true noX true 400 ⟨51,hd Tryz.f51 0,yd [1,10,11,12] [.ptr ⟨1,0,0,0⟩,
 .loose ⟨0,1,ap,0⟩ np,.int .i64 (np:Int),
 .int .i64 x0],[[(1,(true,.cells [.bool ng,.loose ⟨0,1,ap,0⟩ np]))],[(0,(false,CB mp tp))]],2⟩ (zr 1 [1,10,11,12] fS fT)=
  T18_0 fR fS fT ng ap np mp tp x0:=by kernel_rfl
noncomputable abbrev J18:Rt18→zS:=fun r=> [yC (1+1) ((N18) r)++ [(0,(false,CB mp tp))]]
attribute [local irreducible] Int.subNatNat in
theorem a18 {r:Rt18} (h:zY ((q18 ng ap np mp tp)) ((p18 ng ap np mp tp)) r):zn Tryz.prog 51 [.agg [.bool ng,.loose ⟨0,1,ap,0⟩ np]] [[(0,(false,CB mp tp))]] 1 ((V18) r) ((J18 mp tp) r) 400∧HB Tryz.prog 51:=by
 refine zf Tryz.envOk Tryz.mixed yz ((I18 ng ap np mp tp)) ((V18)) (J18 mp tp) (fn:=zU Tryz.f51) (ts:= [1,10,11,12]) (n:=400) rfl (by decide) (by simp) (zW rfl) ?_ ?_ ?_ h
 · intro s; cases s<;>exact ⟨yo _ _,by simp [I18],zW rfl,Nat.le_of_ble_eq_true rfl⟩
 · intro fS fT x hS hR h
   refine Holds.eq (te18 cond fS fT ng ap np mp tp) ?_
   unfold Te18
   unfold p18 at h
   exact zA h (fun c0 h=>zV hR _ h (fun n=>n) rfl rfl rfl (zR rfl) rfl (zB (zC rfl) rfl rfl zE)) (fun c0 h=>ze hS _ h (fun n=>bif Nat.beq n 1 then 1 else n) rfl rfl rfl ⟨(xJ (zD rfl) rfl rfl),⟨(zQ (zC rfl) rfl rfl rfl),⟨(zI rfl),⟨(zI rfl),trivial⟩⟩⟩⟩ rfl (xX (zD rfl) rfl (by simp) (yb ⟨(zj rfl),(zQ (zC rfl) rfl rfl rfl),trivial⟩) (zB (zC rfl) rfl rfl zE)))
 · intro fS fT x hS hR s h
   cases s with
   | h0 x0=>
    refine Holds.eq (t18_0 cond fS fT ng ap np mp tp x0) ?_
    unfold T18_0
    rw [q18] at h
    refine zA h (fun c0 h=>zA h (fun c1 h=>zA h (fun c2 h=>zA h (fun c3 h=> ?_) (fun c3 h=>zA h (fun c4 h=> ?_) (fun c4 h=>zA h (fun c5 h=>ze hS _ h (fun n=>bif Nat.beq n 1 then 1 else n) rfl rfl rfl ⟨(xJ (zD rfl) rfl rfl),⟨(zQ (zC rfl) rfl rfl rfl),⟨(zI rfl),⟨(zI rfl),trivial⟩⟩⟩⟩ rfl (xX (zD rfl) rfl (by simp) (yb ⟨(zj rfl),(zQ (zC rfl) rfl rfl rfl),trivial⟩) (zB (zC rfl) rfl rfl zE))) (fun c5 h=> ?_)))) (fun c2 h=> ?_)) (fun c1 h=> ?_)) (fun c0 h=>zA h (fun c1 h=>zA h (fun c2 h=> ?_) (fun c2 h=> ?_)) (fun c1 h=>zA h (fun c2 h=>zA h (fun c3 h=>zA h (fun c4 h=>zA h (fun c5 h=> ?_) (fun c5 h=> ?_)) (fun c4 h=> ?_)) (fun c3 h=> ?_)) (fun c2 h=> ?_)))
    all_goals first
      |exact zV hR _ h (fun n=>n) rfl rfl rfl (zR rfl) rfl (zB (zC rfl) rfl rfl zE)
      |exact zF h
end
noncomputable abbrev w18 {α:Type} (g:Bool→Nat→Nat→Nat→(Nat→Int)→α) (x:(Bool×(Nat×Nat×Nat×(Nat→Int)×Unit)×Unit)×Unit):α:=g x.1.1 x.1.2.1.1 x.1.2.1.2.1 x.1.2.1.2.2.1 x.1.2.1.2.2.2.1
noncomputable def k18:Con:=⟨51,[.agg [.plain (.bool),.list [.int .i64]]],w18 (fun ng ap np mp tp=>decide (ap+np≤mp∧np≤1000000)),w18 (fun ng ap np mp tp=>(V18) (S.fV ng np (FS tp ap))),w18 (fun ng ap np mp tp=>(N18) (S.fV ng np (FS tp ap))),fun _ _=> .dead⟩
theorem s18' (ng:Bool) (ap np mp:Nat) (tp:Nat→Int) (hp:ap+np≤mp∧np≤1000000) (hn:np≤80): ∀ (k i:Nat),i+k=np→(∀ j,j<i→0≤tp (j+ap)∧tp (j+ap)<1000000)→Comes (q18 ng ap np mp tp) (.h0 (i:Int)) (S.fV ng np (fun j=>tp (j+ap))):=by
 obtain ⟨hp1,hp2⟩:=hp
 intro k
 induction k with
 | zero=>
  intro i hi hj
  obtain rfl:np=i:=by omega
  have hG:S.fW np (fun j=>tp (j+ap))=true↔(np=0∨tp (np-1+ap)≠0):=by
   rw [zp]
   exact ⟨fun h=>h.2,fun h=>⟨hj,h⟩⟩
  have hI:=yg (ng:=ng) (n:=np) (t:=(fun j=>tp (j+ap)))
  rw [hG] at hI
  have e1:((np:Int)-1).toNat=np-1:=by omega
  generalize S.fV ng np (fun j=>tp (j+ap))=R at*
  have hR:(np≤80∧(np=0∨tp (np-1+ap)≠0)∧(0<np∨ng=false))→true=R:=fun h=>(hI.mpr h).symm
  have hR': ¬ (np≤80∧(np=0∨tp (np-1+ap)≠0)∧(0<np∨ng=false))→false=R:=fun h=>by cases R; rfl; exact absurd (hI.mp rfl) h
  cases ng
  · apply Comes.of
    show zY _ _ _
    (first|rw [q18]|unfold q18)
    repeat' (first|with_reducible refine zP (fun h=> ?_) (fun h=> ?_)<;>(try simp only [SH,e1] at h)|exact zK.mpr (by omega))
    all_goals first
      |(exfalso; omega)
      |(refine zG.mpr (hR ⟨by omega,by omega,?_⟩); first|exact .inr rfl|(left; omega)|(left; rcases Nat.eq_zero_or_pos np with h|h<;>first|exact h|exact absurd (hl.1 h) (by decide)))
      |(refine zG.mpr (hR' ?_); intro hx; first|(exact absurd hx.2.2 (by simp; omega))|omega|(have h3:=hx.2.1; omega))
      |(exfalso; simp at*; done)
  · apply Comes.of
    show zY _ _ _
    (first|rw [q18]|unfold q18)
    repeat' (first|with_reducible refine zP (fun h=> ?_) (fun h=> ?_)<;>(try simp only [SH,e1] at h)|exact zK.mpr (by omega))
    all_goals first
      |(exfalso; omega)
      |(refine zG.mpr (hR ⟨by omega,by omega,?_⟩); first|exact .inr rfl|(left; omega)|(left; rcases Nat.eq_zero_or_pos np with h|h<;>first|exact h|exact absurd (hl.1 h) (by decide)))
      |(refine zG.mpr (hR' ?_); intro hx; first|(exact absurd hx.2.2 (by simp; omega))|omega|(have h3:=hx.2.1; omega))
      |(exfalso; simp at*; done)
 | succ k ih=>
  intro i hi hj
  by_cases hc:0≤tp (i+ap)∧tp (i+ap)<1000000
  · have ih:=ih (i+1) (by omega) (fun j hlt=>by
     rcases Nat.lt_or_eq_of_le (Nat.le_of_lt_succ hlt) with h2|h2
     · exact hj j h2
     · subst h2; exact hc)
    apply Comes.of
    show zY _ _ _
    (first|rw [q18]|unfold q18)
    repeat' (first|with_reducible refine zP (fun h=> ?_) (fun h=> ?_)<;>(try simp only [SH] at h)|exact zK.mpr (by omega))
    all_goals first|(exfalso; omega)|exact ih
  · have hR:S.fV ng np (fun j=>tp (j+ap))=false:=by
     rw [Bool.eq_false_iff]
     intro h
     exact hc ((zp.mp (yg.mp h).2.1).1 i (by omega))
    rw [hR]
    apply Comes.of
    show zY _ _ _
    (first|rw [q18]|unfold q18)
    repeat' (first|with_reducible refine zP (fun h=> ?_) (fun h=> ?_)<;>(try simp only [SH] at h)|exact zK.mpr (by omega))
    all_goals first|(exfalso; omega)|exact zG.mpr rfl
theorem s18 (ng:Bool) (ap np mp:Nat) (tp:Nat→Int) (hp:ap+np≤mp∧np≤1000000):zY ((q18 ng ap np mp tp)) ((p18 ng ap np mp tp)) (S.fV ng np (fun j=>tp (j+ap))):=by
 have hI:=yg (ng:=ng) (n:=np) (t:=(fun j=>tp (j+ap)))
 rw [zp] at hI
 by_cases hn:np≤80
 · skip
   have hm:=s18' ng ap np mp tp hp hn np 0 (by omega) (fun j hj=>absurd hj (Nat.not_lt_zero j))
   skip
   have hR': ¬ ((np=0∨tp (np-1+ap)≠0)∧(0<np∨ng=false))→false=S.fV ng np (fun j=>tp (j+ap)):=fun h=>by
    cases hx:S.fV ng np (fun j=>tp (j+ap))
    · rfl
    · exact absurd ⟨(hI.mp hx).2.1.2,(hI.mp hx).2.2⟩ h
   have e1:((np:Int)-1).toNat=np-1:=by omega
   generalize S.fV ng np (fun j=>tp (j+ap))=R at*
   obtain ⟨hp1,hp2⟩:=hp
   cases ng
   · skip
     show zY _ _ _
     unfold p18
     repeat' (first|with_reducible refine zP (fun h=> ?_) (fun h=> ?_)<;>(try simp only [SH,e1] at h)|exact zK.mpr (by omega))
     all_goals first
       |(exfalso; omega)
       |exact hm
       |exact hm ⟨fun _=>rfl,fun h=>by omega⟩
       |(refine zG.mpr (hR' ?_); intro hx; first|(exact absurd hx.2 (by simp; omega))|omega|(have h3:=hx.1; omega))
       |(exfalso; simp at*; done)
   · skip
     show zY _ _ _
     unfold p18
     repeat' (first|with_reducible refine zP (fun h=> ?_) (fun h=> ?_)<;>(try simp only [SH,e1] at h)|exact zK.mpr (by omega))
     all_goals first
       |(exfalso; omega)
       |exact hm
       |exact hm ⟨fun h=>by omega,fun h=>by omega⟩
       |(refine zG.mpr (hR' ?_); intro hx; first|(exact absurd hx.2 (by simp; omega))|omega|(have h3:=hx.1; omega))
       |(exfalso; simp at*; done)
 · have hR:S.fV ng np (fun j=>tp (j+ap))=false:=by
    rw [Bool.eq_false_iff]
    intro h
    exact hn (hI.mp h).1
   rw [hR]
   show zY _ _ _
   unfold p18
   repeat' (first|with_reducible refine zP (fun h=> ?_) (fun h=> ?_)<;>(try simp only [SH] at h)|exact zK.mpr (by omega))
   all_goals first|(exfalso; omega)|exact zG.mpr rfl
theorem k18_ok:k18.ok Tryz.prog:=by
 intro x hx
 obtain ⟨⟨ng,⟨ap,np,mp,tp,_⟩,_⟩,_⟩:=x
 obtain ⟨h1,h2⟩:=a18 ng ap np mp tp (s18 ng ap np mp tp (zm hx rfl))
 exact ⟨⟨400,(by decide:1+1+0≤400),h1⟩,h2⟩
section
variable (fR:TT) (fS:KS) (fT:KR) (ng:Bool) (ap np mp:Nat) (tp:NI)
inductive St19 where
 |h0 (x0:Int)
abbrev Rt19:=Bool
noncomputable def V19 (r:Rt19):PV:= .bool r
noncomputable def N19 (r:Rt19):List Blk:= []
noncomputable def I19:St19→Hd
  | .h0 x0=>⟨hd Tryz.f54 0,[.ptr ⟨1,0,0,0⟩,.int .i64 (np:Int),
 .int .i64 x0],[[(1,(true,.cells [.bool ng,.loose ⟨0,1,ap,0⟩ np]))],[(0,(false,CB mp tp))]],2⟩
noncomputable def q19 (ng:Bool) (ap np mp:Nat) (tp:NI):St19→Option (St19⊕Rt19)| .h0 x0=>bif (decide (x0<(np:Int))) then (bif (decide ((0:Int)≤x0∧x0<(np:Int))) then (bif (decide (x0.toNat+ap<mp)) then (bif (decide (tp (x0.toNat+ap)<0)) then (some (.inr false)) else (bif (decide (tp (x0.toNat+ap)≥1000000)) then (some (.inr false)) else (bif (lim .i64 (x0+1)) then (some (.inl (.h0 (x0+1)))) else none))) else none) else none) else (some (.inr true))
noncomputable def p19 (ng:Bool) (ap np mp:Nat) (tp:NI):Option (St19⊕Rt19):=bif (decide ((np:Int)>80)) then (some (.inr false)) else (bif ((np:Int)==0) then (bif ng then (some (.inr false)) else (bif (decide ((np:Int)>0)) then (bif (lim .i64 ((np:Int)-1)) then (bif (decide ((0:Int)≤(np:Int)-1∧(np:Int)-1<(np:Int))) then (bif (decide (((np:Int)-1).toNat+ap<mp)) then (bif (tp (((np:Int)-1).toNat+ap)==0) then (some (.inr false)) else (some (.inl (.h0 ((0:Int)))))) else none) else none) else none) else (some (.inl (.h0 ((0:Int))))))) else (bif (decide ((np:Int)>0)) then (bif (lim .i64 ((np:Int)-1)) then (bif (decide ((0:Int)≤(np:Int)-1∧(np:Int)-1<(np:Int))) then (bif (decide (((np:Int)-1).toNat+ap<mp)) then (bif (tp (((np:Int)-1).toNat+ap)==0) then (some (.inr false)) else (some (.inl (.h0 ((0:Int)))))) else none) else none) else none) else (some (.inl (.h0 ((0:Int)))))))
noncomputable abbrev u19_e_0:=([[(0,false,Blk.cols mp [Col.int IntKind.i64 tp]),(1,true,Blk.cells [PV.bool ng,PV.loose ⟨0,1,ap,0⟩ np])]])
noncomputable abbrev u19_e_1:=([PV.ptr ⟨1,0,0,0⟩,PV.int IntKind.i64 (np:Int),PV.int IntKind.i64 (0:Int)])
def Te19:Prop:=fR (decide ((np:Int)>80)) (fT (.tf false) ([[(0,false,CB mp tp)]]) 2) (fR ((np:Int)==0) (fR ng (fT (.tf false) ([[(0,false,CB mp tp)]]) 2) (fR (decide ((np:Int)>0)) (fR (lim .i64 ((np:Int)-1)) (fR (decide ((0:Int)≤(np:Int)-1∧(np:Int)-1<(np:Int))) (fR (decide (((np:Int)-1).toNat+ap<mp)) (fR (tp (((np:Int)-1).toNat+ap)==0) (fT (.tf false) ([[(0,false,CB mp tp)]]) 2) (fS (hd Tryz.f54 0) (u19_e_1 np) (u19_e_0 ng ap np mp tp) 2)) False) False) False) (fS (hd Tryz.f54 0) (u19_e_1 np) (u19_e_0 ng ap np mp tp) 2))) (fR (decide ((np:Int)>0)) (fR (lim .i64 ((np:Int)-1)) (fR (decide ((0:Int)≤(np:Int)-1∧(np:Int)-1<(np:Int))) (fR (decide (((np:Int)-1).toNat+ap<mp)) (fR (tp (((np:Int)-1).toNat+ap)==0) (fT (.tf false) ([[(0,false,CB mp tp)]]) 2) (fS (hd Tryz.f54 0) (u19_e_1 np) (u19_e_0 ng ap np mp tp) 2)) False) False) False) (fS (hd Tryz.f54 0) (u19_e_1 np) (u19_e_0 ng ap np mp tp) 2)))
theorem te19:run fR Tryz.env true noX true 400 ⟨54,[.cd (zU Tryz.f54).body],z8 0 [.agg [.bool ng,.loose ⟨0,1,ap,0⟩ np]],[[],[(0,(false,CB mp tp))]],1⟩ (zr 1 [1,3,4] fS fT)=
 Te19 fR fS fT ng ap np mp tp:=by kernel_rfl
def T19_0 (x0:Int):Prop:=fR (decide (x0<(np:Int))) (fR (decide ((0:Int)≤x0∧x0<(np:Int))) (fR (decide (x0.toNat+ap<mp)) (fR (decide (tp (x0.toNat+ap)<0)) (fT (.tf false) ([[(0,false,CB mp tp)]]) 2) (fR (decide ((0:Int)≤x0∧x0<(np:Int))) (fR (decide (x0.toNat+ap<mp)) (fR (decide (tp (x0.toNat+ap)≥1000000)) (fT (.tf false) ([[(0,false,CB mp tp)]]) 2) (fR (lim .i64 (x0+1)) (fS (hd Tryz.f54 0) ([.ptr ⟨1,0,0,0⟩,.int .i64 (np:Int),.int .i64 (x0+1)]) ([[(0,false,CB mp tp),(1,true,.cells [.bool ng,.loose ⟨0,1,ap,0⟩ np])]]) 2) False)) False) False)) False) False) (fT (.tf true) ([[(0,false,CB mp tp)]]) 2)
theorem t19_0 (x0:Int):run fR Tryz.env true noX true 400 ⟨54,hd Tryz.f54 0,yd [1,3,4] [.ptr ⟨1,0,0,0⟩,.int .i64 (np:Int),
 .int .i64 x0],[[(1,(true,.cells [.bool ng,.loose ⟨0,1,ap,0⟩ np]))],[(0,(false,CB mp tp))]],2⟩ (zr 1 [1,3,4] fS fT)=
  T19_0 fR fS fT ng ap np mp tp x0:=by kernel_rfl
noncomputable abbrev J19:Rt19→zS:=fun r=> [yC (1+1) ((N19) r)++ [(0,(false,CB mp tp))]]
attribute [local irreducible] Int.subNatNat in
theorem a19 {r:Rt19} (h:zY ((q19 ng ap np mp tp)) ((p19 ng ap np mp tp)) r):zn Tryz.prog 54 [.agg [.bool ng,.loose ⟨0,1,ap,0⟩ np]] [[(0,(false,CB mp tp))]] 1 ((V19) r) ((J19 mp tp) r) 400∧HB Tryz.prog 54:=by
 refine zf Tryz.envOk Tryz.mixed yz ((I19 ng ap np mp tp)) ((V19)) (J19 mp tp) (fn:=zU Tryz.f54) (ts:= [1,3,4]) (n:=400) rfl (by decide) (by simp) (zW rfl) ?_ ?_ ?_ h
 · intro s; cases s<;>exact ⟨yo _ _,by simp [I19],zW rfl,Nat.le_of_ble_eq_true rfl⟩
 · intro fS fT x hS hR h
   refine Holds.eq (te19 cond fS fT ng ap np mp tp) ?_
   unfold Te19
   unfold p19 at h
   refine zA h (fun c0 h=> ?_) (fun c0 h=>zA h (fun c1 h=>zA h (fun c2 h=> ?_) (fun c2 h=>zA h (fun c3 h=>zA h (fun c4 h=>zA h (fun c5 h=>zA h (fun c6 h=>zA h (fun c7 h=> ?_) (fun c7 h=> ?_)) (fun c6 h=> ?_)) (fun c5 h=> ?_)) (fun c4 h=> ?_)) (fun c3 h=> ?_))) (fun c1 h=>zA h (fun c2 h=>zA h (fun c3 h=>zA h (fun c4 h=>zA h (fun c5 h=>zA h (fun c6 h=> ?_) (fun c6 h=> ?_)) (fun c5 h=> ?_)) (fun c4 h=> ?_)) (fun c3 h=> ?_)) (fun c2 h=> ?_)))
   all_goals first
     |exact zF h
     |exact zV hR _ h (fun n=>n) rfl rfl rfl (zR rfl) rfl (zB (zC rfl) rfl rfl zE)
     |exact ze hS _ h (fun n=>bif Nat.beq n 1 then 1 else n) rfl rfl rfl ⟨(xJ (zD rfl) rfl rfl),⟨(zI rfl),⟨(zI rfl),trivial⟩⟩⟩ rfl (xX (zD rfl) rfl (by simp) (yb ⟨(zj rfl),(zQ (zC rfl) rfl rfl rfl),trivial⟩) (zB (zC rfl) rfl rfl zE))
 · intro fS fT x hS hR s h
   cases s with
   |h0 x0=>
    refine Holds.eq (t19_0 cond fS fT ng ap np mp tp x0) ?_
    unfold T19_0
    rw [q19] at h
    exact zA h (fun c0 h=>zA h (fun c1 h=>zA h (fun c2 h=>zA h (fun c3 h=>zV hR _ h (fun n=>n) rfl rfl rfl (zR rfl) rfl (zB (zC rfl) rfl rfl zE)) (fun c3 h=>zJ c1 (zJ c2 (zA h (fun c4 h=>zV hR _ h (fun n=>n) rfl rfl rfl (zR rfl) rfl (zB (zC rfl) rfl rfl zE)) (fun c4 h=>zA h (fun c5 h=>ze hS _ h (fun n=>bif Nat.beq n 1 then 1 else n) rfl rfl rfl ⟨(xJ (zD rfl) rfl rfl),⟨(zI rfl),⟨(zI rfl),trivial⟩⟩⟩ rfl (xX (zD rfl) rfl (by simp) (yb ⟨(zj rfl),(zQ (zC rfl) rfl rfl rfl),trivial⟩) (zB (zC rfl) rfl rfl zE))) (fun c5 h=>zF h)))))) (fun c2 h=>zF h)) (fun c1 h=>zF h)) (fun c0 h=>zV hR _ h (fun n=>n) rfl rfl rfl (zR rfl) rfl (zB (zC rfl) rfl rfl zE))
end
noncomputable def k19:Con:=⟨54,[.agg [.plain (.bool),.list [.int .i64]]],w18 (fun ng ap np mp tp=>decide (ap+np≤mp∧np≤1000000)),w18 (fun ng ap np mp tp=>(V19) (S.fV ng np (FS tp ap))),w18 (fun ng ap np mp tp=>(N19) (S.fV ng np (FS tp ap))),fun _ _=> .dead⟩
theorem s19' (ng:Bool) (ap np mp:Nat) (tp:Nat→Int) (hp:ap+np≤mp∧np≤1000000) (hn:np≤80) (hl:(np=0→ng=false)∧(0<np→tp (np-1+ap)≠0)): ∀ (k i:Nat),i+k=np→(∀ j,j<i→0≤tp (j+ap)∧tp (j+ap)<1000000)→Comes (q19 ng ap np mp tp) (.h0 (i:Int)) (S.fV ng np (fun j=>tp (j+ap))):=by
 obtain ⟨hp1,hp2⟩:=hp
 intro k
 induction k with
 | zero=>
  intro i hi hj
  obtain rfl:np=i:=by omega
  have hG:S.fW np (fun j=>tp (j+ap))=true↔(np=0∨tp (np-1+ap)≠0):=by
   rw [zp]
   exact ⟨fun h=>h.2,fun h=>⟨hj,h⟩⟩
  have hI:=yg (ng:=ng) (n:=np) (t:=(fun j=>tp (j+ap)))
  rw [hG] at hI
  have e1:((np:Int)-1).toNat=np-1:=by omega
  generalize S.fV ng np (fun j=>tp (j+ap))=R at*
  have hR:(np≤80∧(np=0∨tp (np-1+ap)≠0)∧(0<np∨ng=false))→true=R:=fun h=>(hI.mpr h).symm
  have hR': ¬ (np≤80∧(np=0∨tp (np-1+ap)≠0)∧(0<np∨ng=false))→false=R:=fun h=>by cases R; rfl; exact absurd (hI.mp rfl) h
  cases ng
  · apply Comes.of
    show zY _ _ _
    (first|rw [q19]|unfold q19)
    repeat' (first|with_reducible refine zP (fun h=> ?_) (fun h=> ?_)<;>(try simp only [SH,e1] at h)|exact zK.mpr (by omega))
    all_goals first
      |(exfalso; omega)
      |(refine zG.mpr (hR ⟨by omega,by omega,?_⟩); first|exact .inr rfl|(left; omega)|(left; rcases Nat.eq_zero_or_pos np with h|h<;>first|exact h|exact absurd (hl.1 h) (by decide)))
      |(refine zG.mpr (hR' ?_); intro hx; first|(exact absurd hx.2.2 (by simp; omega))|omega|(have h3:=hx.2.1; omega))
      |(exfalso; simp at*; done)
  · apply Comes.of
    show zY _ _ _
    (first|rw [q19]|unfold q19)
    repeat' (first|with_reducible refine zP (fun h=> ?_) (fun h=> ?_)<;>(try simp only [SH,e1] at h)|exact zK.mpr (by omega))
    all_goals first
      |(exfalso; omega)
      |(refine zG.mpr (hR ⟨by omega,by omega,?_⟩); first|exact .inr rfl|(left; omega)|(left; rcases Nat.eq_zero_or_pos np with h|h<;>first|exact h|exact absurd (hl.1 h) (by decide)))
      |(refine zG.mpr (hR' ?_); intro hx; first|(exact absurd hx.2.2 (by simp; omega))|omega|(have h3:=hx.2.1; omega))
      |(exfalso; simp at*; done)
 | succ k ih=>
  intro i hi hj
  by_cases hc:0≤tp (i+ap)∧tp (i+ap)<1000000
  · have ih:=ih (i+1) (by omega) (fun j hlt=>by
     rcases Nat.lt_or_eq_of_le (Nat.le_of_lt_succ hlt) with h2|h2
     · exact hj j h2
     · subst h2; exact hc)
    apply Comes.of
    show zY _ _ _
    (first|rw [q19]|unfold q19)
    repeat' (first|with_reducible refine zP (fun h=> ?_) (fun h=> ?_)<;>(try simp only [SH] at h)|exact zK.mpr (by omega))
    all_goals first|(exfalso; omega)|exact ih
  · have hR:S.fV ng np (fun j=>tp (j+ap))=false:=by
     rw [Bool.eq_false_iff]
     intro h
     exact hc ((zp.mp (yg.mp h).2.1).1 i (by omega))
    rw [hR]
    apply Comes.of
    show zY _ _ _
    (first|rw [q19]|unfold q19)
    repeat' (first|with_reducible refine zP (fun h=> ?_) (fun h=> ?_)<;>(try simp only [SH] at h)|exact zK.mpr (by omega))
    all_goals first|(exfalso; omega)|exact zG.mpr rfl
theorem s19 (ng:Bool) (ap np mp:Nat) (tp:Nat→Int) (hp:ap+np≤mp∧np≤1000000):zY ((q19 ng ap np mp tp)) ((p19 ng ap np mp tp)) (S.fV ng np (fun j=>tp (j+ap))):=by
 have hI:=yg (ng:=ng) (n:=np) (t:=(fun j=>tp (j+ap)))
 rw [zp] at hI
 by_cases hn:np≤80
 · skip
   skip
   have hm:=fun hl=>s19' ng ap np mp tp hp hn hl np 0 (by omega) (fun j hj=>absurd hj (Nat.not_lt_zero j))
   have hR': ¬ ((np=0∨tp (np-1+ap)≠0)∧(0<np∨ng=false))→false=S.fV ng np (fun j=>tp (j+ap)):=fun h=>by
    cases hx:S.fV ng np (fun j=>tp (j+ap))
    · rfl
    · exact absurd ⟨(hI.mp hx).2.1.2,(hI.mp hx).2.2⟩ h
   have e1:((np:Int)-1).toNat=np-1:=by omega
   generalize S.fV ng np (fun j=>tp (j+ap))=R at*
   obtain ⟨hp1,hp2⟩:=hp
   cases ng
   · skip
     show zY _ _ _
     unfold p19
     repeat' (first|with_reducible refine zP (fun h=> ?_) (fun h=> ?_)<;>(try simp only [SH,e1] at h)|exact zK.mpr (by omega))
     all_goals first
       |(exfalso; omega)
       |exact hm
       |exact hm ⟨fun _=>rfl,fun h=>by omega⟩
       |(refine zG.mpr (hR' ?_); intro hx; first|(exact absurd hx.2 (by simp; omega))|omega|(have h3:=hx.1; omega))
       |(exfalso; simp at*; done)
   · skip
     show zY _ _ _
     unfold p19
     repeat' (first|with_reducible refine zP (fun h=> ?_) (fun h=> ?_)<;>(try simp only [SH,e1] at h)|exact zK.mpr (by omega))
     all_goals first
       |(exfalso; omega)
       |exact hm
       |exact hm ⟨fun h=>by omega,fun h=>by omega⟩
       |(refine zG.mpr (hR' ?_); intro hx; first|(exact absurd hx.2 (by simp; omega))|omega|(have h3:=hx.1; omega))
       |(exfalso; simp at*; done)
 · have hR:S.fV ng np (fun j=>tp (j+ap))=false:=by
    rw [Bool.eq_false_iff]
    intro h
    exact hn (hI.mp h).1
   rw [hR]
   show zY _ _ _
   unfold p19
   repeat' (first|with_reducible refine zP (fun h=> ?_) (fun h=> ?_)<;>(try simp only [SH] at h)|exact zK.mpr (by omega))
   all_goals first|(exfalso; omega)|exact zG.mpr rfl
theorem k19_ok:k19.ok Tryz.prog:=by
 intro x hx
 obtain ⟨⟨ng,⟨ap,np,mp,tp,_⟩,_⟩,_⟩:=x
 obtain ⟨h1,h2⟩:=a19 ng ap np mp tp (s19 ng ap np mp tp (zm hx rfl))
 exact ⟨⟨400,(by decide:1+1+0≤400),h1⟩,h2⟩
noncomputable def xC (fR:Bool→Prop→Prop→Prop):Ext:=y2 fR [k69,k65,k69v,k65v,k60,k61,k44,k73,k55,k45,k58,k56,k59,k46,k18,k19]
theorem iA:yT Tryz.prog (xC cond):=yH ⟨k69_ok,k65_ok,k69v_ok,k65v_ok,k60_ok,k61_ok,k44_ok,k73_ok,k55_ok,k45_ok,k58_ok,k56_ok,k59_ok,k46_ok,k18_ok,k19_ok,trivial⟩
namespace S
noncomputable def eO (v:Int):Bool×Int×List Int:=if (f0 (v.natAbs:Int)).length>80 then (false,3,[]) else (decide (v<0),0,f0 (v.natAbs:Int))
noncomputable def ff (n1:Bool) (n:Nat) (t:Nat→Int) (n2:Bool) (m:Nat) (u:Nat→Int):Bool×Int×List Int:=if fV n1 n t=true∧fV n2 m u=true then eO (sv n1 (val n t)+sv n2 (val m u)) else (false,1,[])
def fu (n1:Bool) (n:Nat) (t:Nat→Int) (n2:Bool) (m:Nat) (u:Nat→Int):Int:=if fV n1 n t=true∧fV n2 m u=true then fv (sv n1 (val n t)) (sv n2 (val m u)) else 0
end S
theorem s8 {neg:Bool} {v:Int} (h:0≤v):S.fi (S.sv neg v)=(neg&&decide (0<v),S.f0 v):=by
 unfold S.fi S.sv
 cases neg
 · simp only [cond_false,Bool.false_and,Prod.mk.injEq,decide_eq_false_iff_not]
   exact ⟨by omega,by rw [Int.natAbs_of_nonneg h]⟩
 · simp only [cond_true,Bool.true_and,Prod.mk.injEq]
   refine ⟨?_,by rw [Int.natAbs_neg,Int.natAbs_of_nonneg h]⟩
   rw [decide_eq_decide]
   omega
theorem tx {neg:Bool} {v w:Int}:S.sv neg v+S.sv neg w=S.sv neg (v+w):=by
 cases neg<;>simp only [S.sv,cond_true,cond_false]
 omega
theorem wS {neg:Bool} {v w:Int}:S.sv neg v+S.sv (!neg) w=S.sv neg (v-w):=by
 cases neg<;>simp only [S.sv,Bool.not_false,Bool.not_true,cond_true,cond_false]<;>omega
theorem yq {v:Int}:((S.f0 v).length=0)↔v≤0:=by
 constructor
 · intro h
   refine Int.not_lt.mp fun h2=> ?_
   have:=yc h2
   omega
 · intro h
   rw [yS h]; rfl
theorem zq {v:Int} (h:0≤v):(S.val (S.f0 v).length fun j=>S.at' (S.f0 v) j)=v:=by
 have:=vN (L:=S.f0 v)
 rw [uV h] at this
 exact this
theorem yu {t:Nat→Int}: ∀ {k i:Nat},(∀ j,i≤j→j<i+k→0≤t j∧t j<1000000)→S.fU t i k<S.pw k
  |0,_,_=>by show (0:Int)<1; omega
  |k+1,i,h=>by
   have h0:=h i (Nat.le_refl _) (by omega)
   have h1:=yu (t:=t) (k:=k) (i:=i+1) fun j h1 h2=>h j (by omega) (by omega)
   simp only [S.fU,S.pw]
   omega
theorem xH: ∀ {k:Nat},0<S.pw k
  |0=>by show (0:Int)<1; omega
  |k+1=>by have:=xH (k:=k); simp only [S.pw]; omega
theorem uj {k m:Nat} (h:k≤m):S.pw k≤S.pw m:=by
 induction m with
 |zero=>rw [show k=0 by omega]; exact Int.le_refl _
 | succ m ih=>
  rcases Nat.lt_or_eq_of_le h with h2|h2
  · have:=ih (by omega)
    have:=xH (k:=m)
    simp only [S.pw]
    omega
  · rw [h2]; exact Int.le_refl _
theorem z5 {n m:Nat} {t:Nat→Int} (h:S.fX n t=true) (hm:n≤m):S.val n t<S.pw m:=Int.lt_of_lt_of_le (yu fun j _ hj=>yL.mp h j (by omega)) (uj hm)
theorem zw: ∀ {n:Nat} {v:Int},v<S.pw n→(S.f0 v).length≤n
  |0,v,h=>by
   have h:v<1:=h
   rw [yS (by omega)]; exact Nat.le_refl _
  | n +1,v,h=>by
   have h:v<1000000*S.pw n:=h
   by_cases h0:0<v
   · rw [xN h0]
     have:=zw (n:=n) (v:=v / 1000000) (by omega)
     simp only [List.length_cons]
     omega
   · rw [yS (by omega)]; exact Nat.zero_le _
section
variable (fR:TT) (fS:KS) (fT:KR) (n1:Bool) (ap np mp:Nat) (tp:NI) (n2:Bool) (aq nq mq:Nat) (tq:NI)
abbrev St48:=Empty
abbrev Rt48:=Bool×List Int
noncomputable def V48 (r:Rt48):PV:= .agg [.bool r.1,.own 3 1 r.2.length]
noncomputable def N48 (r:Rt48):List Blk:= [CI r.2]
noncomputable def I48:St48→Hd:=fun s=>s.elim
noncomputable def q48 (n1:Bool) (ap np mp:Nat) (tp:NI) (n2:Bool) (aq nq mq:Nat) (tq:NI):St48→Option (St48⊕Rt48):=fun s=>s.elim
noncomputable def p48 (n1:Bool) (ap np mp:Nat) (tp:NI) (n2:Bool) (aq nq mq:Nat) (tq:NI):Option (St48⊕Rt48):=bif n1 then (bif n2 then (bif (decide ((ap+np≤mp∧aq+nq≤mq)∧(np≤1000∧nq≤1000)∧(S.fW np fun j=>tp (j+ap))=true∧(S.fW nq fun j=>tq (j+aq))=true)) then (bif ((↑((S.f0 ((S.val np fun j=>tp (j+ap))+S.val nq fun j=>tq (j+aq))).length):Int)==0) then (some (.inr (false,[]))) else (some (.inr (true,S.f0 ((S.val np fun j=>tp (j+ap))+S.val nq fun j=>tq (j+aq)))))) else none) else (bif (decide (ap+np≤mp∧np≤1000000∧aq+nq≤mq∧nq≤1000000∧(S.fW np fun j=>tp (j+ap))=true∧(S.fW nq fun j=>tq (j+aq))=true)) then (bif (decide (S.fv (S.val np fun j=>tp (j+ap)) (S.val nq fun j=>tq (j+aq))≥0)) then (bif (decide ((ap+np≤mp∧aq+nq≤mq)∧(np≤1000∧nq≤1000)∧(S.fW np fun j=>tp (j+ap))=true∧(S.fW nq fun j=>tq (j+aq))=true∧(S.val nq fun j=>tq (j+aq))≤S.val np fun j=>tp (j+ap))) then (bif ((↑((S.f0 ((S.val np fun j=>tp (j+ap))-S.val nq fun j=>tq (j+aq))).length):Int)==0) then (some (.inr (false,[]))) else (some (.inr (true,S.f0 ((S.val np fun j=>tp (j+ap))-S.val nq fun j=>tq (j+aq)))))) else none) else (bif (decide ((aq+nq≤mq∧ap+np≤mp)∧(nq≤1000∧np≤1000)∧(S.fW nq fun j=>tq (j+aq))=true∧(S.fW np fun j=>tp (j+ap))=true∧(S.val np fun j=>tp (j+ap))≤S.val nq fun j=>tq (j+aq))) then (bif ((↑((S.f0 ((S.val nq fun j=>tq (j+aq))-S.val np fun j=>tp (j+ap))).length):Int)==0) then (some (.inr (false,[]))) else (some (.inr (false,S.f0 ((S.val nq fun j=>tq (j+aq))-S.val np fun j=>tp (j+ap)))))) else none)) else none)) else (bif n2 then (bif (decide (ap+np≤mp∧np≤1000000∧aq+nq≤mq∧nq≤1000000∧(S.fW np fun j=>tp (j+ap))=true∧(S.fW nq fun j=>tq (j+aq))=true)) then (bif (decide (S.fv (S.val np fun j=>tp (j+ap)) (S.val nq fun j=>tq (j+aq))≥0)) then (bif (decide ((ap+np≤mp∧aq+nq≤mq)∧(np≤1000∧nq≤1000)∧(S.fW np fun j=>tp (j+ap))=true∧(S.fW nq fun j=>tq (j+aq))=true∧(S.val nq fun j=>tq (j+aq))≤S.val np fun j=>tp (j+ap))) then (bif ((↑((S.f0 ((S.val np fun j=>tp (j+ap))-S.val nq fun j=>tq (j+aq))).length):Int)==0) then (some (.inr (false,[]))) else (some (.inr (false,S.f0 ((S.val np fun j=>tp (j+ap))-S.val nq fun j=>tq (j+aq)))))) else none) else (bif (decide ((aq+nq≤mq∧ap+np≤mp)∧(nq≤1000∧np≤1000)∧(S.fW nq fun j=>tq (j+aq))=true∧(S.fW np fun j=>tp (j+ap))=true∧(S.val np fun j=>tp (j+ap))≤S.val nq fun j=>tq (j+aq))) then (bif ((↑((S.f0 ((S.val nq fun j=>tq (j+aq))-S.val np fun j=>tp (j+ap))).length):Int)==0) then (some (.inr (false,[]))) else (some (.inr (true,S.f0 ((S.val nq fun j=>tq (j+aq))-S.val np fun j=>tp (j+ap)))))) else none)) else none) else (bif (decide ((ap+np≤mp∧aq+nq≤mq)∧(np≤1000∧nq≤1000)∧(S.fW np fun j=>tp (j+ap))=true∧(S.fW nq fun j=>tq (j+aq))=true)) then (bif ((↑((S.f0 ((S.val np fun j=>tp (j+ap))+S.val nq fun j=>tq (j+aq))).length):Int)==0) then (some (.inr (false,[]))) else (some (.inr (false,S.f0 ((S.val np fun j=>tp (j+ap))+S.val nq fun j=>tq (j+aq)))))) else none))
noncomputable abbrev u48_e_0:=([[(1,false,Blk.cols mq [Col.int IntKind.i64 tq]),(0,false,Blk.cols mp [Col.int IntKind.i64 tp])]])
noncomputable abbrev u48_e_1:=([[(1,false,Blk.cols mq [Col.int IntKind.i64 tq]),(0,false,Blk.cols mp [Col.int IntKind.i64 tp]),(6,true,Blk.cols (S.f0 ((S.val np fun j=>tp (j+ap))+S.val nq fun j=>tq (j+aq))).length [Col.int IntKind.i64 fun j=>S.at' (S.f0 ((S.val np fun j=>tp (j+ap))+S.val nq fun j=>tq (j+aq))) j])]])
noncomputable abbrev u48_e_2:=([[(1,false,Blk.cols mq [Col.int IntKind.i64 tq]),(0,false,Blk.cols mp [Col.int IntKind.i64 tp]),(7,true,Blk.cols (S.f0 ((S.val np fun j=>tp (j+ap))-S.val nq fun j=>tq (j+aq))).length [Col.int IntKind.i64 fun j=>S.at' (S.f0 ((S.val np fun j=>tp (j+ap))-S.val nq fun j=>tq (j+aq))) j])]])
noncomputable abbrev u48_e_3:=([[(1,false,Blk.cols mq [Col.int IntKind.i64 tq]),(0,false,Blk.cols mp [Col.int IntKind.i64 tp]),(7,true,Blk.cols (S.f0 ((S.val nq fun j=>tq (j+aq))-S.val np fun j=>tp (j+ap))).length [Col.int IntKind.i64 fun j=>S.at' (S.f0 ((S.val nq fun j=>tq (j+aq))-S.val np fun j=>tp (j+ap))) j])]])
noncomputable abbrev u48_e_4:=decide ((ap+np≤mp∧aq+nq≤mq)∧(np≤1000∧nq≤1000)∧(S.fW np fun j=>tp (j+ap))=true∧(S.fW nq fun j=>tq (j+aq))=true∧(S.val nq fun j=>tq (j+aq))≤S.val np fun j=>tp (j+ap))
noncomputable abbrev u48_e_5:=decide ((aq+nq≤mq∧ap+np≤mp)∧(nq≤1000∧np≤1000)∧(S.fW nq fun j=>tq (j+aq))=true∧(S.fW np fun j=>tp (j+ap))=true∧(S.val np fun j=>tp (j+ap))≤S.val nq fun j=>tq (j+aq))
noncomputable abbrev u48_e_6:=(S.f0 ((S.val np fun j=>tp (j+ap))+S.val nq fun j=>tq (j+aq))).length
noncomputable abbrev u48_e_7:=(S.f0 ((S.val np fun j=>tp (j+ap))-S.val nq fun j=>tq (j+aq))).length
noncomputable abbrev u48_e_8:=(S.f0 ((S.val nq fun j=>tq (j+aq))-S.val np fun j=>tp (j+ap))).length
noncomputable abbrev u48_e_9:=decide ((ap+np≤mp∧aq+nq≤mq)∧(np≤1000∧nq≤1000)∧(S.fW np fun j=>tp (j+ap))=true∧(S.fW nq fun j=>tq (j+aq))=true)
def Te48:Prop:=fR n1 (fR n2 (fR n1 (fR (u48_e_9 ap np mp tp aq nq mq tq) (fR ((↑(u48_e_6 ap np tp aq nq tq):Int)==0) (fT (.agg [.tf false,.nils]) (u48_e_0 mp tp mq tq) 8) (fT (.agg [.tf true,.own 6 1 (u48_e_6 ap np tp aq nq tq)]) (u48_e_1 ap np mp tp aq nq mq tq) 8)) False) (fR (u48_e_9 ap np mp tp aq nq mq tq) (fR ((↑(u48_e_6 ap np tp aq nq tq):Int)==0) (fT (.agg [.tf false,.nils]) (u48_e_0 mp tp mq tq) 8) (fT (.agg [.tf false,.own 6 1 (u48_e_6 ap np tp aq nq tq)]) (u48_e_1 ap np mp tp aq nq mq tq) 8)) False)) (fR (decide (ap+np≤mp∧np≤1000000∧aq+nq≤mq∧nq≤1000000∧(S.fW np (FS tp ap))=true∧(S.fW nq (FS tq aq))=true)) (fR (decide (S.fv (S.val np (FS tp ap)) (S.val nq (FS tq aq))≥0)) (fR n1 (fR (u48_e_4 ap np mp tp aq nq mq tq) (fR ((↑(u48_e_7 ap np tp aq nq tq):Int)==0) (fT (.agg [.tf false,.nils]) (u48_e_0 mp tp mq tq) 9) (fT (.agg [.tf true,.own 7 1 (u48_e_7 ap np tp aq nq tq)]) (u48_e_2 ap np mp tp aq nq mq tq) 9)) False) (fR (u48_e_4 ap np mp tp aq nq mq tq) (fR ((↑(u48_e_7 ap np tp aq nq tq):Int)==0) (fT (.agg [.tf false,.nils]) (u48_e_0 mp tp mq tq) 9) (fT (.agg [.tf false,.own 7 1 (u48_e_7 ap np tp aq nq tq)]) (u48_e_2 ap np mp tp aq nq mq tq) 9)) False)) (fR n2 (fR (u48_e_5 ap np mp tp aq nq mq tq) (fR ((↑(u48_e_8 ap np tp aq nq tq):Int)==0) (fT (.agg [.tf false,.nils]) (u48_e_0 mp tp mq tq) 9) (fT (.agg [.tf true,.own 7 1 (u48_e_8 ap np tp aq nq tq)]) (u48_e_3 ap np mp tp aq nq mq tq) 9)) False) (fR (u48_e_5 ap np mp tp aq nq mq tq) (fR ((↑(u48_e_8 ap np tp aq nq tq):Int)==0) (fT (.agg [.tf false,.nils]) (u48_e_0 mp tp mq tq) 9) (fT (.agg [.tf false,.own 7 1 (u48_e_8 ap np tp aq nq tq)]) (u48_e_3 ap np mp tp aq nq mq tq) 9)) False))) False)) (fR n2 (fR (decide (ap+np≤mp∧np≤1000000∧aq+nq≤mq∧nq≤1000000∧(S.fW np (FS tp ap))=true∧(S.fW nq (FS tq aq))=true)) (fR (decide (S.fv (S.val np (FS tp ap)) (S.val nq (FS tq aq))≥0)) (fR n1 (fR (u48_e_4 ap np mp tp aq nq mq tq) (fR ((↑(u48_e_7 ap np tp aq nq tq):Int)==0) (fT (.agg [.tf false,.nils]) (u48_e_0 mp tp mq tq) 9) (fT (.agg [.tf true,.own 7 1 (u48_e_7 ap np tp aq nq tq)]) (u48_e_2 ap np mp tp aq nq mq tq) 9)) False) (fR (u48_e_4 ap np mp tp aq nq mq tq) (fR ((↑(u48_e_7 ap np tp aq nq tq):Int)==0) (fT (.agg [.tf false,.nils]) (u48_e_0 mp tp mq tq) 9) (fT (.agg [.tf false,.own 7 1 (u48_e_7 ap np tp aq nq tq)]) (u48_e_2 ap np mp tp aq nq mq tq) 9)) False)) (fR n2 (fR (u48_e_5 ap np mp tp aq nq mq tq) (fR ((↑(u48_e_8 ap np tp aq nq tq):Int)==0) (fT (.agg [.tf false,.nils]) (u48_e_0 mp tp mq tq) 9) (fT (.agg [.tf true,.own 7 1 (u48_e_8 ap np tp aq nq tq)]) (u48_e_3 ap np mp tp aq nq mq tq) 9)) False) (fR (u48_e_5 ap np mp tp aq nq mq tq) (fR ((↑(u48_e_8 ap np tp aq nq tq):Int)==0) (fT (.agg [.tf false,.nils]) (u48_e_0 mp tp mq tq) 9) (fT (.agg [.tf false,.own 7 1 (u48_e_8 ap np tp aq nq tq)]) (u48_e_3 ap np mp tp aq nq mq tq) 9)) False))) False) (fR n1 (fR (u48_e_9 ap np mp tp aq nq mq tq) (fR ((↑(u48_e_6 ap np tp aq nq tq):Int)==0) (fT (.agg [.tf false,.nils]) (u48_e_0 mp tp mq tq) 8) (fT (.agg [.tf true,.own 6 1 (u48_e_6 ap np tp aq nq tq)]) (u48_e_1 ap np mp tp aq nq mq tq) 8)) False) (fR (u48_e_9 ap np mp tp aq nq mq tq) (fR ((↑(u48_e_6 ap np tp aq nq tq):Int)==0) (fT (.agg [.tf false,.nils]) (u48_e_0 mp tp mq tq) 8) (fT (.agg [.tf false,.own 6 1 (u48_e_6 ap np tp aq nq tq)]) (u48_e_1 ap np mp tp aq nq mq tq) 8)) False)))
theorem te48:run fR Tryz.env true (xC fR) true 400 ⟨155,[.cd (zU Tryz.f155).body],z8 0 [.agg [.bool n1,.loose ⟨0,1,ap,0⟩ np],.agg [.bool n2,.loose ⟨1,1,aq,0⟩ nq]],[[],[(0,(false,CB mp tp)),(1,(false,CB mq tq))]],2⟩ (zr 2 [] fS fT)=
 Te48 fR fT n1 ap np mp tp n2 aq nq mq tq:=by kernel_rfl
noncomputable abbrev J48:Rt48→zS:=fun r=> [yC (2+1) ((N48) r)++ [(0,(false,CB mp tp)),(1,(false,CB mq tq))]]
attribute [local irreducible] Int.subNatNat in
theorem a48 {r:Rt48} (h:zY ((q48 n1 ap np mp tp n2 aq nq mq tq)) ((p48 n1 ap np mp tp n2 aq nq mq tq)) r):zn Tryz.prog 155 [.agg [.bool n1,.loose ⟨0,1,ap,0⟩ np],.agg [.bool n2,.loose ⟨1,1,aq,0⟩ nq]] [[(0,(false,CB mp tp)),(1,(false,CB mq tq))]] 2 ((V48) r) ((J48 mp tp mq tq) r) 400∧HB Tryz.prog 155:=by
 refine zf Tryz.envOk Tryz.mixed iA ((I48)) ((V48)) (J48 mp tp mq tq) (fn:=zU Tryz.f155) (ts:= []) (n:=400) rfl (by decide) (by simp) (zW rfl) ?_ ?_ ?_ h
 · intro s; exact s.elim
 · intro fS fT x hS hR h
   refine Holds.eq (te48 cond fS fT n1 ap np mp tp n2 aq nq mq tq) ?_
   unfold Te48
   unfold p48 at h
   refine zA h (fun c0 h=>zA h (fun c1 h=>zJ c0 (zA h (fun c2 h=>zA h (fun c3 h=> ?_) (fun c3 h=> ?_)) (fun c2 h=> ?_))) (fun c1 h=>zA h (fun c2 h=>zA h (fun c3 h=>zJ c0 (zA h (fun c4 h=>zA h (fun c5 h=> ?_) (fun c5 h=> ?_)) (fun c4 h=> ?_))) (fun c3 h=>zd c1 (zA h (fun c4 h=>zA h (fun c5 h=> ?_) (fun c5 h=> ?_)) (fun c4 h=> ?_)))) (fun c2 h=> ?_))) (fun c0 h=>zA h (fun c1 h=>zA h (fun c2 h=>zA h (fun c3 h=>zd c0 (zA h (fun c4 h=>zA h (fun c5 h=> ?_) (fun c5 h=> ?_)) (fun c4 h=> ?_))) (fun c3 h=>zJ c1 (zA h (fun c4 h=>zA h (fun c5 h=> ?_) (fun c5 h=> ?_)) (fun c4 h=> ?_)))) (fun c2 h=> ?_)) (fun c1 h=>zd c0 (zA h (fun c2 h=>zA h (fun c3 h=> ?_) (fun c3 h=> ?_)) (fun c2 h=> ?_))))
   all_goals first
     |exact zF h
     |exact zV hR _ h (fun n=>bif Nat.beq n 3 then 399 else n) rfl rfl rfl (zc ⟨(zR rfl),(zO rfl),trivial⟩) rfl (zT (zD rfl) (za rfl) (zB (zC rfl) rfl rfl (zB (zC rfl) rfl rfl zE)))
     |exact zV hR _ h (fun n=>bif Nat.beq n 3 then 7 else n) rfl rfl rfl (zc ⟨(zR rfl),(zX (zD rfl) rfl rfl),trivial⟩) rfl (zL (zD rfl) rfl (Nat.le_of_eq rfl) (zN (fun _ _=>rfl) zM) (zB (zC rfl) rfl rfl (zB (zC rfl) rfl rfl zE)))
     |exact zV hR _ h (fun n=>bif Nat.beq n 3 then 6 else n) rfl rfl rfl (zc ⟨(zR rfl),(zX (zD rfl) rfl rfl),trivial⟩) rfl (zL (zD rfl) rfl (Nat.le_of_eq rfl) (zN (fun _ _=>rfl) zM) (zB (zC rfl) rfl rfl (zB (zC rfl) rfl rfl zE)))
 · intro fS fT x hS hR s h; exact s.elim
end
noncomputable abbrev w48 {α:Type} (g:Bool→Nat→Nat→Nat→(Nat→Int)→Bool→Nat→Nat→Nat→(Nat→Int)→α) (x:(Bool×(Nat×Nat×Nat×(Nat→Int)×Unit)×Unit)×(Bool×(Nat×Nat×Nat×(Nat→Int)×Unit)×Unit)×Unit):α:=g x.1.1 x.1.2.1.1 x.1.2.1.2.1 x.1.2.1.2.2.1 x.1.2.1.2.2.2.1 x.2.1.1 x.2.1.2.1.1 x.2.1.2.1.2.1 x.2.1.2.1.2.2.1 x.2.1.2.1.2.2.2.1
noncomputable def k48:Con:=⟨155,[.agg [.plain (.bool),.list [.int .i64]],.agg [.plain (.bool),.list [.int .i64]]],w48 (fun n1 ap np mp tp n2 aq nq mq tq=>decide ((ap+np≤mp∧aq+nq≤mq)∧(np≤1000∧nq≤1000)∧S.fW np (FS tp ap)=true∧S.fW nq (FS tq aq)=true)),w48 (fun n1 ap np mp tp n2 aq nq mq tq=>(V48) (S.fi (S.sv n1 (S.val np (FS tp ap))+S.sv n2 (S.val nq (FS tq aq))))),w48 (fun n1 ap np mp tp n2 aq nq mq tq=>(N48) (S.fi (S.sv n1 (S.val np (FS tp ap))+S.sv n2 (S.val nq (FS tq aq))))),fun _ _=> .dead⟩
theorem s48 (n1:Bool) (ap np mp:Nat) (tp:Nat→Int) (n2:Bool) (aq nq mq:Nat) (tq:Nat→Int) (hp:(ap+np≤mp∧aq+nq≤mq)∧(np≤1000∧nq≤1000)∧S.fW np (fun j=>tp (j+ap))=true∧S.fW nq (fun j=>tq (j+aq))=true):zY ((q48 n1 ap np mp tp n2 aq nq mq tq)) ((p48 n1 ap np mp tp n2 aq nq mq tq)) ((S.fi (S.sv n1 (S.val np (fun j=>tp (j+ap)))+S.sv n2 (S.val nq (fun j=>tq (j+aq))))).1,(S.fi (S.sv n1 (S.val np (fun j=>tp (j+ap)))+S.sv n2 (S.val nq (fun j=>tq (j+aq))))).2):=by
 have hp':=hp
 obtain ⟨⟨hp1,hp2⟩,⟨hp3,hp4⟩,g1,g2⟩:=hp
 have v1:=yM (zi g1)
 have v2:=yM (zi g2)
 have lz:= @yq
 have hC:S.fv (S.val np (fun j=>tp (j+ap))) (S.val nq (fun j=>tq (j+aq)))≥0↔(S.val nq (fun j=>tq (j+aq)))≤(S.val np (fun j=>tp (j+ap))):=by
  unfold S.fv
  (repeat' split)<;>omega
 have c1:(ap+np≤mp∧np≤1000000∧aq+nq≤mq∧nq≤1000000∧S.fW np (fun j=>tp (j+ap))=true∧S.fW nq (fun j=>tq (j+aq))=true):=⟨hp1,by omega,hp2,by omega,g1,g2⟩
 have cd: ∀ v:Int,0≤v→(S.fX (S.f0 v).length fun j=>S.at' (S.f0 v) j)=true:=fun v _=>zi yE
 have cl: ∀ v:Int,v≤(S.val np (fun j=>tp (j+ap)))+(S.val nq (fun j=>tq (j+aq)))→(S.f0 v).length≤1000000:=fun v hv=>by
  have h:=zw (v:=v) (n:=1001) (by have q1:=z5 (zi g1) (show np≤1000 by omega); have q2:=z5 (zi g2) (show nq≤1000 by omega); have e:S.pw 1001=1000000*S.pw 1000:=rfl; omega)
  omega
 unfold p48
 have e0: ∀ v:Int,0≤v→((((S.f0 v).length:Nat):Int)==0)=decide (v=0):=fun v hv=>by
  rw [Bool.eq_iff_iff,beq_iff_eq,decide_eq_true_eq]
  have:=yq (v:=v)
  omega
 have same: ∀ v:Int,∀ neg:Bool,0≤v→zY (q48 n1 ap np mp tp n2 aq nq mq tq) (bif (((S.f0 v).length:Nat):Int)==0 then some (.inr (false,[])) else some (.inr (neg,S.f0 v))) ((S.fi (S.sv neg v)).1,(S.fi (S.sv neg v)).2):=fun v neg hv=>by
  rw [e0 v hv,s8 hv]
  rcases Int.lt_or_eq_of_le hv with h|h
  · rw [decide_eq_false (by omega),decide_eq_true h,Bool.and_true]
    exact zG.mpr rfl
  · rw [← h,decide_eq_true rfl,decide_eq_false (by omega),Bool.and_false,yQ]
    exact zG.mpr rfl
 cases n1
 · cases n2
   · rw [tx]
     have s:=same ((S.val np (fun j=>tp (j+ap)))+(S.val nq (fun j=>tq (j+aq)))) false (by omega)
     simp only [cond_true,cond_false,decide_eq_true hp',Bool.false_eq_true]
     exact s
   · have e:S.sv false (S.val np (fun j=>tp (j+ap)))+S.sv true (S.val nq (fun j=>tq (j+aq)))=S.sv false ((S.val np (fun j=>tp (j+ap)))-(S.val nq (fun j=>tq (j+aq)))):=wS
     have e':S.sv false (S.val np (fun j=>tp (j+ap)))+S.sv true (S.val nq (fun j=>tq (j+aq)))=S.sv true ((S.val nq (fun j=>tq (j+aq)))-(S.val np (fun j=>tp (j+ap)))):=by rw [Int.add_comm]; exact wS
     simp only [cond_true,cond_false,decide_eq_true c1]
     by_cases hc:(S.val nq (fun j=>tq (j+aq)))≤(S.val np (fun j=>tp (j+ap)))
     · rw [decide_eq_true (hC.mpr hc),e]
       simp only [cond_true,decide_eq_true (⟨⟨hp1,hp2⟩,⟨hp3,hp4⟩,g1,g2,hc⟩:(ap+np≤mp∧aq+nq≤mq)∧(np≤1000∧nq≤1000)∧S.fW np (fun j=>tp (j+ap))=true∧S.fW nq (fun j=>tq (j+aq))=true∧(S.val nq (fun j=>tq (j+aq)))≤(S.val np (fun j=>tp (j+ap))))]
       exact same _ false (by omega)
     · rw [decide_eq_false (fun h=>hc (hC.mp h)),e']
       simp only [cond_false,cond_true,decide_eq_true (⟨⟨hp2,hp1⟩,⟨hp4,hp3⟩,g2,g1,by omega⟩:(aq+nq≤mq∧ap+np≤mp)∧(nq≤1000∧np≤1000)∧S.fW nq (fun j=>tq (j+aq))=true∧S.fW np (fun j=>tp (j+ap))=true∧(S.val np (fun j=>tp (j+ap)))≤(S.val nq (fun j=>tq (j+aq))))]
       exact same _ true (by omega)
 · cases n2
   · have e:S.sv true (S.val np (fun j=>tp (j+ap)))+S.sv false (S.val nq (fun j=>tq (j+aq)))=S.sv true ((S.val np (fun j=>tp (j+ap)))-(S.val nq (fun j=>tq (j+aq)))):=wS
     have e':S.sv true (S.val np (fun j=>tp (j+ap)))+S.sv false (S.val nq (fun j=>tq (j+aq)))=S.sv false ((S.val nq (fun j=>tq (j+aq)))-(S.val np (fun j=>tp (j+ap)))):=by rw [Int.add_comm]; exact wS
     simp only [cond_true,cond_false,decide_eq_true c1]
     by_cases hc:(S.val nq (fun j=>tq (j+aq)))≤(S.val np (fun j=>tp (j+ap)))
     · rw [decide_eq_true (hC.mpr hc),e]
       simp only [cond_true,decide_eq_true (⟨⟨hp1,hp2⟩,⟨hp3,hp4⟩,g1,g2,hc⟩:(ap+np≤mp∧aq+nq≤mq)∧(np≤1000∧nq≤1000)∧S.fW np (fun j=>tp (j+ap))=true∧S.fW nq (fun j=>tq (j+aq))=true∧(S.val nq (fun j=>tq (j+aq)))≤(S.val np (fun j=>tp (j+ap))))]
       exact same _ true (by omega)
     · rw [decide_eq_false (fun h=>hc (hC.mp h)),e']
       simp only [cond_false,cond_true,decide_eq_true (⟨⟨hp2,hp1⟩,⟨hp4,hp3⟩,g2,g1,by omega⟩:(aq+nq≤mq∧ap+np≤mp)∧(nq≤1000∧np≤1000)∧S.fW nq (fun j=>tq (j+aq))=true∧S.fW np (fun j=>tp (j+ap))=true∧(S.val np (fun j=>tp (j+ap)))≤(S.val nq (fun j=>tq (j+aq))))]
       exact same _ false (by omega)
   · rw [tx]
     have s:=same ((S.val np (fun j=>tp (j+ap)))+(S.val nq (fun j=>tq (j+aq)))) true (by omega)
     simp only [cond_true,cond_false,decide_eq_true hp',Bool.false_eq_true]
     exact s
theorem k48_ok:k48.ok Tryz.prog:=by
 intro x hx
 obtain ⟨⟨n1,⟨ap,np,mp,tp,_⟩,_⟩,⟨n2,⟨aq,nq,mq,tq,_⟩,_⟩,_⟩:=x
 obtain ⟨h1,h2⟩:=a48 n1 ap np mp tp n2 aq nq mq tq (s48 n1 ap np mp tp n2 aq nq mq tq (zm hx rfl))
 exact ⟨⟨400,(by decide:2+1+1≤400),h1⟩,h2⟩
section
variable (fR:TT) (fS:KS) (fT:KR) (n1:Bool) (ap np mp:Nat) (tp:NI) (n2:Bool) (aq nq mq:Nat) (tq:NI)
abbrev St50:=Empty
abbrev Rt50:=Bool×List Int
noncomputable def V50 (r:Rt50):PV:= .agg [.bool r.1,.own 3 1 r.2.length]
noncomputable def N50 (r:Rt50):List Blk:= [CI r.2]
noncomputable def I50:St50→Hd:=fun s=>s.elim
noncomputable def q50 (n1:Bool) (ap np mp:Nat) (tp:NI) (n2:Bool) (aq nq mq:Nat) (tq:NI):St50→Option (St50⊕Rt50):=fun s=>s.elim
noncomputable def p50 (n1:Bool) (ap np mp:Nat) (tp:NI) (n2:Bool) (aq nq mq:Nat) (tq:NI):Option (St50⊕Rt50):=bif n1 then (bif n2 then (bif (decide ((ap+np≤mp∧aq+nq≤mq)∧(np≤1000∧nq≤1000)∧(S.fW np fun j=>tp (j+ap))=true∧(S.fW nq fun j=>tq (j+aq))=true)) then (bif (decide (0+Prod.fst (S.eY ((S.val np fun j=>tp (j+ap))+S.val nq fun j=>tq (j+aq)))≤(Prod.snd (S.eY ((S.val np fun j=>tp (j+ap))+S.val nq fun j=>tq (j+aq)))).length∧Prod.fst (S.eY ((S.val np fun j=>tp (j+ap))+S.val nq fun j=>tq (j+aq)))≤1000000∧(S.fX (Prod.fst (S.eY ((S.val np fun j=>tp (j+ap))+S.val nq fun j=>tq (j+aq)))) fun j=>S.at' (Prod.snd (S.eY ((S.val np fun j=>tp (j+ap))+S.val nq fun j=>tq (j+aq)))) j)=true)) then (some (.inr (S.fy true (S.val (Prod.fst (S.eY ((S.val np fun j=>tp (j+ap))+S.val nq fun j=>tq (j+aq)))) fun j=>S.at' (Prod.snd (S.eY ((S.val np fun j=>tp (j+ap))+S.val nq fun j=>tq (j+aq)))) j),S.f0 (S.val (Prod.fst (S.eY ((S.val np fun j=>tp (j+ap))+S.val nq fun j=>tq (j+aq)))) fun j=>S.at' (Prod.snd (S.eY ((S.val np fun j=>tp (j+ap))+S.val nq fun j=>tq (j+aq)))) j)))) else none) else none) else (bif (decide (ap+np≤mp∧np≤1000000∧aq+nq≤mq∧nq≤1000000∧(S.fW np fun j=>tp (j+ap))=true∧(S.fW nq fun j=>tq (j+aq))=true)) then (bif (decide (S.fv (S.val np fun j=>tp (j+ap)) (S.val nq fun j=>tq (j+aq))≥0)) then (bif (decide ((ap+np≤mp∧aq+nq≤mq)∧(np≤1000∧nq≤1000)∧(S.fW np fun j=>tp (j+ap))=true∧(S.fW nq fun j=>tq (j+aq))=true∧(S.val nq fun j=>tq (j+aq))≤S.val np fun j=>tp (j+ap))) then (bif (decide (0+(S.f0 ((S.val np fun j=>tp (j+ap))-S.val nq fun j=>tq (j+aq))).length≤(S.f0 ((S.val np fun j=>tp (j+ap))-S.val nq fun j=>tq (j+aq))).length∧(S.f0 ((S.val np fun j=>tp (j+ap))-S.val nq fun j=>tq (j+aq))).length≤1000000∧(S.fX (S.f0 ((S.val np fun j=>tp (j+ap))-S.val nq fun j=>tq (j+aq))).length fun j=>S.at' (S.f0 ((S.val np fun j=>tp (j+ap))-S.val nq fun j=>tq (j+aq))) j)=true)) then (some (.inr (S.fy true (S.val (S.f0 ((S.val np fun j=>tp (j+ap))-S.val nq fun j=>tq (j+aq))).length fun j=>S.at' (S.f0 ((S.val np fun j=>tp (j+ap))-S.val nq fun j=>tq (j+aq))) j),S.f0 (S.val (S.f0 ((S.val np fun j=>tp (j+ap))-S.val nq fun j=>tq (j+aq))).length fun j=>S.at' (S.f0 ((S.val np fun j=>tp (j+ap))-S.val nq fun j=>tq (j+aq))) j)))) else none) else none) else (bif (decide ((aq+nq≤mq∧ap+np≤mp)∧(nq≤1000∧np≤1000)∧(S.fW nq fun j=>tq (j+aq))=true∧(S.fW np fun j=>tp (j+ap))=true∧(S.val np fun j=>tp (j+ap))≤S.val nq fun j=>tq (j+aq))) then (bif (decide (0+(S.f0 ((S.val nq fun j=>tq (j+aq))-S.val np fun j=>tp (j+ap))).length≤(S.f0 ((S.val nq fun j=>tq (j+aq))-S.val np fun j=>tp (j+ap))).length∧(S.f0 ((S.val nq fun j=>tq (j+aq))-S.val np fun j=>tp (j+ap))).length≤1000000∧(S.fX (S.f0 ((S.val nq fun j=>tq (j+aq))-S.val np fun j=>tp (j+ap))).length fun j=>S.at' (S.f0 ((S.val nq fun j=>tq (j+aq))-S.val np fun j=>tp (j+ap))) j)=true)) then (some (.inr (S.fy false (S.val (S.f0 ((S.val nq fun j=>tq (j+aq))-S.val np fun j=>tp (j+ap))).length fun j=>S.at' (S.f0 ((S.val nq fun j=>tq (j+aq))-S.val np fun j=>tp (j+ap))) j),S.f0 (S.val (S.f0 ((S.val nq fun j=>tq (j+aq))-S.val np fun j=>tp (j+ap))).length fun j=>S.at' (S.f0 ((S.val nq fun j=>tq (j+aq))-S.val np fun j=>tp (j+ap))) j)))) else none) else none)) else none)) else (bif n2 then (bif (decide (ap+np≤mp∧np≤1000000∧aq+nq≤mq∧nq≤1000000∧(S.fW np fun j=>tp (j+ap))=true∧(S.fW nq fun j=>tq (j+aq))=true)) then (bif (decide (S.fv (S.val np fun j=>tp (j+ap)) (S.val nq fun j=>tq (j+aq))≥0)) then (bif (decide ((ap+np≤mp∧aq+nq≤mq)∧(np≤1000∧nq≤1000)∧(S.fW np fun j=>tp (j+ap))=true∧(S.fW nq fun j=>tq (j+aq))=true∧(S.val nq fun j=>tq (j+aq))≤S.val np fun j=>tp (j+ap))) then (bif (decide (0+(S.f0 ((S.val np fun j=>tp (j+ap))-S.val nq fun j=>tq (j+aq))).length≤(S.f0 ((S.val np fun j=>tp (j+ap))-S.val nq fun j=>tq (j+aq))).length∧(S.f0 ((S.val np fun j=>tp (j+ap))-S.val nq fun j=>tq (j+aq))).length≤1000000∧(S.fX (S.f0 ((S.val np fun j=>tp (j+ap))-S.val nq fun j=>tq (j+aq))).length fun j=>S.at' (S.f0 ((S.val np fun j=>tp (j+ap))-S.val nq fun j=>tq (j+aq))) j)=true)) then (some (.inr (S.fy false (S.val (S.f0 ((S.val np fun j=>tp (j+ap))-S.val nq fun j=>tq (j+aq))).length fun j=>S.at' (S.f0 ((S.val np fun j=>tp (j+ap))-S.val nq fun j=>tq (j+aq))) j),S.f0 (S.val (S.f0 ((S.val np fun j=>tp (j+ap))-S.val nq fun j=>tq (j+aq))).length fun j=>S.at' (S.f0 ((S.val np fun j=>tp (j+ap))-S.val nq fun j=>tq (j+aq))) j)))) else none) else none) else (bif (decide ((aq+nq≤mq∧ap+np≤mp)∧(nq≤1000∧np≤1000)∧(S.fW nq fun j=>tq (j+aq))=true∧(S.fW np fun j=>tp (j+ap))=true∧(S.val np fun j=>tp (j+ap))≤S.val nq fun j=>tq (j+aq))) then (bif (decide (0+(S.f0 ((S.val nq fun j=>tq (j+aq))-S.val np fun j=>tp (j+ap))).length≤(S.f0 ((S.val nq fun j=>tq (j+aq))-S.val np fun j=>tp (j+ap))).length∧(S.f0 ((S.val nq fun j=>tq (j+aq))-S.val np fun j=>tp (j+ap))).length≤1000000∧(S.fX (S.f0 ((S.val nq fun j=>tq (j+aq))-S.val np fun j=>tp (j+ap))).length fun j=>S.at' (S.f0 ((S.val nq fun j=>tq (j+aq))-S.val np fun j=>tp (j+ap))) j)=true)) then (some (.inr (S.fy true (S.val (S.f0 ((S.val nq fun j=>tq (j+aq))-S.val np fun j=>tp (j+ap))).length fun j=>S.at' (S.f0 ((S.val nq fun j=>tq (j+aq))-S.val np fun j=>tp (j+ap))) j),S.f0 (S.val (S.f0 ((S.val nq fun j=>tq (j+aq))-S.val np fun j=>tp (j+ap))).length fun j=>S.at' (S.f0 ((S.val nq fun j=>tq (j+aq))-S.val np fun j=>tp (j+ap))) j)))) else none) else none)) else none) else (bif (decide ((ap+np≤mp∧aq+nq≤mq)∧(np≤1000∧nq≤1000)∧(S.fW np fun j=>tp (j+ap))=true∧(S.fW nq fun j=>tq (j+aq))=true)) then (bif (decide (0+Prod.fst (S.eY ((S.val np fun j=>tp (j+ap))+S.val nq fun j=>tq (j+aq)))≤(Prod.snd (S.eY ((S.val np fun j=>tp (j+ap))+S.val nq fun j=>tq (j+aq)))).length∧Prod.fst (S.eY ((S.val np fun j=>tp (j+ap))+S.val nq fun j=>tq (j+aq)))≤1000000∧(S.fX (Prod.fst (S.eY ((S.val np fun j=>tp (j+ap))+S.val nq fun j=>tq (j+aq)))) fun j=>S.at' (Prod.snd (S.eY ((S.val np fun j=>tp (j+ap))+S.val nq fun j=>tq (j+aq)))) j)=true)) then (some (.inr (S.fy false (S.val (Prod.fst (S.eY ((S.val np fun j=>tp (j+ap))+S.val nq fun j=>tq (j+aq)))) fun j=>S.at' (Prod.snd (S.eY ((S.val np fun j=>tp (j+ap))+S.val nq fun j=>tq (j+aq)))) j),S.f0 (S.val (Prod.fst (S.eY ((S.val np fun j=>tp (j+ap))+S.val nq fun j=>tq (j+aq)))) fun j=>S.at' (Prod.snd (S.eY ((S.val np fun j=>tp (j+ap))+S.val nq fun j=>tq (j+aq)))) j)))) else none) else none))
noncomputable abbrev u50_e_0:=S.val (S.f0 ((S.val np fun j=>tp (j+ap))-S.val nq fun j=>tq (j+aq))).length fun j=>S.at' (S.f0 ((S.val np fun j=>tp (j+ap))-S.val nq fun j=>tq (j+aq))) j
noncomputable abbrev u50_e_1:=S.val (S.f0 ((S.val nq fun j=>tq (j+aq))-S.val np fun j=>tp (j+ap))).length fun j=>S.at' (S.f0 ((S.val nq fun j=>tq (j+aq))-S.val np fun j=>tp (j+ap))) j
noncomputable abbrev u50_e_2:=S.eY ((S.val np fun j=>tp (j+ap))+S.val nq fun j=>tq (j+aq))
noncomputable abbrev u50_e_3:=decide (0+(S.f0 ((S.val np fun j=>tp (j+ap))-S.val nq fun j=>tq (j+aq))).length≤(S.f0 ((S.val np fun j=>tp (j+ap))-S.val nq fun j=>tq (j+aq))).length∧(S.f0 ((S.val np fun j=>tp (j+ap))-S.val nq fun j=>tq (j+aq))).length≤1000000∧(S.fX (S.f0 ((S.val np fun j=>tp (j+ap))-S.val nq fun j=>tq (j+aq))).length fun j=>S.at' (S.f0 ((S.val np fun j=>tp (j+ap))-S.val nq fun j=>tq (j+aq))) j)=true)
noncomputable abbrev u50_e_4:=decide (0+(S.f0 ((S.val nq fun j=>tq (j+aq))-S.val np fun j=>tp (j+ap))).length≤(S.f0 ((S.val nq fun j=>tq (j+aq))-S.val np fun j=>tp (j+ap))).length∧(S.f0 ((S.val nq fun j=>tq (j+aq))-S.val np fun j=>tp (j+ap))).length≤1000000∧(S.fX (S.f0 ((S.val nq fun j=>tq (j+aq))-S.val np fun j=>tp (j+ap))).length fun j=>S.at' (S.f0 ((S.val nq fun j=>tq (j+aq))-S.val np fun j=>tp (j+ap))) j)=true)
noncomputable abbrev u50_e_5:=([[(1,false,Blk.cols mq [Col.int IntKind.i64 tq]),(0,false,Blk.cols mp [Col.int IntKind.i64 tp]),(8,true,Blk.cols (S.f0 (S.val (u50_e_2 ap np tp aq nq tq).1 fun j=>S.at' (u50_e_2 ap np tp aq nq tq).2 j)).length [Col.int IntKind.i64 fun j=>S.at' (S.f0 (S.val (u50_e_2 ap np tp aq nq tq).1 fun j=>S.at' (u50_e_2 ap np tp aq nq tq).2 j)) j])]])
noncomputable abbrev u50_e_6:=([[(1,false,Blk.cols mq [Col.int IntKind.i64 tq]),(0,false,Blk.cols mp [Col.int IntKind.i64 tp]),(9,true,Blk.cols (S.f0 (u50_e_0 ap np tp aq nq tq)).length [Col.int IntKind.i64 fun j=>S.at' (S.f0 (u50_e_0 ap np tp aq nq tq)) j])]])
noncomputable abbrev u50_e_7:=([[(1,false,Blk.cols mq [Col.int IntKind.i64 tq]),(0,false,Blk.cols mp [Col.int IntKind.i64 tp]),(9,true,Blk.cols (S.f0 (u50_e_1 ap np tp aq nq tq)).length [Col.int IntKind.i64 fun j=>S.at' (S.f0 (u50_e_1 ap np tp aq nq tq)) j])]])
noncomputable abbrev u50_e_8:=decide (0+(u50_e_2 ap np tp aq nq tq).1≤(u50_e_2 ap np tp aq nq tq).2.length∧(u50_e_2 ap np tp aq nq tq).1≤1000000∧(S.fX (u50_e_2 ap np tp aq nq tq).1 fun j=>S.at' (u50_e_2 ap np tp aq nq tq).2 j)=true)
noncomputable abbrev u50_e_9:=decide ((ap+np≤mp∧aq+nq≤mq)∧(np≤1000∧nq≤1000)∧(S.fW np fun j=>tp (j+ap))=true∧(S.fW nq fun j=>tq (j+aq))=true∧(S.val nq fun j=>tq (j+aq))≤S.val np fun j=>tp (j+ap))
noncomputable abbrev u50_e_10:=decide ((aq+nq≤mq∧ap+np≤mp)∧(nq≤1000∧np≤1000)∧(S.fW nq fun j=>tq (j+aq))=true∧(S.fW np fun j=>tp (j+ap))=true∧(S.val np fun j=>tp (j+ap))≤S.val nq fun j=>tq (j+aq))
noncomputable abbrev u50_e_11:=S.val (u50_e_2 ap np tp aq nq tq).1 fun j=>S.at' (u50_e_2 ap np tp aq nq tq).2 j
noncomputable abbrev u50_e_12:=decide ((ap+np≤mp∧aq+nq≤mq)∧(np≤1000∧nq≤1000)∧(S.fW np fun j=>tp (j+ap))=true∧(S.fW nq fun j=>tq (j+aq))=true)
def Te50:Prop:=fR n1 (fR n2 (fR n1 (fR (u50_e_12 ap np mp tp aq nq mq tq) (fR (u50_e_8 ap np tp aq nq tq) (fT (.agg [.bool (S.fy true (u50_e_11 ap np tp aq nq tq)),.own 8 1 (S.f0 (u50_e_11 ap np tp aq nq tq)).length]) (u50_e_5 ap np mp tp aq nq mq tq) 9) False) False) (fR (u50_e_12 ap np mp tp aq nq mq tq) (fR (u50_e_8 ap np tp aq nq tq) (fT (.agg [.bool (S.fy false (u50_e_11 ap np tp aq nq tq)),.own 8 1 (S.f0 (u50_e_11 ap np tp aq nq tq)).length]) (u50_e_5 ap np mp tp aq nq mq tq) 9) False) False)) (fR (decide (ap+np≤mp∧np≤1000000∧aq+nq≤mq∧nq≤1000000∧(S.fW np (FS tp ap))=true∧(S.fW nq (FS tq aq))=true)) (fR (decide (S.fv (S.val np (FS tp ap)) (S.val nq (FS tq aq))≥0)) (fR n1 (fR (u50_e_9 ap np mp tp aq nq mq tq) (fR (u50_e_3 ap np tp aq nq tq) (fT (.agg [.bool (S.fy true (u50_e_0 ap np tp aq nq tq)),.own 9 1 (S.f0 (u50_e_0 ap np tp aq nq tq)).length]) (u50_e_6 ap np mp tp aq nq mq tq) 10) False) False) (fR (u50_e_9 ap np mp tp aq nq mq tq) (fR (u50_e_3 ap np tp aq nq tq) (fT (.agg [.bool (S.fy false (u50_e_0 ap np tp aq nq tq)),.own 9 1 (S.f0 (u50_e_0 ap np tp aq nq tq)).length]) (u50_e_6 ap np mp tp aq nq mq tq) 10) False) False)) (fR n2 (fR (u50_e_10 ap np mp tp aq nq mq tq) (fR (u50_e_4 ap np tp aq nq tq) (fT (.agg [.bool (S.fy true (u50_e_1 ap np tp aq nq tq)),.own 9 1 (S.f0 (u50_e_1 ap np tp aq nq tq)).length]) (u50_e_7 ap np mp tp aq nq mq tq) 10) False) False) (fR (u50_e_10 ap np mp tp aq nq mq tq) (fR (u50_e_4 ap np tp aq nq tq) (fT (.agg [.bool (S.fy false (u50_e_1 ap np tp aq nq tq)),.own 9 1 (S.f0 (u50_e_1 ap np tp aq nq tq)).length]) (u50_e_7 ap np mp tp aq nq mq tq) 10) False) False))) False)) (fR n2 (fR (decide (ap+np≤mp∧np≤1000000∧aq+nq≤mq∧nq≤1000000∧(S.fW np (FS tp ap))=true∧(S.fW nq (FS tq aq))=true)) (fR (decide (S.fv (S.val np (FS tp ap)) (S.val nq (FS tq aq))≥0)) (fR n1 (fR (u50_e_9 ap np mp tp aq nq mq tq) (fR (u50_e_3 ap np tp aq nq tq) (fT (.agg [.bool (S.fy true (u50_e_0 ap np tp aq nq tq)),.own 9 1 (S.f0 (u50_e_0 ap np tp aq nq tq)).length]) (u50_e_6 ap np mp tp aq nq mq tq) 10) False) False) (fR (u50_e_9 ap np mp tp aq nq mq tq) (fR (u50_e_3 ap np tp aq nq tq) (fT (.agg [.bool (S.fy false (u50_e_0 ap np tp aq nq tq)),.own 9 1 (S.f0 (u50_e_0 ap np tp aq nq tq)).length]) (u50_e_6 ap np mp tp aq nq mq tq) 10) False) False)) (fR n2 (fR (u50_e_10 ap np mp tp aq nq mq tq) (fR (u50_e_4 ap np tp aq nq tq) (fT (.agg [.bool (S.fy true (u50_e_1 ap np tp aq nq tq)),.own 9 1 (S.f0 (u50_e_1 ap np tp aq nq tq)).length]) (u50_e_7 ap np mp tp aq nq mq tq) 10) False) False) (fR (u50_e_10 ap np mp tp aq nq mq tq) (fR (u50_e_4 ap np tp aq nq tq) (fT (.agg [.bool (S.fy false (u50_e_1 ap np tp aq nq tq)),.own 9 1 (S.f0 (u50_e_1 ap np tp aq nq tq)).length]) (u50_e_7 ap np mp tp aq nq mq tq) 10) False) False))) False) (fR n1 (fR (u50_e_12 ap np mp tp aq nq mq tq) (fR (u50_e_8 ap np tp aq nq tq) (fT (.agg [.bool (S.fy true (u50_e_11 ap np tp aq nq tq)),.own 8 1 (S.f0 (u50_e_11 ap np tp aq nq tq)).length]) (u50_e_5 ap np mp tp aq nq mq tq) 9) False) False) (fR (u50_e_12 ap np mp tp aq nq mq tq) (fR (u50_e_8 ap np tp aq nq tq) (fT (.agg [.bool (S.fy false (u50_e_11 ap np tp aq nq tq)),.own 8 1 (S.f0 (u50_e_11 ap np tp aq nq tq)).length]) (u50_e_5 ap np mp tp aq nq mq tq) 9) False) False)))
theorem te50:run fR Tryz.env true (xC fR) true 400 ⟨89,[.cd (zU Tryz.f89).body],z8 0 [.agg [.bool n1,.loose ⟨0,1,ap,0⟩ np],.agg [.bool n2,.loose ⟨1,1,aq,0⟩ nq]],[[],[(0,(false,CB mp tp)),(1,(false,CB mq tq))]],2⟩ (zr 2 [] fS fT)=
 Te50 fR fT n1 ap np mp tp n2 aq nq mq tq:=by kernel_rfl
noncomputable abbrev J50:Rt50→zS:=fun r=> [yC (2+1) ((N50) r)++ [(0,(false,CB mp tp)),(1,(false,CB mq tq))]]
attribute [local irreducible] Int.subNatNat in
theorem a50 {r:Rt50} (h:zY ((q50 n1 ap np mp tp n2 aq nq mq tq)) ((p50 n1 ap np mp tp n2 aq nq mq tq)) r):zn Tryz.prog 89 [.agg [.bool n1,.loose ⟨0,1,ap,0⟩ np],.agg [.bool n2,.loose ⟨1,1,aq,0⟩ nq]] [[(0,(false,CB mp tp)),(1,(false,CB mq tq))]] 2 ((V50) r) ((J50 mp tp mq tq) r) 400∧HB Tryz.prog 89:=by
 refine zf Tryz.envOk Tryz.mixed iA ((I50)) ((V50)) (J50 mp tp mq tq) (fn:=zU Tryz.f89) (ts:= []) (n:=400) rfl (by decide) (by simp) (zW rfl) ?_ ?_ ?_ h
 · intro s; exact s.elim
 · intro fS fT x hS hR h
   refine Holds.eq (te50 cond fS fT n1 ap np mp tp n2 aq nq mq tq) ?_
   unfold Te50
   unfold p50 at h
   refine zA h (fun c0 h=>zA h (fun c1 h=>zJ c0 (zA h (fun c2 h=>zA h (fun c3 h=> ?_) (fun c3 h=> ?_)) (fun c2 h=> ?_))) (fun c1 h=>zA h (fun c2 h=>zA h (fun c3 h=>zJ c0 (zA h (fun c4 h=>zA h (fun c5 h=> ?_) (fun c5 h=> ?_)) (fun c4 h=> ?_))) (fun c3 h=>zd c1 (zA h (fun c4 h=>zA h (fun c5 h=> ?_) (fun c5 h=> ?_)) (fun c4 h=> ?_)))) (fun c2 h=> ?_))) (fun c0 h=>zA h (fun c1 h=>zA h (fun c2 h=>zA h (fun c3 h=>zd c0 (zA h (fun c4 h=>zA h (fun c5 h=> ?_) (fun c5 h=> ?_)) (fun c4 h=> ?_))) (fun c3 h=>zJ c1 (zA h (fun c4 h=>zA h (fun c5 h=> ?_) (fun c5 h=> ?_)) (fun c4 h=> ?_)))) (fun c2 h=> ?_)) (fun c1 h=>zd c0 (zA h (fun c2 h=>zA h (fun c3 h=> ?_) (fun c3 h=> ?_)) (fun c2 h=> ?_))))
   all_goals first
     |exact zF h
     |exact zV hR _ h (fun n=>bif Nat.beq n 3 then 9 else n) rfl rfl rfl (zc ⟨(zj rfl),(zX (zD rfl) rfl rfl),trivial⟩) rfl (zL (zD rfl) rfl (Nat.le_of_eq rfl) (zN (fun _ _=>rfl) zM) (zB (zC rfl) rfl rfl (zB (zC rfl) rfl rfl zE)))
     |exact zV hR _ h (fun n=>bif Nat.beq n 3 then 8 else n) rfl rfl rfl (zc ⟨(zj rfl),(zX (zD rfl) rfl rfl),trivial⟩) rfl (zL (zD rfl) rfl (Nat.le_of_eq rfl) (zN (fun _ _=>rfl) zM) (zB (zC rfl) rfl rfl (zB (zC rfl) rfl rfl zE)))
 · intro fS fT x hS hR s h; exact s.elim
end
end Go.Ev
