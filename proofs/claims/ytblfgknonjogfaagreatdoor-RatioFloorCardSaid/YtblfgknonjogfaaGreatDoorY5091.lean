/-
  The tQ that the statement needs, 1 of 4.
-/
import Derived.Test.YtblfgknonjogfaaGreatDoorY509R3
import Derived.LaidMore
import Derived.Laws.StandIn
import Derived.Lay
import Derived.SevenTiedAt
import Derived.Test.YtblfgknonjogfaaGreatDoorCards
import Derived.Test.YtblfgknonjogfaaGreatDoorTie
import Derived.WalkKit
import Derived.WalkLawsBesides
import Derived.WalkSpells
namespace Go.Ev
open Go.Proofs
open Go.RowKit
set_option linter.unusedVariables false
set_option linter.unusedSimpArgs false
set_option maxRecDepth 100000
theorem SH:type_of% (And.intro @yu (And.intro @imp_false (And.intro @decide_eq_true_eq (And.intro @decide_eq_false_iff_not (And.intro @Int.toNat_natCast (And.intro @se (And.intro @sM (And.intro @Option.getD_some.{0} (And.intro @Option.getD_none.{0} (And.intro @Bool.not_eq_true' (And.intro @Bool.not_eq_false' (And.intro @Bool.and_eq_true (And.intro @Bool.or_eq_true (And.intro @Bool.and_eq_false_iff (And.intro @Bool.or_eq_false_iff (And.intro @bne_iff_ne.{0} (And.intro @beq_iff_eq.{0} (And.intro @bne_eq_false_iff_eq.{0} (And.intro @beq_eq_false_iff_ne.{0} (And.intro @ne_eq.{1} (And.intro @not_and (And.intro @Int.not_le (And.intro @Int.not_lt (And.intro @ge_iff_le.{0} (And.intro @gt_iff_lt.{0} (And.intro @Nat.not_lt (And.intro @Nat.not_le (And.intro @Bool.not_eq_true (And.intro @Bool.not_eq_false (And.intro @Bool.true_eq_false (And.intro @Bool.false_eq_true (And.intro @not_false_eq_true @not_true_eq_false)))))))))))))))))))))))))))))))):=
 (And.intro @yu (And.intro @imp_false (And.intro @decide_eq_true_eq (And.intro @decide_eq_false_iff_not (And.intro @Int.toNat_natCast (And.intro @se (And.intro @sM (And.intro @Option.getD_some.{0} (And.intro @Option.getD_none.{0} (And.intro @Bool.not_eq_true' (And.intro @Bool.not_eq_false' (And.intro @Bool.and_eq_true (And.intro @Bool.or_eq_true (And.intro @Bool.and_eq_false_iff (And.intro @Bool.or_eq_false_iff (And.intro @bne_iff_ne.{0} (And.intro @beq_iff_eq.{0} (And.intro @bne_eq_false_iff_eq.{0} (And.intro @beq_eq_false_iff_ne.{0} (And.intro @ne_eq.{1} (And.intro @not_and (And.intro @Int.not_le (And.intro @Int.not_lt (And.intro @ge_iff_le.{0} (And.intro @gt_iff_lt.{0} (And.intro @Nat.not_lt (And.intro @Nat.not_le (And.intro @Bool.not_eq_true (And.intro @Bool.not_eq_false (And.intro @Bool.true_eq_false (And.intro @Bool.false_eq_true (And.intro @not_false_eq_true @not_true_eq_false))))))))))))))))))))))))))))))))
abbrev FS (t:Nat→Int) (a:Nat):Nat→Int:=fun j=>t (j+a)
abbrev CB (m:Nat) (t:Nat→Int):Blk:= .cols m [.int .i64 t]
abbrev CI (L:List Int):Blk:= .cols L.length [.int .i64 fun j=>S.at' L j]
abbrev HB (P:Program) (f:Nat):Prop:= ∃ F,P.funcs[f]? =some F∧F.body.isSome=true∧(F.name== "runtime.NumGoroutine")=false
abbrev TT:=Bool→Prop→Prop→Prop
abbrev NI:=Nat→Int
theorem ot {i j:Nat} (h:j≠i):Nat.beq j i=false:=by
 cases hb:Nat.beq j i
 · rfl
 · exact absurd (Nat.eq_of_beq_eq_true hb) h
namespace S
def all (p:Nat→Bool) (n:Nat):Bool:=(List.range n).all p
end S
theorem nF {p:Nat→Bool} {n:Nat}:S.all p n=true↔ ∀ j,j<n→p j=true:=by simp [S.all]
namespace S
def fZ:List Int→Int
  | []=>0
  |x::r=>x+1000000*fZ r
def fD (t:Nat→Int):Nat→Nat→Int
  |_,0=>0
  |i,k+1=>t i+1000000*fD t (i+1) k
def val (n:Nat) (t:Nat→Int):Int:=fD t 0 n
def trim:List Int→List Int
  | []=> []
  |x::r=>match trim r with
   | []=>if x=0 then [] else [x]
   |y::s=>x::y::s
def fY:Nat→Int→List Int
  |0,_=> []
  |k+1,v=>if v≤0 then [] else (v % 1000000)::fY k (v / 1000000)
def grpI (v:Int):List Int:=fY v.toNat v
theorem grp_ex: ∃ f:Int→List Int,f=grpI:=⟨grpI,rfl⟩
noncomputable def fX:Int→List Int:=Classical.choose grp_ex
theorem grp_def:fX=grpI:=Classical.choose_spec grp_ex
def ff (x:Int):Bool:=decide (0≤x∧x<1000000)
def fF (n:Nat) (t:Nat→Int):Bool:=all (fun j=>ff (t j)) n&&(decide (n=0)||decide (t (n-1)≠0))
def fG (n:Nat) (t:Nat→Int):Bool:=all (fun j=>ff (t j)) n
end S
theorem nU {x:Int}:S.ff x=true↔0≤x∧x<1000000:=decide_eq_true_iff
theorem oi {t:Nat→Int}: ∀ {k i:Nat},S.fZ ((List.range' i k).map t)=S.fD t i k
  |0,_=>rfl
  |k+1,i=>by
   simp only [List.range'_succ,List.map_cons,S.fZ,S.fD]
   rw [oi]
theorem sr {n:Nat} {t:Nat→Int}:S.fZ (S.fJ n t)=S.val n t:=by
 unfold S.fJ S.val
 rw [← oi (t:=t) (k:=n) (i:=0),List.range_eq_range']
theorem yA {t u:Nat→Int}: ∀ {k i:Nat},(∀ j,i≤j→j<i+k→t j=u j)→S.fD t i k=S.fD u i k
  |0,_,_=>rfl
  |k+1,i,h=>by
   simp only [S.fD]
   rw [h i (Nat.le_refl _) (by omega),yA fun j h1 h2=>h j (by omega) (by omega)]
theorem vE {L:List Int}:S.val L.length (S.at' L)=S.fZ L:=by rw [← sr,wT]
theorem yI {t:Nat→Int}: ∀ {k i:Nat},(∀ j,i≤j→j<i+k→0≤t j)→0≤S.fD t i k
  |0,_,_=>Int.le_refl _
  |k+1,i,h=>by
   have h0:=h i (Nat.le_refl _) (by omega)
   have h1:=yI (t:=t) (k:=k) (i:=i+1) fun j h1 h2=>h j (by omega) (by omega)
   simp only [S.fD]
   omega
theorem nV: ∀ {L:List Int},(∀ x ∈ L,0≤x∧x<1000000)→0≤S.fZ L
  | [],_=>Int.le_refl _
  |x::r,h=>by
   have h0:=h x (by simp)
   have h1:=nV (L:=r) fun y hy=>h y (by simp [hy])
   simp only [S.fZ]
   omega
theorem rE: ∀ {k m:Nat} {v:Int},v.toNat≤k→v.toNat≤m→S.fY k v=S.fY m v
  |0,0,_,_,_=>rfl
  |0,m+1,v,h1,_=>by simp only [S.fY]; rw [if_pos (by omega)]
  |k+1,0,v,_,h2=>by simp only [S.fY]; rw [if_pos (by omega)]
  |k+1,m+1,v,h1,h2=>by
   simp only [S.fY]
   split
   · rfl
   · rw [rE (k:=k) (m:=m) (by omega) (by omega)]
theorem z8:S.fX 0= []:=by rw [S.grp_def]; rfl
theorem yX {v:Int} (h:v≤0):S.fX v= []:=by
 rw [S.grp_def]
 unfold S.grpI
 rw [show v.toNat=0 by omega]
 rfl
theorem xO {v:Int} (h:0<v):S.fX v=(v % 1000000)::S.fX (v / 1000000):=by
 rw [S.grp_def]
 unfold S.grpI
 rw [show v.toNat=(v.toNat-1)+1 by omega]
 simp only [S.fY]
 rw [if_neg (by omega),rE (k:=v.toNat-1) (m:=(v / 1000000).toNat) (by omega) (Nat.le_refl _)]
theorem wY {x v:Int} (hx:0≤x∧x<1000000) (hv:0≤v) (h:x≠0∨0<v):S.fX (x+1000000*v)=x::S.fX v:=by
 rw [xO (by omega),show (x+1000000*v) % 1000000=x by omega,show (x+1000000*v) / 1000000=v by omega]
theorem xL: ∀ {L:List Int},(∀ x ∈ L,0≤x∧x<1000000)→S.trim L=S.fX (S.fZ L)
  | [],_=>z8.symm
  | x ::r,h=>by
   have h0:=h x (by simp)
   have hr: ∀ y ∈ r,0≤y∧y<1000000:=fun y hy=>h y (by simp [hy])
   have h1:=nV hr
   have ih:=xL hr
   simp only [S.trim,S.fZ]
   rw [ih]
   rcases Int.lt_or_eq_of_le h1 with h2|h2
   · rw [wY h0 h1 (.inr h2),xO h2]
   · rw [← h2,z8]
     by_cases hx:x=0
     · subst hx; rw [show (0:Int)+1000000*0=0 from rfl,z8]; rfl
     · simp only [if_neg hx]
       rw [wY h0 (Int.le_refl _) (.inl hx),z8]
theorem ud {v:Int} (h:0≤v):S.fZ (S.fX v)=v:=by
 have key: ∀ (n:Nat) (v:Int),0≤v→v.toNat≤n→S.fZ (S.fX v)=v:=by
  intro n
  induction n with
  |zero=>intro v h0 h1; rw [yX (by omega)]; simp only [S.fZ]; omega
  | succ n ih=>
   intro v h0 h1
   rcases Int.lt_or_eq_of_le h0 with h2|h2
   · rw [xO h2]
     simp only [S.fZ]
     rw [ih _ (by omega) (by omega)]
     omega
   · rw [← h2,z8]; rfl
 exact key _ v h (Nat.le_refl _)
theorem qH {v:Int}: ∀ x ∈ S.fX v,0≤x∧x<1000000:=by
 have key: ∀ (n:Nat) (v:Int),v.toNat≤n→ ∀ x ∈ S.fX v,0≤x∧x<1000000:=by
  intro n
  induction n with
  |zero=>intro v h1 x hx; rw [yX (by omega)] at hx; cases hx
  | succ n ih=>
   intro v h1 x hx
   by_cases h2:0<v
   · rw [xO h2] at hx
     rcases List.mem_cons.mp hx with rfl|hx
     · omega
     · exact ih _ (by omega) x hx
   · rw [yX (by omega)] at hx; cases hx
 exact key _ v (Nat.le_refl _)
theorem sB: ∀ {L:List Int},S.trim (L++ [0])=S.trim L
  | []=>rfl
  |x::r=>by simp only [List.cons_append,S.trim]; rw [sB]
theorem tJ: ∀ {L:List Int} {x:Int},x≠0→S.trim (L++ [x])=L++ [x]
  | [],x,h=>by simp [S.trim,h]
  |y::r,x,h=>by
   simp only [List.cons_append,S.trim]
   rw [tJ h]
   cases hr:r++ [x] with
   |nil=>simp at hr
   |cons a c=>rfl
theorem wB {L:List Int} {x:Int}:S.fI L x=L++ [x]:=by simp [S.fI]
theorem zl {n:Nat} {t:Nat→Int}:S.fF n t=true↔(∀ j,j<n→0≤t j∧t j<1000000)∧(n=0∨t (n-1)≠0):=by
 unfold S.fF
 rw [Bool.and_eq_true,Bool.or_eq_true,nF,decide_eq_true_eq,decide_eq_true_eq]
 simp only [nU]
theorem yO {n:Nat} {t:Nat→Int}:S.fG n t=true↔ ∀ j,j<n→0≤t j∧t j<1000000:=by
 unfold S.fG
 rw [nF]
 simp only [nU]
theorem zj {n:Nat} {t:Nat→Int} (h:S.fF n t=true):S.fG n t=true:=yO.mpr (zl.mp h).1
theorem o7 {n:Nat} {t:Nat→Int} {x:Int} (h:x ∈ S.fJ n t): ∃ j,j<n∧x=t j:=by
 unfold S.fJ at h
 simp only [List.mem_map,List.mem_range] at h
 obtain ⟨j,h1,h2⟩:=h
 exact ⟨j,h1,h2.symm⟩
theorem lS {n:Nat} {t:Nat→Int} (h:S.fF n t=true):S.fJ n t=S.fX (S.val n t):=by
 obtain ⟨h1,h2⟩:=zl.mp h
 rw [← sr,← xL fun x hx=>by obtain ⟨j,hj,rfl⟩:=o7 hx; exact h1 j hj]
 rcases h2 with h2|h2
 · subst h2; rfl
 · cases n with
   |zero=>rfl
   |succ n=>rw [uh,wB,tJ (by simpa using h2)]
theorem vC {n:Nat} {t:Nat→Int} (h:S.fG n t=true):S.trim (S.fJ n t)=S.fX (S.val n t):=by
 rw [← sr]
 exact xL fun x hx=>by obtain ⟨j,hj,rfl⟩:=o7 hx; exact yO.mp h j hj
theorem yU {n:Nat} {t:Nat→Int} (h:S.fG n t=true):0≤S.val n t:=yI fun j _ hj=>(yO.mp h j (by omega)).1
theorem ya {n:Nat} {t:Nat→Int} (h:S.fF n t=true) (hn:0<n):0<S.val n t:=by
 rcases Int.lt_or_eq_of_le (yU (zj h)) with h1|h1
 · exact h1
 · have:=lS h
   rw [← h1,z8] at this
   have h2:=congrArg List.length this
   rw [zW] at h2
   exact absurd h2 (by simp; omega)
theorem yT {v:Int} (h:0<v):0<(S.fX v).length:=by rw [xO h]; simp
theorem yH {v:Int}:S.fF (S.fX v).length (S.at' (S.fX v))=true:=by
 rw [zl]
 refine ⟨fun j hj=>qH _ (by rw [tT hj]; exact List.getElem_mem _),?_⟩
 by_cases hv:0<v
 · right
   have key: ∀ (n:Nat) (v:Int),0<v→v.toNat≤n→S.at' (S.fX v) ((S.fX v).length-1)≠0:=by
    intro n
    induction n with
    |zero=>intro v h0 h1; omega
    | succ n ih=>
     intro v h0 h1
     rw [xO h0]
     by_cases h2:0<v / 1000000
     · have h3:=ih _ h2 (by omega)
       have h4:=yT h2
       have e:S.at' (v % 1000000::S.fX (v / 1000000)) ((v % 1000000::S.fX (v / 1000000)).length-1)=S.at' (S.fX (v / 1000000)) ((S.fX (v / 1000000)).length-1):=by
        simp only [List.length_cons,Nat.add_sub_cancel]
        rw [tT (by simp),tT (by omega)]
        rw [List.getElem_cons]
        rw [dif_neg (by omega)]
       rw [e]
       exact h3
     · rw [yX (by omega)]
       simp [S.at']
       omega
   exact key _ v hv (Nat.le_refl _)
 · left
   rw [yX (by omega)]
   rfl
namespace S
def fe (n:Nat) (t:Nat→Int):Nat:=(trim (fJ n t)).length
def fV (a b:Int):Int:=if a<b then-1 else if a>b then 1 else 0
end S
theorem vg: ∀ {L:List Int},(S.trim L).length≤L.length∧S.trim L=L.take (S.trim L).length
  | []=>⟨Nat.le_refl _,rfl⟩
  | x ::r=>by
   obtain ⟨h1,h2⟩:=vg (L:=r)
   simp only [S.trim]
   cases hr:S.trim r with
   |nil=>
    simp only
    split
    · exact ⟨Nat.zero_le _,rfl⟩
    · exact ⟨by simp,by simp⟩
   |cons a c=>
    simp only
    rw [hr] at h1 h2
    refine ⟨by simpa using h1,?_⟩
    simp only [List.length_cons,List.take_succ_cons]
    rw [List.length_cons] at h2
    rw [← h2]
theorem jq {n:Nat} {t:Nat→Int}:S.fJ (S.fe n t) t=S.trim (S.fJ n t):=by
 have h:=(vg (L:=S.fJ n t)).2
 have hl:=(vg (L:=S.fJ n t)).1
 rw [zW] at hl
 rw [h]
 unfold S.fe
 generalize (S.trim (S.fJ n t)).length=k at*
 unfold S.fJ
 rw [← List.map_take,List.take_range]
 rw [Nat.min_eq_left hl]
theorem rh {n:Nat} {t:Nat→Int} (h:t n=0):S.trim (S.fJ (n+1) t)=S.trim (S.fJ n t):=by rw [uh,wB,h,sB]
theorem tG {n:Nat} {t:Nat→Int} (h:t n≠0):S.trim (S.fJ (n+1) t)=S.fJ (n+1) t:=by rw [uh,wB,tJ h]
theorem uc {L:List Int}:S.trim (S.fJ L.length (S.at' L))=S.trim L:=by rw [wT]
theorem wm {t u:Nat→Int}: ∀ {m k i:Nat},m<k→(∀ j,i≤j→j<i+m→0≤t j∧t j<1000000)→(∀ j,i≤j→j<i+k→0≤u j∧u j<1000000)→u (i+k-1)≠0→S.fD t i m<S.fD u i k
  |m,0,i,h,_,_,_=>by omega
  | 0,k+1,i,_,_,hu,hl=>by
   simp only [S.fD]
   have h0:=hu i (Nat.le_refl _) (by omega)
   have h1:=yI (t:=u) (k:=k) (i:=i+1) fun j h1 h2=>(hu j (by omega) (by omega)).1
   cases k with
   |zero=>simp only [Nat.zero_add,Nat.add_sub_cancel] at hl; omega
   |succ k=>
    have ih:=wm (t:=u) (u:=u) (m:=0) (k:=k+1) (i:=i+1) (by omega) (fun j h1 h2=>by omega) (fun j h1 h2=>hu j (by omega) (by omega)) (by rw [show i+1+(k+1)-1=i+(k+1+1)-1 by omega]; exact hl)
    simp only [S.fD] at ih ⊢
    omega
  |m+1,k+1,i,h,ht,hu,hl=>by
   have ih:=wm (t:=t) (u:=u) (m:=m) (k:=k) (i:=i+1) (by omega) (fun j h1 h2=>ht j (by omega) (by omega)) (fun j h1 h2=>hu j (by omega) (by omega)) (by rw [show i+1+k-1=i+(k+1)-1 by omega]; exact hl)
   have h0:=hu i (Nat.le_refl _) (by omega)
   have h1:=ht i (Nat.le_refl _) (by omega)
   simp only [S.fD]
   omega
theorem vc {n m:Nat} {t u:Nat→Int} (h:m<n) (ht:S.fF m t=true) (hu:S.fF n u=true):S.val m t<S.val n u:=by
 obtain ⟨h1,h2⟩:=zl.mp hu
 exact wm h (fun j _ hj=>(zl.mp ht).1 j (by omega)) (fun j _ hj=>h1 j (by omega)) (by rw [Nat.zero_add]; exact h2.resolve_left (by omega))
theorem wZ {t u:Nat→Int} {n:Nat} (ht: ∀ j,j<n→0≤t j∧t j<1000000) (hu: ∀ j,j<n→0≤u j∧u j<1000000): ∀ {i k:Nat},i+k=n→S.fD t i k<S.fD u i k→S.val n t<S.val n u
  |0,k,h,hl=>by rw [Nat.zero_add] at h; subst h; exact hl
  |i+1,k,h,hl=>by
   have h1:=ht i (by omega)
   have h2:=hu i (by omega)
   refine wZ ht hu (i:=i) (k:=k+1) (by omega) ?_
   simp only [S.fD]
   omega
section
variable (g9:TT) (fA:KS) (fC:KR) (np mp:Nat) (tp:NI)
inductive St69 where
 |h0 (x0:List Int)
abbrev Rt69:=List Int
noncomputable def V69 (r:Rt69):PV:= .own 0 1 r.length
noncomputable def N69 (r:Rt69):List Blk:= []
noncomputable def W69 (np mp:Nat) (tp:Nat→Int) (r:Rt69):Nat→Blk:=fun n=>bif Nat.beq n 0 then Blk.cols (List.length r) [Col.int IntKind.i64 fun j=>S.at' r j] else .dead
noncomputable def I69:St69→Hd
  | .h0 x0=>⟨hd Tryz.f106 0,[.own 0 1 x0.length],[[],[(0,(true,CI x0))]],1⟩
noncomputable def q69 (np mp:Nat) (tp:NI):St69→Option (St69⊕Rt69)| .h0 x0=>bif (decide ((↑(x0.length):Int)>0)) then (bif (lim .i64 ((↑(x0.length):Int)-1)) then (bif (decide ((0:Int)≤(↑(x0.length):Int)-1∧(↑(x0.length):Int)-1<(↑(x0.length):Int))) then (bif (decide (((↑(x0.length):Int)-1).toNat<x0.length)) then (bif (S.at' x0 ((↑(x0.length):Int)-1).toNat==0) then (bif (decide ((0:Int)≤(↑(x0.length):Int)-1∧(↑(x0.length):Int)-1≤(↑(x0.length):Int))) then (some (.inl (.h0 (S.fJ ((↑(x0.length):Int)-1).toNat fun j=>S.at' x0 j)))) else none) else (some (.inr x0))) else none) else none) else none) else (some (.inr x0))
noncomputable def p69 (np mp:Nat) (tp:NI):Option (St69⊕Rt69):=some (.inl (.h0 (S.fJ np fun j=>tp j)))
def Te69:Prop:=fA (hd Tryz.f106 0) ([.own 0 1 np]) ([[(0,true,CB np tp)]]) 1
theorem te69:run g9 Tryz.env true noX true 400 ⟨106,[.cd (zS Tryz.f106).body],yD 0 [.own 0 1 np],[[],[(0,(true,CB np tp))]],1⟩ (zq 1 [0] fA fC)=
 Te69 fA np tp:=by kernel_rfl
def T69_0 (x0:List Int):Prop:=g9 (decide ((↑(x0.length):Int)>0)) (g9 (lim .i64 ((↑(x0.length):Int)-1)) (g9 (decide ((0:Int)≤(↑(x0.length):Int)-1∧(↑(x0.length):Int)-1<(↑(x0.length):Int))) (g9 (decide (((↑(x0.length):Int)-1).toNat<x0.length)) (g9 (S.at' x0 ((↑(x0.length):Int)-1).toNat==0) (g9 (lim .i64 ((↑(x0.length):Int)-1)) (g9 (decide ((0:Int)≤(↑(x0.length):Int)-1∧(↑(x0.length):Int)-1≤(↑(x0.length):Int))) (fA (hd Tryz.f106 0) ([.own 0 1 ((↑(x0.length):Int)-1).toNat]) ([[(0,true,CI x0)]]) 1) False) False) (fC (.own 0 1 x0.length) ([[(0,true,CI x0)]]) 1)) False) False) False) (fC (.own 0 1 x0.length) ([[(0,true,CI x0)]]) 1)
theorem t69_0 (x0:List Int):run g9 Tryz.env true noX true 400 ⟨106,hd Tryz.f106 0,yc [0] [.own 0 1 x0.length],[[],[(0,(true,CI x0))]],1⟩ (zq 1 [0] fA fC)=
 T69_0 g9 fA fC x0:=by kernel_rfl
noncomputable abbrev J69:Rt69→zQ:=fun r=> [yJ (1+1) ((N69) r)++ [(0,(true,((W69 np mp tp) r 0)))]]
attribute [local irreducible] Int.subNatNat in
theorem a69 {r:Rt69} (h:zX ((q69 np mp tp)) ((p69 np mp tp)) r):zn Tryz.prog 106 [.own 0 1 np] [[(0,(true,CB np tp))]] 1 ((V69) r) ((J69 np mp tp) r) 400∧HB Tryz.prog 106:=by
 refine zf Tryz.envOk Tryz.mixed y3 ((I69)) ((V69)) (J69 np mp tp) (fn:=zS Tryz.f106) (ts:= [0]) (n:=400) rfl (by decide) (by simp) (zV rfl) ?_ ?_ ?_ h
 · intro s; cases s<;>exact ⟨ym _ _,by simp [I69],zV rfl,Nat.le_of_ble_eq_true rfl⟩
 · intro fA fC x hS hR h
   refine Holds.eq (te69 cond fA fC np tp) ?_
   unfold Te69
   exact zb hS _ h (fun n=>n) rfl rfl rfl ⟨(zZ (zC rfl) rfl zW),trivial⟩ rfl (zL (zC rfl) rfl (Nat.le_of_eq zW) (zO (fun _ hj=>z3 (fun (t:Int)=>t) hj) zP) zE)
 · intro fA fC x hS hR s h
   cases s with
   |h0 x0=>
    refine Holds.eq (t69_0 cond fA fC x0) ?_
    unfold T69_0
    rw [q69] at h
    exact zA h (fun c0 h=>zA h (fun c1 h=>zA h (fun c2 h=>zA h (fun c3 h=>zA h (fun c4 h=>zJ c1 (zA h (fun c5 h=>zb hS _ h (fun n=>n) rfl rfl rfl ⟨(zZ (zC rfl) rfl zW),trivial⟩ rfl (zL (zC rfl) rfl (by first|exact Nat.le_of_eq zW|(simp only [zW,yE]; omega)) (zO (fun _ hj=>z3 (fun (t:Int)=>t) hj) zP) zE)) (fun c5 h=>zF h))) (fun c4 h=>zU hR _ h (fun n=>n) rfl rfl rfl (zZ (zC rfl) rfl rfl) rfl (zL (zC rfl) rfl (Nat.le_of_eq rfl) (zO (fun _ _=>rfl) zP) zE))) (fun c3 h=>zF h)) (fun c2 h=>zF h)) (fun c1 h=>zF h)) (fun c0 h=>zU hR _ h (fun n=>n) rfl rfl rfl (zZ (zC rfl) rfl rfl) rfl (zL (zC rfl) rfl (Nat.le_of_eq rfl) (zO (fun _ _=>rfl) zP) zE))
end
noncomputable abbrev w69 {α:Type} (g:Nat→Nat→(Nat→Int)→α) (x:(Nat×Nat×(Nat→Int)×Unit)×Unit):α:=g x.1.1 x.1.2.1 x.1.2.2.1
noncomputable def k69:Con:=⟨106,[.one (.own [.int .i64])],w69 (fun np mp tp=>decide (np≤1000000)),w69 (fun np mp tp=>(V69) (S.trim (S.fJ np tp))),w69 (fun np mp tp=>(N69) (S.trim (S.fJ np tp))),w69 (fun np mp tp=>(W69 np mp tp) (S.trim (S.fJ np tp)))⟩
theorem s69' (np mp:Nat) (tp:Nat→Int): ∀ (n:Nat) (L:List Int),L.length=n→n≤1000000→Comes (q69 np mp tp) (.h0 L) (S.trim L):=by
 intro n
 induction n with
 |zero=>
  intro L hL hn
  obtain rfl:L= []:=List.length_eq_zero_iff.mp hL
  apply Comes.of
  show zX _ _ _
  (first|rw [q69]|unfold q69)
  repeat' (first|with_reducible refine zN (fun h=> ?_) (fun h=> ?_)<;>(try simp only [SH] at h)|exact zI.mpr (by omega))
  all_goals first|(exfalso; simp at*; done)|exact zG.mpr rfl
 | succ n ih=>
  intro L hL hn
  have e1:((L.length:Int)-1).toNat=n:=by omega
  have ih:=ih (S.fJ n (S.at' L)) zW (by omega)
  have e2:S.trim L=S.trim (S.fJ (n+1) (S.at' L)):=by rw [← hL,wT]
  rw [e2]
  by_cases h0:S.at' L n=0
  · rw [rh h0]
    apply Comes.of
    show zX _ _ _
    (first|rw [q69]|unfold q69)
    repeat' (first|with_reducible refine zN (fun h=> ?_) (fun h=> ?_)<;>(try simp only [SH,e1] at h)|exact zI.mpr (by omega))
    all_goals first|(exfalso; omega)|(rw [e1]; exact ih)
  · rw [tG h0,← hL,wT]
    apply Comes.of
    show zX _ _ _
    (first|rw [q69]|unfold q69)
    repeat' (first|with_reducible refine zN (fun h=> ?_) (fun h=> ?_)<;>(try simp only [SH,e1] at h)|exact zI.mpr (by omega))
    all_goals first|(exfalso; omega)|exact zG.mpr rfl
theorem s69 (np mp:Nat) (tp:Nat→Int) (hp:np≤1000000):zX ((q69 np mp tp)) ((p69 np mp tp)) (S.trim (S.fJ np tp)):=by
 exact s69' np mp tp np (S.fJ np tp) zW hp
theorem k69_ok:k69.ok Tryz.prog:=by
 intro x hx
 obtain ⟨⟨np,mp,tp,_⟩,_⟩:=x
 obtain ⟨h1,h2⟩:=a69 np mp tp (s69 np mp tp (zo hx rfl))
 exact ⟨⟨400,(by decide:1+1+0≤400),h1⟩,h2⟩
section
variable (g9:TT) (fA:KS) (fC:KR) (ap np mp:Nat) (tp:NI)
inductive St69v where
 |h0 (x0:Nat) (x1:Nat)
abbrev Rt69v:=Nat×Nat
noncomputable def V69v (r:Rt69v):PV:= .loose (PA.mk 0 1 r.1 0) r.2
noncomputable def N69v (r:Rt69v):List Blk:= []
noncomputable def I69v:St69v→Hd
  | .h0 x0 x1=>⟨hd Tryz.f106 0,[.loose ⟨0,1,x0,0⟩ x1],[[],[(0,(false,CB mp tp))]],1⟩
noncomputable def q69v (ap np mp:Nat) (tp:NI):St69v→Option (St69v⊕Rt69v)| .h0 x0 x1=>bif (decide ((x1:Int)>0)) then (bif (lim .i64 ((x1:Int)-1)) then (bif (decide ((0:Int)≤(x1:Int)-1∧(x1:Int)-1<(x1:Int))) then (bif (decide (((x1:Int)-1).toNat+x0<mp)) then (bif (tp (((x1:Int)-1).toNat+x0)==0) then (bif (decide ((0:Int)≤Option.getD Option.none (0:Int)∧(0:Int)≤(x1:Int)-1∧(x1:Int)-1≤(x1:Int))) then (some (.inl (.h0 (0+x0) ((x1:Int)-1).toNat))) else none) else (some (.inr (x0,x1)))) else none) else none) else none) else (some (.inr (x0,x1)))
noncomputable def p69v (ap np mp:Nat) (tp:NI):Option (St69v⊕Rt69v):=some (.inl (.h0 ap np))
def Te69v:Prop:=fA (hd Tryz.f106 0) ([.loose ⟨0,1,ap,0⟩ np]) ([[(0,false,CB mp tp)]]) 1
theorem te69v:run g9 Tryz.env true noX true 400 ⟨106,[.cd (zS Tryz.f106).body],yD 0 [.loose ⟨0,1,ap,0⟩ np],[[],[(0,(false,CB mp tp))]],1⟩ (zq 1 [0] fA fC)=
 Te69v fA ap np mp tp:=by kernel_rfl
def T69v_0 (x0 x1:Nat):Prop:=g9 (decide ((x1:Int)>0)) (g9 (lim .i64 ((x1:Int)-1)) (g9 (decide ((0:Int)≤(x1:Int)-1∧(x1:Int)-1<(x1:Int))) (g9 (decide (((x1:Int)-1).toNat+x0<mp)) (g9 (tp (((x1:Int)-1).toNat+x0)==0) (g9 (lim .i64 ((x1:Int)-1)) (g9 (decide ((0:Int)≤Option.getD Option.none (0:Int)∧(0:Int)≤(x1:Int)-1∧(x1:Int)-1≤(x1:Int))) (fA (hd Tryz.f106 0) ([.loose (PA.mk 0 1 (0+x0) 0) ((x1:Int)-1).toNat]) ([[(0,false,CB mp tp)]]) 1) False) False) (fC (.loose ⟨0,1,x0,0⟩ x1) ([[(0,false,CB mp tp)]]) 1)) False) False) False) (fC (.loose ⟨0,1,x0,0⟩ x1) ([[(0,false,CB mp tp)]]) 1)
theorem t69v_0 (x0 x1:Nat):run g9 Tryz.env true noX true 400 ⟨106,hd Tryz.f106 0,yc [0] [.loose ⟨0,1,x0,0⟩ x1],[[],[(0,(false,CB mp tp))]],1⟩ (zq 1 [0] fA fC)=
 T69v_0 g9 fA fC mp tp x0 x1:=by kernel_rfl
noncomputable abbrev J69v:Rt69v→zQ:=fun r=> [yJ (1+1) ((N69v) r)++ [(0,(false,CB mp tp))]]
attribute [local irreducible] Int.subNatNat in
theorem a69v {r:Rt69v} (h:zX ((q69v ap np mp tp)) ((p69v ap np mp tp)) r):zn Tryz.prog 106 [.loose ⟨0,1,ap,0⟩ np] [[(0,(false,CB mp tp))]] 1 ((V69v) r) ((J69v mp tp) r) 400∧HB Tryz.prog 106:=by
 refine zf Tryz.envOk Tryz.mixed y3 ((I69v mp tp)) ((V69v)) (J69v mp tp) (fn:=zS Tryz.f106) (ts:= [0]) (n:=400) rfl (by decide) (by simp) (zV rfl) ?_ ?_ ?_ h
 · intro s; cases s<;>exact ⟨ym _ _,by simp [I69v],zV rfl,Nat.le_of_ble_eq_true rfl⟩
 · intro fA fC x hS hR h
   refine Holds.eq (te69v cond fA fC ap np mp tp) ?_
   unfold Te69v
   exact zb hS _ h (fun n=>n) rfl rfl rfl ⟨(zM (zC rfl) rfl rfl rfl),trivial⟩ rfl (zB (zC rfl) rfl rfl zE)
 · intro fA fC x hS hR s h
   cases s with
   |h0 x0 x1=>
    refine Holds.eq (t69v_0 cond fA fC mp tp x0 x1) ?_
    unfold T69v_0
    rw [q69v] at h
    exact zA h (fun c0 h=>zA h (fun c1 h=>zA h (fun c2 h=>zA h (fun c3 h=>zA h (fun c4 h=>zJ c1 (zA h (fun c5 h=>zb hS _ h (fun n=>n) rfl rfl rfl ⟨(zM (zC rfl) rfl rfl rfl),trivial⟩ rfl (zB (zC rfl) rfl rfl zE)) (fun c5 h=>zF h))) (fun c4 h=>zU hR _ h (fun n=>n) rfl rfl rfl (zM (zC rfl) rfl rfl rfl) rfl (zB (zC rfl) rfl rfl zE))) (fun c3 h=>zF h)) (fun c2 h=>zF h)) (fun c1 h=>zF h)) (fun c0 h=>zU hR _ h (fun n=>n) rfl rfl rfl (zM (zC rfl) rfl rfl rfl) rfl (zB (zC rfl) rfl rfl zE))
end
noncomputable abbrev w69v {α:Type} (g:Nat→Nat→Nat→(Nat→Int)→α) (x:(Nat×Nat×Nat×(Nat→Int)×Unit)×Unit):α:=g x.1.1 x.1.2.1 x.1.2.2.1 x.1.2.2.2.1
noncomputable def k69v:Con:=⟨106,[.one (.list [.int .i64])],w69v (fun ap np mp tp=>decide (ap+np≤mp∧np≤1000000)),w69v (fun ap np mp tp=>(V69v) ((ap,S.fe np (FS tp ap)))),w69v (fun ap np mp tp=>(N69v) ((ap,S.fe np (FS tp ap)))),fun _ _=> .dead⟩
theorem s69v' (ap np mp:Nat) (tp:Nat→Int) (hp:ap+np≤mp∧np≤1000000): ∀ (n:Nat),n≤np→Comes (q69v ap np mp tp) (.h0 ap n) (ap,S.fe n (fun j=>tp (j+ap))):=by
 obtain ⟨hp1,hp2⟩:=hp
 intro n
 induction n with
 |zero=>
  intro hn
  apply Comes.of
  show zX _ _ _
  (first|rw [q69v]|unfold q69v)
  repeat' (first|with_reducible refine zN (fun h=> ?_) (fun h=> ?_)<;>(try simp only [SH] at h)|exact zI.mpr (by omega))
  all_goals first|(exfalso; omega)|exact zG.mpr rfl
 | succ n ih=>
  intro hn
  have ih:=ih (by omega)
  have e1:(((n+1:Nat):Int)-1).toNat=n:=by omega
  unfold S.fe at ih ⊢
  by_cases h0:tp (n+ap)=0
  · rw [rh (t:=fun j=>tp (j+ap)) h0]
    apply Comes.of
    show zX _ _ _
    (first|rw [q69v]|unfold q69v)
    repeat' (first|with_reducible refine zN (fun h=> ?_) (fun h=> ?_)<;>(try simp only [SH,e1] at h)|exact zI.mpr (by omega))
    all_goals first|(exfalso; omega)|(rw [Nat.zero_add,e1]; exact ih)
  · rw [tG (t:=fun j=>tp (j+ap)) h0,zW]
    apply Comes.of
    show zX _ _ _
    (first|rw [q69v]|unfold q69v)
    repeat' (first|with_reducible refine zN (fun h=> ?_) (fun h=> ?_)<;>(try simp only [SH,e1] at h)|exact zI.mpr (by omega))
    all_goals first|(exfalso; omega)|exact zG.mpr rfl
theorem s69v (ap np mp:Nat) (tp:Nat→Int) (hp:ap+np≤mp∧np≤1000000):zX ((q69v ap np mp tp)) ((p69v ap np mp tp)) ((ap,S.fe np (fun j=>tp (j+ap)))):=by
 exact s69v' ap np mp tp hp np (Nat.le_refl _)
theorem k69v_ok:k69v.ok Tryz.prog:=by
 intro x hx
 obtain ⟨⟨ap,np,mp,tp,_⟩,_⟩:=x
 obtain ⟨h1,h2⟩:=a69v ap np mp tp (s69v ap np mp tp (zo hx rfl))
 exact ⟨⟨400,(by decide:1+1+0≤400),h1⟩,h2⟩
section
variable (g9:TT) (fA:KS) (fC:KR) (np mp:Nat) (tp:NI)
abbrev St65:=St69
abbrev Rt65:=List Int
noncomputable def V65 (r:Rt65):PV:= .own 0 1 r.length
noncomputable def N65 (r:Rt65):List Blk:= []
noncomputable def W65 (np mp:Nat) (tp:Nat→Int) (r:Rt65):Nat→Blk:=fun n=>bif Nat.beq n 0 then Blk.cols (List.length r) [Col.int IntKind.i64 fun j=>S.at' r j] else .dead
noncomputable def I65:St65→Hd
  | .h0 x0=>⟨hd Tryz.f120 0,[.own 0 1 x0.length],[[],[(0,(true,CI x0))]],1⟩
noncomputable def q65 (np mp:Nat) (tp:NI):St65→Option (St65⊕Rt65):=q69 np mp tp
noncomputable def p65 (np mp:Nat) (tp:NI):Option (St65⊕Rt65):=p69 np mp tp
def Te65:Prop:=fA (hd Tryz.f120 0) ([.own 0 1 np]) ([[(0,true,CB np tp)]]) 1
theorem te65:run g9 Tryz.env true noX true 400 ⟨120,[.cd (zS Tryz.f120).body],yD 0 [.own 0 1 np],[[],[(0,(true,CB np tp))]],1⟩ (zq 1 [0] fA fC)=
 Te65 fA np tp:=by kernel_rfl
def T65_0 (x0:List Int):Prop:=g9 (decide ((↑(x0.length):Int)>0)) (g9 (lim .i64 ((↑(x0.length):Int)-1)) (g9 (decide ((0:Int)≤(↑(x0.length):Int)-1∧(↑(x0.length):Int)-1<(↑(x0.length):Int))) (g9 (decide (((↑(x0.length):Int)-1).toNat<x0.length)) (g9 (S.at' x0 ((↑(x0.length):Int)-1).toNat==0) (g9 (lim .i64 ((↑(x0.length):Int)-1)) (g9 (decide ((0:Int)≤(↑(x0.length):Int)-1∧(↑(x0.length):Int)-1≤(↑(x0.length):Int))) (fA (hd Tryz.f120 0) ([.own 0 1 ((↑(x0.length):Int)-1).toNat]) ([[(0,true,CI x0)]]) 1) False) False) (fC (.own 0 1 x0.length) ([[(0,true,CI x0)]]) 1)) False) False) False) (fC (.own 0 1 x0.length) ([[(0,true,CI x0)]]) 1)
theorem t65_0 (x0:List Int):run g9 Tryz.env true noX true 400 ⟨120,hd Tryz.f120 0,yc [0] [.own 0 1 x0.length],[[],[(0,(true,CI x0))]],1⟩ (zq 1 [0] fA fC)=
 T65_0 g9 fA fC x0:=by kernel_rfl
noncomputable abbrev J65:Rt65→zQ:=fun r=> [yJ (1+1) ((N65) r)++ [(0,(true,((W65 np mp tp) r 0)))]]
attribute [local irreducible] Int.subNatNat in
theorem a65 {r:Rt65} (h:zX ((q65 np mp tp)) ((p65 np mp tp)) r):zn Tryz.prog 120 [.own 0 1 np] [[(0,(true,CB np tp))]] 1 ((V65) r) ((J65 np mp tp) r) 400∧HB Tryz.prog 120:=by
 refine zf Tryz.envOk Tryz.mixed y3 ((I65)) ((V65)) (J65 np mp tp) (fn:=zS Tryz.f120) (ts:= [0]) (n:=400) rfl (by decide) (by simp) (zV rfl) ?_ ?_ ?_ h
 · intro s; cases s<;>exact ⟨ym _ _,by simp [I65],zV rfl,Nat.le_of_ble_eq_true rfl⟩
 · intro fA fC x hS hR h
   refine Holds.eq (te65 cond fA fC np tp) ?_
   unfold Te65
   exact zb hS _ h (fun n=>n) rfl rfl rfl ⟨(zZ (zC rfl) rfl zW),trivial⟩ rfl (zL (zC rfl) rfl (Nat.le_of_eq zW) (zO (fun _ hj=>z3 (fun (t:Int)=>t) hj) zP) zE)
 · intro fA fC x hS hR s h
   cases s with
   |h0 x0=>
    refine Holds.eq (t65_0 cond fA fC x0) ?_
    unfold T65_0
    rw [q65,q69] at h
    exact zA h (fun c0 h=>zA h (fun c1 h=>zA h (fun c2 h=>zA h (fun c3 h=>zA h (fun c4 h=>zJ c1 (zA h (fun c5 h=>zb hS _ h (fun n=>n) rfl rfl rfl ⟨(zZ (zC rfl) rfl zW),trivial⟩ rfl (zL (zC rfl) rfl (by first|exact Nat.le_of_eq zW|(simp only [zW,yE]; omega)) (zO (fun _ hj=>z3 (fun (t:Int)=>t) hj) zP) zE)) (fun c5 h=>zF h))) (fun c4 h=>zU hR _ h (fun n=>n) rfl rfl rfl (zZ (zC rfl) rfl rfl) rfl (zL (zC rfl) rfl (Nat.le_of_eq rfl) (zO (fun _ _=>rfl) zP) zE))) (fun c3 h=>zF h)) (fun c2 h=>zF h)) (fun c1 h=>zF h)) (fun c0 h=>zU hR _ h (fun n=>n) rfl rfl rfl (zZ (zC rfl) rfl rfl) rfl (zL (zC rfl) rfl (Nat.le_of_eq rfl) (zO (fun _ _=>rfl) zP) zE))
end
noncomputable def k65:Con:=⟨120,[.one (.own [.int .i64])],w69 (fun np mp tp=>decide (np≤1000000)),w69 (fun np mp tp=>(V65) (S.trim (S.fJ np tp))),w69 (fun np mp tp=>(N65) (S.trim (S.fJ np tp))),w69 (fun np mp tp=>(W65 np mp tp) (S.trim (S.fJ np tp)))⟩
theorem s65' (np mp:Nat) (tp:Nat→Int): ∀ (n:Nat) (L:List Int),L.length=n→n≤1000000→Comes (q65 np mp tp) (.h0 L) (S.trim L):=s69' np mp tp
theorem s65 (np mp:Nat) (tp:Nat→Int) (hp:np≤1000000):zX ((q65 np mp tp)) ((p65 np mp tp)) (S.trim (S.fJ np tp)):=s69 np mp tp hp
theorem k65_ok:k65.ok Tryz.prog:=by
 intro x hx
 obtain ⟨⟨np,mp,tp,_⟩,_⟩:=x
 obtain ⟨h1,h2⟩:=a65 np mp tp (s65 np mp tp (zo hx rfl))
 exact ⟨⟨400,(by decide:1+1+0≤400),h1⟩,h2⟩
section
variable (g9:TT) (fA:KS) (fC:KR) (ap np mp:Nat) (tp:NI)
abbrev St65v:=St69v
abbrev Rt65v:=Nat×Nat
noncomputable def V65v (r:Rt65v):PV:= .loose (PA.mk 0 1 r.1 0) r.2
noncomputable def N65v (r:Rt65v):List Blk:= []
noncomputable def I65v:St65v→Hd
  | .h0 x0 x1=>⟨hd Tryz.f120 0,[.loose ⟨0,1,x0,0⟩ x1],[[],[(0,(false,CB mp tp))]],1⟩
noncomputable def q65v (ap np mp:Nat) (tp:NI):St65v→Option (St65v⊕Rt65v):=q69v ap np mp tp
noncomputable def p65v (ap np mp:Nat) (tp:NI):Option (St65v⊕Rt65v):=p69v ap np mp tp
def Te65v:Prop:=fA (hd Tryz.f120 0) ([.loose ⟨0,1,ap,0⟩ np]) ([[(0,false,CB mp tp)]]) 1
theorem te65v:run g9 Tryz.env true noX true 400 ⟨120,[.cd (zS Tryz.f120).body],yD 0 [.loose ⟨0,1,ap,0⟩ np],[[],[(0,(false,CB mp tp))]],1⟩ (zq 1 [0] fA fC)=
 Te65v fA ap np mp tp:=by kernel_rfl
def T65v_0 (x0 x1:Nat):Prop:=g9 (decide ((x1:Int)>0)) (g9 (lim .i64 ((x1:Int)-1)) (g9 (decide ((0:Int)≤(x1:Int)-1∧(x1:Int)-1<(x1:Int))) (g9 (decide (((x1:Int)-1).toNat+x0<mp)) (g9 (tp (((x1:Int)-1).toNat+x0)==0) (g9 (lim .i64 ((x1:Int)-1)) (g9 (decide ((0:Int)≤Option.getD Option.none (0:Int)∧(0:Int)≤(x1:Int)-1∧(x1:Int)-1≤(x1:Int))) (fA (hd Tryz.f120 0) ([.loose (PA.mk 0 1 (0+x0) 0) ((x1:Int)-1).toNat]) ([[(0,false,CB mp tp)]]) 1) False) False) (fC (.loose ⟨0,1,x0,0⟩ x1) ([[(0,false,CB mp tp)]]) 1)) False) False) False) (fC (.loose ⟨0,1,x0,0⟩ x1) ([[(0,false,CB mp tp)]]) 1)
theorem t65v_0 (x0 x1:Nat):run g9 Tryz.env true noX true 400 ⟨120,hd Tryz.f120 0,yc [0] [.loose ⟨0,1,x0,0⟩ x1],[[],[(0,(false,CB mp tp))]],1⟩ (zq 1 [0] fA fC)=
 T65v_0 g9 fA fC mp tp x0 x1:=by kernel_rfl
noncomputable abbrev J65v:Rt65v→zQ:=fun r=> [yJ (1+1) ((N65v) r)++ [(0,(false,CB mp tp))]]
attribute [local irreducible] Int.subNatNat in
theorem a65v {r:Rt65v} (h:zX ((q65v ap np mp tp)) ((p65v ap np mp tp)) r):zn Tryz.prog 120 [.loose ⟨0,1,ap,0⟩ np] [[(0,(false,CB mp tp))]] 1 ((V65v) r) ((J65v mp tp) r) 400∧HB Tryz.prog 120:=by
 refine zf Tryz.envOk Tryz.mixed y3 ((I65v mp tp)) ((V65v)) (J65v mp tp) (fn:=zS Tryz.f120) (ts:= [0]) (n:=400) rfl (by decide) (by simp) (zV rfl) ?_ ?_ ?_ h
 · intro s; cases s<;>exact ⟨ym _ _,by simp [I65v],zV rfl,Nat.le_of_ble_eq_true rfl⟩
 · intro fA fC x hS hR h
   refine Holds.eq (te65v cond fA fC ap np mp tp) ?_
   unfold Te65v
   exact zb hS _ h (fun n=>n) rfl rfl rfl ⟨(zM (zC rfl) rfl rfl rfl),trivial⟩ rfl (zB (zC rfl) rfl rfl zE)
 · intro fA fC x hS hR s h
   cases s with
   |h0 x0 x1=>
    refine Holds.eq (t65v_0 cond fA fC mp tp x0 x1) ?_
    unfold T65v_0
    rw [q65v,q69v] at h
    exact zA h (fun c0 h=>zA h (fun c1 h=>zA h (fun c2 h=>zA h (fun c3 h=>zA h (fun c4 h=>zJ c1 (zA h (fun c5 h=>zb hS _ h (fun n=>n) rfl rfl rfl ⟨(zM (zC rfl) rfl rfl rfl),trivial⟩ rfl (zB (zC rfl) rfl rfl zE)) (fun c5 h=>zF h))) (fun c4 h=>zU hR _ h (fun n=>n) rfl rfl rfl (zM (zC rfl) rfl rfl rfl) rfl (zB (zC rfl) rfl rfl zE))) (fun c3 h=>zF h)) (fun c2 h=>zF h)) (fun c1 h=>zF h)) (fun c0 h=>zU hR _ h (fun n=>n) rfl rfl rfl (zM (zC rfl) rfl rfl rfl) rfl (zB (zC rfl) rfl rfl zE))
end
noncomputable def k65v:Con:=⟨120,[.one (.list [.int .i64])],w69v (fun ap np mp tp=>decide (ap+np≤mp∧np≤1000000)),w69v (fun ap np mp tp=>(V65v) ((ap,S.fe np (FS tp ap)))),w69v (fun ap np mp tp=>(N65v) ((ap,S.fe np (FS tp ap)))),fun _ _=> .dead⟩
theorem s65v' (ap np mp:Nat) (tp:Nat→Int) (hp:ap+np≤mp∧np≤1000000): ∀ (n:Nat),n≤np→Comes (q65v ap np mp tp) (.h0 ap n) (ap,S.fe n (fun j=>tp (j+ap))):=s69v' ap np mp tp hp
theorem s65v (ap np mp:Nat) (tp:Nat→Int) (hp:ap+np≤mp∧np≤1000000):zX ((q65v ap np mp tp)) ((p65v ap np mp tp)) ((ap,S.fe np (fun j=>tp (j+ap)))):=s69v ap np mp tp hp
theorem k65v_ok:k65v.ok Tryz.prog:=by
 intro x hx
 obtain ⟨⟨ap,np,mp,tp,_⟩,_⟩:=x
 obtain ⟨h1,h2⟩:=a65v ap np mp tp (s65v ap np mp tp (zo hx rfl))
 exact ⟨⟨400,(by decide:1+1+0≤400),h1⟩,h2⟩
section
variable (g9:TT) (fA:KS) (fC:KR) (ap np mp:Nat) (tp:NI) (aq nq mq:Nat) (tq:NI)
inductive St60 where
 |h0 (x0:Int)
abbrev Rt60:=Int
noncomputable def V60 (r:Rt60):PV:= .int .i64 r
noncomputable def N60 (r:Rt60):List Blk:= []
noncomputable def I60:St60→Hd
  | .h0 x0=>⟨hd Tryz.f113 0,[.loose ⟨0,1,ap,0⟩ np,
 .loose ⟨1,1,aq,0⟩ nq,.int .i64 x0],[[],[(0,(false,CB mp tp)),(1,(false,CB mq tq))]],2⟩
noncomputable def q60 (ap np mp:Nat) (tp:NI) (aq nq mq:Nat) (tq:NI):St60→Option (St60⊕Rt60)| .h0 x0=>bif (decide (x0≥0)) then (bif (decide ((0:Int)≤x0∧x0<(np:Int))) then (bif (decide (x0.toNat+ap<mp)) then (bif (decide ((0:Int)≤x0∧x0<(nq:Int))) then (bif (decide (x0.toNat+aq<mq)) then (bif (decide (tp (x0.toNat+ap)<tq (x0.toNat+aq))) then (some (.inr ((-1:Int)))) else (bif (decide (tp (x0.toNat+ap)>tq (x0.toNat+aq))) then (some (.inr ((1:Int)))) else (bif (lim .i64 (x0-1)) then (some (.inl (.h0 (x0-1)))) else none))) else none) else none) else none) else none) else (some (.inr ((0:Int))))
noncomputable def p60 (ap np mp:Nat) (tp:NI) (aq nq mq:Nat) (tq:NI):Option (St60⊕Rt60):=bif ((np:Int) != (nq:Int)) then (bif (decide ((np:Int)<(nq:Int))) then (some (.inr ((-1:Int)))) else (some (.inr ((1:Int))))) else (bif (lim .i64 ((np:Int)-1)) then (some (.inl (.h0 ((np:Int)-1)))) else none)
def Te60:Prop:=g9 ((np:Int) != (nq:Int)) (g9 (decide ((np:Int)<(nq:Int))) (fC (.int .i64 (-1:Int)) ([[(1,false,CB mq tq),(0,false,CB mp tp)]]) 2) (fC (.int .i64 1) ([[(1,false,CB mq tq),(0,false,CB mp tp)]]) 2)) (g9 (lim .i64 ((np:Int)-1)) (fA (hd Tryz.f113 0) ([.loose ⟨0,1,ap,0⟩ np,.loose ⟨1,1,aq,0⟩ nq,.int .i64 ((np:Int)-1)]) ([[(1,false,CB mq tq),(0,false,CB mp tp)]]) 2) False)
theorem te60:run g9 Tryz.env true noX true 400 ⟨113,[.cd (zS Tryz.f113).body],yD 0 [.loose ⟨0,1,ap,0⟩ np,.loose ⟨1,1,aq,0⟩ nq],[[],[(0,(false,CB mp tp)),(1,(false,CB mq tq))]],2⟩ (zq 2 [0,1,5] fA fC)=
 Te60 g9 fA fC ap np mp tp aq nq mq tq:=by kernel_rfl
noncomputable abbrev u60_0_0:=([[(1,false,Blk.cols mq [Col.int IntKind.i64 tq]),(0,false,Blk.cols mp [Col.int IntKind.i64 tp])]])
def T60_0 (x0:Int):Prop:=g9 (decide (x0≥0)) (g9 (decide ((0:Int)≤x0∧x0<(np:Int))) (g9 (decide (x0.toNat+ap<mp)) (g9 (decide ((0:Int)≤x0∧x0<(nq:Int))) (g9 (decide (x0.toNat+aq<mq)) (g9 (decide (tp (x0.toNat+ap)<tq (x0.toNat+aq))) (fC (.int .i64 (-1:Int)) (u60_0_0 mp tp mq tq) 2) (g9 (decide ((0:Int)≤x0∧x0<(np:Int))) (g9 (decide (x0.toNat+ap<mp)) (g9 (decide ((0:Int)≤x0∧x0<(nq:Int))) (g9 (decide (x0.toNat+aq<mq)) (g9 (decide (tp (x0.toNat+ap)>tq (x0.toNat+aq))) (fC (.int .i64 1) (u60_0_0 mp tp mq tq) 2) (g9 (lim .i64 (x0-1)) (fA (hd Tryz.f113 0) ([.loose ⟨0,1,ap,0⟩ np,.loose ⟨1,1,aq,0⟩ nq,.int .i64 (x0-1)]) (u60_0_0 mp tp mq tq) 2) False)) False) False) False) False)) False) False) False) False) (fC (.int .i64 0) (u60_0_0 mp tp mq tq) 2)
theorem t60_0 (x0:Int):run g9 Tryz.env true noX true 400 ⟨113,hd Tryz.f113 0,yc [0,1,5] [.loose ⟨0,1,ap,0⟩ np,
 .loose ⟨1,1,aq,0⟩ nq,.int .i64 x0],[[],[(0,(false,CB mp tp)),(1,(false,CB mq tq))]],2⟩ (zq 2 [0,1,5] fA fC)=
  T60_0 g9 fA fC ap np mp tp aq nq mq tq x0:=by kernel_rfl
noncomputable abbrev J60:Rt60→zQ:=fun r=> [yJ (2+1) ((N60) r)++ [(0,(false,CB mp tp)),(1,(false,CB mq tq))]]
attribute [local irreducible] Int.subNatNat in
theorem a60 {r:Rt60} (h:zX ((q60 ap np mp tp aq nq mq tq)) ((p60 ap np mp tp aq nq mq tq)) r):zn Tryz.prog 113 [.loose ⟨0,1,ap,0⟩ np,.loose ⟨1,1,aq,0⟩ nq] [[(0,(false,CB mp tp)),(1,(false,CB mq tq))]] 2 ((V60) r) ((J60 mp tp mq tq) r) 400∧HB Tryz.prog 113:=by
 refine zf Tryz.envOk Tryz.mixed y3 ((I60 ap np mp tp aq nq mq tq)) ((V60)) (J60 mp tp mq tq) (fn:=zS Tryz.f113) (ts:= [0,1,5]) (n:=400) rfl (by decide) (by simp) (zV rfl) ?_ ?_ ?_ h
 · intro s; cases s<;>exact ⟨ym _ _,by simp [I60],zV rfl,Nat.le_of_ble_eq_true rfl⟩
 · intro fA fC x hS hR h
   refine Holds.eq (te60 cond fA fC ap np mp tp aq nq mq tq) ?_
   unfold Te60
   unfold p60 at h
   exact zA h (fun c0 h=>zA h (fun c1 h=>zU hR _ h (fun n=>n) rfl rfl rfl (zH rfl) rfl (zB (zC rfl) rfl rfl (zB (zC rfl) rfl rfl zE))) (fun c1 h=>zU hR _ h (fun n=>n) rfl rfl rfl (zH rfl) rfl (zB (zC rfl) rfl rfl (zB (zC rfl) rfl rfl zE)))) (fun c0 h=>zA h (fun c1 h=>zb hS _ h (fun n=>n) rfl rfl rfl ⟨(zM (zC rfl) rfl rfl rfl),⟨(zM (zC rfl) rfl rfl rfl),⟨(zH rfl),trivial⟩⟩⟩ rfl (zB (zC rfl) rfl rfl (zB (zC rfl) rfl rfl zE))) (fun c1 h=>zF h))
 · intro fA fC x hS hR s h
   cases s with
   |h0 x0=>
    refine Holds.eq (t60_0 cond fA fC ap np mp tp aq nq mq tq x0) ?_
    unfold T60_0
    rw [q60] at h
    exact zA h (fun c0 h=>zA h (fun c1 h=>zA h (fun c2 h=>zA h (fun c3 h=>zA h (fun c4 h=>zA h (fun c5 h=>zU hR _ h (fun n=>n) rfl rfl rfl (zH rfl) rfl (zB (zC rfl) rfl rfl (zB (zC rfl) rfl rfl zE))) (fun c5 h=>zJ c1 (zJ c2 (zJ c3 (zJ c4 (zA h (fun c6 h=>zU hR _ h (fun n=>n) rfl rfl rfl (zH rfl) rfl (zB (zC rfl) rfl rfl (zB (zC rfl) rfl rfl zE))) (fun c6 h=>zA h (fun c7 h=>zb hS _ h (fun n=>n) rfl rfl rfl ⟨(zM (zC rfl) rfl rfl rfl),⟨(zM (zC rfl) rfl rfl rfl),⟨(zH rfl),trivial⟩⟩⟩ rfl (zB (zC rfl) rfl rfl (zB (zC rfl) rfl rfl zE))) (fun c7 h=>zF h)))))))) (fun c4 h=>zF h)) (fun c3 h=>zF h)) (fun c2 h=>zF h)) (fun c1 h=>zF h)) (fun c0 h=>zU hR _ h (fun n=>n) rfl rfl rfl (zH rfl) rfl (zB (zC rfl) rfl rfl (zB (zC rfl) rfl rfl zE)))
end
noncomputable abbrev w60 {α:Type} (g:Nat→Nat→Nat→(Nat→Int)→Nat→Nat→Nat→(Nat→Int)→α) (x:(Nat×Nat×Nat×(Nat→Int)×Unit)×(Nat×Nat×Nat×(Nat→Int)×Unit)×Unit):α:=g x.1.1 x.1.2.1 x.1.2.2.1 x.1.2.2.2.1 x.2.1.1 x.2.1.2.1 x.2.1.2.2.1 x.2.1.2.2.2.1
noncomputable def k60:Con:=⟨113,[.one (.list [.int .i64]),.one (.list [.int .i64])],w60 (fun ap np mp tp aq nq mq tq=>decide (ap+np≤mp∧np≤1000000∧aq+nq≤mq∧nq≤1000000∧S.fF np (FS tp ap)=true∧S.fF nq (FS tq aq)=true)),w60 (fun ap np mp tp aq nq mq tq=>(V60) (S.fV (S.val np (FS tp ap)) (S.val nq (FS tq aq)))),w60 (fun ap np mp tp aq nq mq tq=>(N60) (S.fV (S.val np (FS tp ap)) (S.val nq (FS tq aq)))),fun _ _=> .dead⟩
theorem s60' (ap np mp:Nat) (tp:Nat→Int) (aq nq mq:Nat) (tq:Nat→Int) (hp:ap+np≤mp∧np≤1000000∧aq+nq≤mq∧nq≤1000000∧S.fF np (fun j=>tp (j+ap))=true∧S.fF nq (fun j=>tq (j+aq))=true) (hn:np=nq): ∀ (i:Nat),i≤np→S.fD (fun j=>tp (j+ap)) i (np-i)=S.fD (fun j=>tq (j+aq)) i (np-i)→Comes (q60 ap np mp tp aq nq mq tq) (.h0 ((i:Int)-1)) (S.fV (S.val np (fun j=>tp (j+ap))) (S.val nq (fun j=>tq (j+aq)))):=by
 obtain ⟨hp1,hp2,hp3,hp4,g1,g2⟩:=hp
 subst hn
 have d1:=(zl.mp g1).1
 have d2:=(zl.mp g2).1
 intro i
 induction i with
 | zero=>
  intro hi he
  have e:S.fV (S.val np (fun j=>tp (j+ap))) (S.val np (fun j=>tq (j+aq)))=0:=by
   have he:S.val np (fun j=>tp (j+ap))=S.val np (fun j=>tq (j+aq)):=he
   rw [he]
   unfold S.fV
   rw [if_neg (by omega),if_neg (by omega)]
  rw [e]
  apply Comes.of
  show zX _ _ _
  (first|rw [q60]|unfold q60)
  repeat' (first|with_reducible refine zN (fun h=> ?_) (fun h=> ?_)<;>(try simp only [SH] at h)|exact zI.mpr (by omega))
  all_goals first|(exfalso; omega)|exact zG.mpr rfl
 | succ i ih=>
  intro hi he
  have ih:=ih (by omega)
  have e1:(((i+1:Nat):Int)-1)=i:=by omega
  rw [e1]
  have s1:S.fD (fun j=>tp (j+ap)) i (np-i)=tp (i+ap)+1000000*S.fD (fun j=>tp (j+ap)) (i+1) (np-(i+1)):=by rw [show np-i=(np-(i+1))+1 by omega]; rfl
  have s2:S.fD (fun j=>tq (j+aq)) i (np-i)=tq (i+aq)+1000000*S.fD (fun j=>tq (j+aq)) (i+1) (np-(i+1)):=by rw [show np-i=(np-(i+1))+1 by omega]; rfl
  rw [s1,s2,he] at ih
  have l1:=wZ d1 d2 (i:=i) (k:=np-i) (by omega)
  have l2:=wZ d2 d1 (i:=i) (k:=np-i) (by omega)
  rw [s1,s2,he] at l1 l2
  unfold S.fV at*
  generalize S.fD (fun j=>tq (j+aq)) (i+1) (np-(i+1))=v at*
  apply Comes.of
  show zX _ _ _
  (first|rw [q60]|unfold q60)
  repeat' (first|with_reducible refine zN (fun h=> ?_) (fun h=> ?_)<;>(try simp only [SH] at h)|exact zI.mpr (by omega))
  all_goals first
    |(exfalso; omega)
    |exact ih (by omega)
    |(rw [if_pos (by omega)]; exact zG.mpr rfl)
    |(rw [if_neg (by omega),if_pos (by omega)]; exact zG.mpr rfl)
theorem s60 (ap np mp:Nat) (tp:Nat→Int) (aq nq mq:Nat) (tq:Nat→Int) (hp:ap+np≤mp∧np≤1000000∧aq+nq≤mq∧nq≤1000000∧S.fF np (fun j=>tp (j+ap))=true∧S.fF nq (fun j=>tq (j+aq))=true):zX ((q60 ap np mp tp aq nq mq tq)) ((p60 ap np mp tp aq nq mq tq)) (S.fV (S.val np (fun j=>tp (j+ap))) (S.val nq (fun j=>tq (j+aq)))):=by
 by_cases hn:np=nq
 · have hm:=s60' ap np mp tp aq nq mq tq hp hn np (Nat.le_refl _) (by rw [Nat.sub_self]; rfl)
   show zX _ _ _
   unfold p60
   repeat' (first|with_reducible refine zN (fun h=> ?_) (fun h=> ?_)<;>(try simp only [SH] at h)|exact zI.mpr (by omega))
   all_goals first|(exfalso; omega)|exact hm
 · obtain ⟨hp1,hp2,hp3,hp4,g1,g2⟩:=hp
   rcases Nat.lt_or_gt_of_ne hn with h|h
   · have hv:=vc h g1 g2
     unfold S.fV
     rw [if_pos hv]
     show zX _ _ _
     unfold p60
     repeat' (first|with_reducible refine zN (fun h=> ?_) (fun h=> ?_)<;>(try simp only [SH] at h)|exact zI.mpr (by omega))
     all_goals first|(exfalso; omega)|exact zG.mpr rfl
   · have hv:=vc h g2 g1
     unfold S.fV
     rw [if_neg (by omega),if_pos hv]
     show zX _ _ _
     unfold p60
     repeat' (first|with_reducible refine zN (fun h=> ?_) (fun h=> ?_)<;>(try simp only [SH] at h)|exact zI.mpr (by omega))
     all_goals first|(exfalso; omega)|exact zG.mpr rfl
theorem k60_ok:k60.ok Tryz.prog:=by
 intro x hx
 obtain ⟨⟨ap,np,mp,tp,_⟩,⟨aq,nq,mq,tq,_⟩,_⟩:=x
 obtain ⟨h1,h2⟩:=a60 ap np mp tp aq nq mq tq (s60 ap np mp tp aq nq mq tq (zo hx rfl))
 exact ⟨⟨400,(by decide:2+1+0≤400),h1⟩,h2⟩
section
variable (g9:TT) (fA:KS) (fC:KR) (ap np mp:Nat) (tp:NI) (aq nq mq:Nat) (tq:NI)
inductive St61 where
 |h0 (x0:Int)
abbrev Rt61:=Int
noncomputable def V61 (r:Rt61):PV:= .int .i64 r
noncomputable def N61 (r:Rt61):List Blk:= []
noncomputable def I61:St61→Hd
  | .h0 x0=>⟨hd Tryz.f119 0,[.loose ⟨0,1,ap,0⟩ np,
 .loose ⟨1,1,aq,0⟩ nq,.int .i64 x0],[[],[(0,(false,CB mp tp)),(1,(false,CB mq tq))]],2⟩
noncomputable def q61 (ap np mp:Nat) (tp:NI) (aq nq mq:Nat) (tq:NI):St61→Option (St61⊕Rt61)| .h0 x0=>bif (decide (x0≥0)) then (bif (decide ((0:Int)≤x0∧x0<(np:Int))) then (bif (decide (x0.toNat+ap<mp)) then (bif (decide ((0:Int)≤x0∧x0<(nq:Int))) then (bif (decide (x0.toNat+aq<mq)) then (bif (decide (tp (x0.toNat+ap)<tq (x0.toNat+aq))) then (some (.inr ((-1:Int)))) else (bif (decide (tp (x0.toNat+ap)>tq (x0.toNat+aq))) then (some (.inr ((1:Int)))) else (bif (lim .i64 (x0-1)) then (some (.inl (.h0 (x0-1)))) else none))) else none) else none) else none) else none) else (some (.inr ((0:Int))))
noncomputable def p61 (ap np mp:Nat) (tp:NI) (aq nq mq:Nat) (tq:NI):Option (St61⊕Rt61):=bif (decide ((np:Int)<(nq:Int))) then (some (.inr ((-1:Int)))) else (bif (decide ((np:Int)>(nq:Int))) then (some (.inr ((1:Int)))) else (bif (lim .i64 ((np:Int)-1)) then (some (.inl (.h0 ((np:Int)-1)))) else none))
def Te61:Prop:=g9 (decide ((np:Int)<(nq:Int))) (fC (.int .i64 (-1:Int)) ([[(1,false,CB mq tq),(0,false,CB mp tp)]]) 2) (g9 (decide ((np:Int)>(nq:Int))) (fC (.int .i64 1) ([[(1,false,CB mq tq),(0,false,CB mp tp)]]) 2) (g9 (lim .i64 ((np:Int)-1)) (fA (hd Tryz.f119 0) ([.loose ⟨0,1,ap,0⟩ np,.loose ⟨1,1,aq,0⟩ nq,.int .i64 ((np:Int)-1)]) ([[(1,false,CB mq tq),(0,false,CB mp tp)]]) 2) False))
theorem te61:run g9 Tryz.env true noX true 400 ⟨119,[.cd (zS Tryz.f119).body],yD 0 [.loose ⟨0,1,ap,0⟩ np,.loose ⟨1,1,aq,0⟩ nq],[[],[(0,(false,CB mp tp)),(1,(false,CB mq tq))]],2⟩ (zq 2 [0,1,5] fA fC)=
 Te61 g9 fA fC ap np mp tp aq nq mq tq:=by kernel_rfl
noncomputable abbrev u61_0_0:=([[(1,false,Blk.cols mq [Col.int IntKind.i64 tq]),(0,false,Blk.cols mp [Col.int IntKind.i64 tp])]])
def T61_0 (x0:Int):Prop:=g9 (decide (x0≥0)) (g9 (decide ((0:Int)≤x0∧x0<(np:Int))) (g9 (decide (x0.toNat+ap<mp)) (g9 (decide ((0:Int)≤x0∧x0<(nq:Int))) (g9 (decide (x0.toNat+aq<mq)) (g9 (decide (tp (x0.toNat+ap)<tq (x0.toNat+aq))) (fC (.int .i64 (-1:Int)) (u61_0_0 mp tp mq tq) 2) (g9 (decide ((0:Int)≤x0∧x0<(np:Int))) (g9 (decide (x0.toNat+ap<mp)) (g9 (decide ((0:Int)≤x0∧x0<(nq:Int))) (g9 (decide (x0.toNat+aq<mq)) (g9 (decide (tp (x0.toNat+ap)>tq (x0.toNat+aq))) (fC (.int .i64 1) (u61_0_0 mp tp mq tq) 2) (g9 (lim .i64 (x0-1)) (fA (hd Tryz.f119 0) ([.loose ⟨0,1,ap,0⟩ np,.loose ⟨1,1,aq,0⟩ nq,.int .i64 (x0-1)]) (u61_0_0 mp tp mq tq) 2) False)) False) False) False) False)) False) False) False) False) (fC (.int .i64 0) (u61_0_0 mp tp mq tq) 2)
theorem t61_0 (x0:Int):run g9 Tryz.env true noX true 400 ⟨119,hd Tryz.f119 0,yc [0,1,5] [.loose ⟨0,1,ap,0⟩ np,
 .loose ⟨1,1,aq,0⟩ nq,.int .i64 x0],[[],[(0,(false,CB mp tp)),(1,(false,CB mq tq))]],2⟩ (zq 2 [0,1,5] fA fC)=
  T61_0 g9 fA fC ap np mp tp aq nq mq tq x0:=by kernel_rfl
noncomputable abbrev J61:Rt61→zQ:=fun r=> [yJ (2+1) ((N61) r)++ [(0,(false,CB mp tp)),(1,(false,CB mq tq))]]
attribute [local irreducible] Int.subNatNat in
theorem a61 {r:Rt61} (h:zX ((q61 ap np mp tp aq nq mq tq)) ((p61 ap np mp tp aq nq mq tq)) r):zn Tryz.prog 119 [.loose ⟨0,1,ap,0⟩ np,.loose ⟨1,1,aq,0⟩ nq] [[(0,(false,CB mp tp)),(1,(false,CB mq tq))]] 2 ((V61) r) ((J61 mp tp mq tq) r) 400∧HB Tryz.prog 119:=by
 refine zf Tryz.envOk Tryz.mixed y3 ((I61 ap np mp tp aq nq mq tq)) ((V61)) (J61 mp tp mq tq) (fn:=zS Tryz.f119) (ts:= [0,1,5]) (n:=400) rfl (by decide) (by simp) (zV rfl) ?_ ?_ ?_ h
 · intro s; cases s<;>exact ⟨ym _ _,by simp [I61],zV rfl,Nat.le_of_ble_eq_true rfl⟩
 · intro fA fC x hS hR h
   refine Holds.eq (te61 cond fA fC ap np mp tp aq nq mq tq) ?_
   unfold Te61
   unfold p61 at h
   exact zA h (fun c0 h=>zU hR _ h (fun n=>n) rfl rfl rfl (zH rfl) rfl (zB (zC rfl) rfl rfl (zB (zC rfl) rfl rfl zE))) (fun c0 h=>zA h (fun c1 h=>zU hR _ h (fun n=>n) rfl rfl rfl (zH rfl) rfl (zB (zC rfl) rfl rfl (zB (zC rfl) rfl rfl zE))) (fun c1 h=>zA h (fun c2 h=>zb hS _ h (fun n=>n) rfl rfl rfl ⟨(zM (zC rfl) rfl rfl rfl),⟨(zM (zC rfl) rfl rfl rfl),⟨(zH rfl),trivial⟩⟩⟩ rfl (zB (zC rfl) rfl rfl (zB (zC rfl) rfl rfl zE))) (fun c2 h=>zF h)))
 · intro fA fC x hS hR s h
   cases s with
   |h0 x0=>
    refine Holds.eq (t61_0 cond fA fC ap np mp tp aq nq mq tq x0) ?_
    unfold T61_0
    rw [q61] at h
    exact zA h (fun c0 h=>zA h (fun c1 h=>zA h (fun c2 h=>zA h (fun c3 h=>zA h (fun c4 h=>zA h (fun c5 h=>zU hR _ h (fun n=>n) rfl rfl rfl (zH rfl) rfl (zB (zC rfl) rfl rfl (zB (zC rfl) rfl rfl zE))) (fun c5 h=>zJ c1 (zJ c2 (zJ c3 (zJ c4 (zA h (fun c6 h=>zU hR _ h (fun n=>n) rfl rfl rfl (zH rfl) rfl (zB (zC rfl) rfl rfl (zB (zC rfl) rfl rfl zE))) (fun c6 h=>zA h (fun c7 h=>zb hS _ h (fun n=>n) rfl rfl rfl ⟨(zM (zC rfl) rfl rfl rfl),⟨(zM (zC rfl) rfl rfl rfl),⟨(zH rfl),trivial⟩⟩⟩ rfl (zB (zC rfl) rfl rfl (zB (zC rfl) rfl rfl zE))) (fun c7 h=>zF h)))))))) (fun c4 h=>zF h)) (fun c3 h=>zF h)) (fun c2 h=>zF h)) (fun c1 h=>zF h)) (fun c0 h=>zU hR _ h (fun n=>n) rfl rfl rfl (zH rfl) rfl (zB (zC rfl) rfl rfl (zB (zC rfl) rfl rfl zE)))
end
noncomputable def k61:Con:=⟨119,[.one (.list [.int .i64]),.one (.list [.int .i64])],w60 (fun ap np mp tp aq nq mq tq=>decide (ap+np≤mp∧np≤1000000∧aq+nq≤mq∧nq≤1000000∧S.fF np (FS tp ap)=true∧S.fF nq (FS tq aq)=true)),w60 (fun ap np mp tp aq nq mq tq=>(V61) (S.fV (S.val np (FS tp ap)) (S.val nq (FS tq aq)))),w60 (fun ap np mp tp aq nq mq tq=>(N61) (S.fV (S.val np (FS tp ap)) (S.val nq (FS tq aq)))),fun _ _=> .dead⟩
theorem s61' (ap np mp:Nat) (tp:Nat→Int) (aq nq mq:Nat) (tq:Nat→Int) (hp:ap+np≤mp∧np≤1000000∧aq+nq≤mq∧nq≤1000000∧S.fF np (fun j=>tp (j+ap))=true∧S.fF nq (fun j=>tq (j+aq))=true) (hn:np=nq): ∀ (i:Nat),i≤np→S.fD (fun j=>tp (j+ap)) i (np-i)=S.fD (fun j=>tq (j+aq)) i (np-i)→Comes (q61 ap np mp tp aq nq mq tq) (.h0 ((i:Int)-1)) (S.fV (S.val np (fun j=>tp (j+ap))) (S.val nq (fun j=>tq (j+aq)))):=by
 obtain ⟨hp1,hp2,hp3,hp4,g1,g2⟩:=hp
 subst hn
 have d1:=(zl.mp g1).1
 have d2:=(zl.mp g2).1
 intro i
 induction i with
 | zero=>
  intro hi he
  have e:S.fV (S.val np (fun j=>tp (j+ap))) (S.val np (fun j=>tq (j+aq)))=0:=by
   have he:S.val np (fun j=>tp (j+ap))=S.val np (fun j=>tq (j+aq)):=he
   rw [he]
   unfold S.fV
   rw [if_neg (by omega),if_neg (by omega)]
  rw [e]
  apply Comes.of
  show zX _ _ _
  (first|rw [q61]|unfold q61)
  repeat' (first|with_reducible refine zN (fun h=> ?_) (fun h=> ?_)<;>(try simp only [SH] at h)|exact zI.mpr (by omega))
  all_goals first|(exfalso; omega)|exact zG.mpr rfl
 | succ i ih=>
  intro hi he
  have ih:=ih (by omega)
  have e1:(((i+1:Nat):Int)-1)=i:=by omega
  rw [e1]
  have s1:S.fD (fun j=>tp (j+ap)) i (np-i)=tp (i+ap)+1000000*S.fD (fun j=>tp (j+ap)) (i+1) (np-(i+1)):=by rw [show np-i=(np-(i+1))+1 by omega]; rfl
  have s2:S.fD (fun j=>tq (j+aq)) i (np-i)=tq (i+aq)+1000000*S.fD (fun j=>tq (j+aq)) (i+1) (np-(i+1)):=by rw [show np-i=(np-(i+1))+1 by omega]; rfl
  rw [s1,s2,he] at ih
  have l1:=wZ d1 d2 (i:=i) (k:=np-i) (by omega)
  have l2:=wZ d2 d1 (i:=i) (k:=np-i) (by omega)
  rw [s1,s2,he] at l1 l2
  unfold S.fV at*
  generalize S.fD (fun j=>tq (j+aq)) (i+1) (np-(i+1))=v at*
  apply Comes.of
  show zX _ _ _
  (first|rw [q61]|unfold q61)
  repeat' (first|with_reducible refine zN (fun h=> ?_) (fun h=> ?_)<;>(try simp only [SH] at h)|exact zI.mpr (by omega))
  all_goals first
    |(exfalso; omega)
    |exact ih (by omega)
    |(rw [if_pos (by omega)]; exact zG.mpr rfl)
    |(rw [if_neg (by omega),if_pos (by omega)]; exact zG.mpr rfl)
theorem s61 (ap np mp:Nat) (tp:Nat→Int) (aq nq mq:Nat) (tq:Nat→Int) (hp:ap+np≤mp∧np≤1000000∧aq+nq≤mq∧nq≤1000000∧S.fF np (fun j=>tp (j+ap))=true∧S.fF nq (fun j=>tq (j+aq))=true):zX ((q61 ap np mp tp aq nq mq tq)) ((p61 ap np mp tp aq nq mq tq)) (S.fV (S.val np (fun j=>tp (j+ap))) (S.val nq (fun j=>tq (j+aq)))):=by
 by_cases hn:np=nq
 · have hm:=s61' ap np mp tp aq nq mq tq hp hn np (Nat.le_refl _) (by rw [Nat.sub_self]; rfl)
   show zX _ _ _
   unfold p61
   repeat' (first|with_reducible refine zN (fun h=> ?_) (fun h=> ?_)<;>(try simp only [SH] at h)|exact zI.mpr (by omega))
   all_goals first|(exfalso; omega)|exact hm
 · obtain ⟨hp1,hp2,hp3,hp4,g1,g2⟩:=hp
   rcases Nat.lt_or_gt_of_ne hn with h|h
   · have hv:=vc h g1 g2
     unfold S.fV
     rw [if_pos hv]
     show zX _ _ _
     unfold p61
     repeat' (first|with_reducible refine zN (fun h=> ?_) (fun h=> ?_)<;>(try simp only [SH] at h)|exact zI.mpr (by omega))
     all_goals first|(exfalso; omega)|exact zG.mpr rfl
   · have hv:=vc h g2 g1
     unfold S.fV
     rw [if_neg (by omega),if_pos hv]
     show zX _ _ _
     unfold p61
     repeat' (first|with_reducible refine zN (fun h=> ?_) (fun h=> ?_)<;>(try simp only [SH] at h)|exact zI.mpr (by omega))
     all_goals first|(exfalso; omega)|exact zG.mpr rfl
theorem k61_ok:k61.ok Tryz.prog:=by
 intro x hx
 obtain ⟨⟨ap,np,mp,tp,_⟩,⟨aq,nq,mq,tq,_⟩,_⟩:=x
 obtain ⟨h1,h2⟩:=a61 ap np mp tp aq nq mq tq (s61 ap np mp tp aq nq mq tq (zo hx rfl))
 exact ⟨⟨400,(by decide:2+1+0≤400),h1⟩,h2⟩
namespace S
def pw:Nat→Int
  |0=>1
  |k+1=>1000000*pw k
def ext (n:Nat) (t:Nat→Int) (j:Nat):Int:=if j<n then t j else 0
end S
theorem tdB {x:Int} (h:0≤x):Int.tdiv x 1000000=x / 1000000:=Int.tdiv_eq_ediv_of_nonneg h
theorem tmB {x:Int} (h:0≤x):Int.tmod x 1000000=x % 1000000:=Int.tmod_eq_emod_of_nonneg h
theorem limu {x:Int}:lim .u64 x=decide (0≤x∧x≤18446744073709551615):=rfl
theorem ub:S.fX 1= [1]:=by rw [xO (by decide),show (1:Int) % 1000000=1 from by decide,show (1:Int) / 1000000=0 from by decide,z8]
theorem wr64 {x:Int} (h:0≤x∧x<1000000):IntKind.i64.wrap x=x:=by rw [IntKind.wrap_i64]; omega
theorem nG {n:Nat} {t:Nat→Int} (h:S.fF n t=true) {i:Nat} (hi:i<n):0<S.fD t i (n-i):=by
 obtain ⟨h1,h2⟩:=zl.mp h
 exact wm (t:=t) (m:=0) (by omega) (fun j h1 h2=>by omega) (fun j _ hj=>h1 j (by omega)) (by rw [show i+(n-i)-1=n-1 by omega]; exact h2.resolve_left (by omega))
theorem uI {t:Nat→Int} {n i:Nat} (hi:i<n):S.fD t i (n-i)=t i+1000000*S.fD t (i+1) (n-(i+1)):=by
 rw [show n-i=(n-(i+1))+1 by omega]; rfl
theorem qo {n:Nat} {t:Nat→Int} (h: ∀ j,j<n→0≤t j∧t j<1000000) {i:Nat}:0≤S.fD t i (n-i):=by
 by_cases hi:i≤n
 · exact yI fun j h1 h2=>(h j (by omega)).1
 · rw [show n-i=0 by omega]; exact Int.le_refl _
theorem uS {n:Nat} {t:Nat→Int}: ∀ {k i:Nat},S.fD (S.ext n t) i k=S.fD t i (min k (n-i))
  |0,i=>by rw [Nat.zero_min]; rfl
  | k +1,i=>by
   simp only [S.fD]
   rw [uS]
   by_cases h:i<n
   · rw [show min (k+1) (n-i)=(min k (n-(i+1)))+1 by omega]
     simp only [S.fD,S.ext,if_pos h]
   · rw [show min (k+1) (n-i)=0 by omega,show min k (n-(i+1))=0 by omega]
     simp only [S.fD,S.ext,if_neg h]
     rfl
theorem vX {n:Nat} {t:Nat→Int} (h: ∀ j,j<n→0≤t j∧t j<1000000) (j:Nat):0≤S.ext n t j∧S.ext n t j<1000000:=by
 unfold S.ext
 split
 · rename_i hj; exact h j hj
 · omega
theorem yn {L D:List Int} {x:Int}:S.fI L x++D=L++(x::D):=by simp [S.fI]
theorem jc {L:List Int} {c:Int}:(S.fJ (L.length+1) fun j=>bif Nat.blt j L.length then S.at' L j else c)=L++ [c]:=by
 rw [uh,wB]
 congr 1
 · rw [xk (g:=S.at' L) fun j hj=>by rw [Nat.blt_eq.mpr hj,cond_true],wT]
 · rw [show Nat.blt L.length L.length=false by rw [Bool.eq_false_iff]; exact fun e=>absurd (Nat.blt_eq.mp e) (Nat.lt_irrefl _),cond_false]
theorem xA {x:Int} {D:List Int} (hx:0≤x∧x<1000000) (h: ∀ y ∈ D,0≤y∧y<1000000): ∀ y ∈ x::D,0≤y∧y<1000000:=fun y hy=>by
 rcases List.mem_cons.mp hy with rfl|hy
 · exact hx
 · exact h y hy
noncomputable def k45:Con:=⟨138,[.one (.list [.int .i64])],w69v (fun aa na ma ta=>decide (aa+na≤ma∧na≤1000000)),w69v (fun aa na ma ta=> .own 2 1 na),w69v (fun aa na ma ta=> [.cols na [.int .i64 (FS ta aa)]]),fun _ _=> .dead⟩
theorem e45s (g9:Bool→Prop→Prop→Prop) (fA:List It→List PV→zQ→Nat→Prop) (fC:PV→zQ→Nat→Prop) (aa na ma:Nat) (ta:Nat→Int):
  (run g9 Tryz.env true noX true 300 ⟨138,[.cd (zS Tryz.f138).body],yD 0 [.sl ⟨0,1,aa,0⟩ na],[[],[(0,(false,.cols ma [.int .i64 ta]))]],1⟩ (zq 1 [] fA fC))=
  (g9 (decide (0+na≤1000000))
  (g9 true
    (g9 (decide (aa+na≤ma))
      (fC (PV.own (2) (1) (0+na))
        [[(0,false,Blk.cols ma [Col.int IntKind.i64 ta]),
         (2,true,Blk.cols (0+na) [Col.int IntKind.i64 fun j=>ta (j+aa)])]]
        (3))
      False)
    False)
  False):=by kernel_rfl
theorem c45s (aa na ma:Nat) (ta:NI) (hp:aa+na≤ma∧na≤1000000) (h0:0<na):zn Tryz.prog 138 [.sl ⟨0,1,aa,0⟩ na] [[(0,(false,.cols ma [.int .i64 ta]))]] 1 (.own 2 1 na) [(2,(true,.cols na [.int .i64 (fun j=>ta (j+aa))])):: [(0,(false,.cols ma [.int .i64 ta]))]] 40∧ ∃ F,Tryz.prog.funcs[138]? =some F∧F.body.isSome=true∧(F.name== "runtime.NumGoroutine")=false:=by
 refine @pn _ _ Tryz.envOk Tryz.mixed _ y3 138 (zS Tryz.f138) [.sl ⟨0,1,aa,0⟩ na] [[(0,(false,.cols ma [.int .i64 ta]))]] [(2,(true,.cols na [.int .i64 (fun j=>ta (j+aa))])):: [(0,(false,.cols ma [.int .i64 ta]))]] 1 40 (.own 2 1 na) true 300 rfl (by decide) (by simp) (zV rfl) _ (e45s cond _ _ aa na ma ta) ?_
 repeat' first
   |with_reducible refine zJ rfl ?_
   |with_reducible refine za rfl ?_
   |(with_reducible refine v9 (fun h=> ?_) (fun h=> ?_))<;>(try simp only [yu,decide_eq_true_eq,decide_eq_false_iff_not,reduceCtorEq,Int.toNat_natCast,Bool.not_eq_true',Bool.not_eq_false',Bool.and_eq_true,Bool.or_eq_true,Bool.and_eq_false_iff,Bool.or_eq_false_iff,bne_iff_ne,beq_iff_eq,bne_eq_false_iff_eq,beq_eq_false_iff_ne,ne_eq] at h)
 all_goals first
   |with_reducible apply lH
   |omega
 repeat' first
   |with_reducible exact rz
   |with_reducible refine sY ?_ ?_
   |with_reducible refine zm ?_
   |with_reducible refine zg ?_
   |with_reducible refine zH ?_
   |with_reducible refine yW ?_
   |with_reducible refine zR ?_
   |with_reducible refine zu ?_
   |with_reducible refine wz ?_
   |with_reducible exact xw
   |with_reducible refine zT ?_
   |with_reducible refine zZ ?_ ?_ ?_
   |with_reducible refine tD ?_ ?_ ?_ ?_ ?_
   |with_reducible refine yQ ?_ ?_ ?_ ?_
   |with_reducible refine zM ?_ ?_ ?_ ?_
   |with_reducible refine xe ?_ ?_ ?_ ?_
   |exact zC rfl
   |exact zD rfl
   |exact gP rfl
   |exact ly rfl
   |((with_reducible refine (id:pos _=pos _→_) ?_); exact rfl)
   |((with_reducible refine (id:pos _=0→_) ?_); exact rfl)
   |((with_reducible refine (id:Nat.ble _ _=true→_) ?_); exact rfl)
   |((with_reducible refine (id:uY _ _=true→_) ?_); exact rfl)
   |((with_reducible refine (id:xh _=true→_) ?_); exact rfl)
   |((with_reducible refine (id:hget _ _=some _→_) ?_); exact rfl)
   |with_reducible exact (id:(_:Bool)=true→_=true)
   |with_reducible exact zE
   |with_reducible refine zB ?_ ?_ ?_ ?_
   |refine zL (zD rfl) (by rfl) ?_ ?_ ?_
   |refine uw (zD rfl) (by rfl) rfl ?_ (sL ?_) ?_
   |refine tM (zD rfl) (by rfl) (by simp) (by omega) ?_
   |with_reducible exact zP
   |with_reducible refine zO (fun j hj=> ?_) ?_
   |with_reducible refine t8 (fun j hj=> ?_) ?_
   |with_reducible refine qG (fun j hj=> ?_) ?_
   |refine zY (k:=2) (zD rfl) (zc (n:=39) rfl) ?_
   |with_reducible rfl
 all_goals try exact (0:Nat)
 all_goals try ((with_reducible refine (id:uY _ _=true→_) ?_); exact rfl)
 all_goals first
   |omega
   |skip
theorem e45z (g9:Bool→Prop→Prop→Prop) (fA:List It→List PV→zQ→Nat→Prop) (fC:PV→zQ→Nat→Prop) (aa na ma:Nat) (ta:Nat→Int):
  (run g9 Tryz.env true noX true 300 ⟨138,[.cd (zS Tryz.f138).body],yD 0 [.zer true],[[],[(0,(false,.cols ma [.int .i64 ta]))]],1⟩ (zq 1 [] fA fC))=
  (fC (PV.own (1) (1) (0))
  [[(0,false,Blk.cols ma [Col.int IntKind.i64 ta]),(1,true,Blk.cells [])]] (2)):=by kernel_rfl
theorem c45z (aa na ma:Nat) (ta:NI) (hp:aa+na≤ma∧na≤1000000) (h0:na=0):zn Tryz.prog 138 [.zer true] [[(0,(false,.cols ma [.int .i64 ta]))]] 1 (.own 2 1 na) [(2,(true,.cols na [.int .i64 (fun j=>ta (j+aa))])):: [(0,(false,.cols ma [.int .i64 ta]))]] 40∧ ∃ F,Tryz.prog.funcs[138]? =some F∧F.body.isSome=true∧(F.name== "runtime.NumGoroutine")=false:=by
 refine @pn _ _ Tryz.envOk Tryz.mixed _ y3 138 (zS Tryz.f138) [.zer true] [[(0,(false,.cols ma [.int .i64 ta]))]] [(2,(true,.cols na [.int .i64 (fun j=>ta (j+aa))])):: [(0,(false,.cols ma [.int .i64 ta]))]] 1 40 (.own 2 1 na) true 300 rfl (by decide) (by simp) (zV rfl) _ (e45z cond _ _ aa na ma ta) ?_
 repeat' first
   |with_reducible refine zJ rfl ?_
   |with_reducible refine za rfl ?_
   |(with_reducible refine v9 (fun h=> ?_) (fun h=> ?_))<;>(try simp only [yu,decide_eq_true_eq,decide_eq_false_iff_not,reduceCtorEq,Int.toNat_natCast,Bool.not_eq_true',Bool.not_eq_false',Bool.and_eq_true,Bool.or_eq_true,Bool.and_eq_false_iff,Bool.or_eq_false_iff,bne_iff_ne,beq_iff_eq,bne_eq_false_iff_eq,beq_eq_false_iff_ne,ne_eq] at h)
 all_goals first
   |with_reducible apply lH
   |omega
 repeat' first
   |with_reducible exact rz
   |with_reducible refine sY ?_ ?_
   |with_reducible refine zm ?_
   |with_reducible refine zg ?_
   |with_reducible refine zH ?_
   |with_reducible refine yW ?_
   |with_reducible refine zR ?_
   |with_reducible refine zu ?_
   |with_reducible refine wz ?_
   |with_reducible exact xw
   |with_reducible refine zT ?_
   |with_reducible refine zZ ?_ ?_ ?_
   |with_reducible refine tD ?_ ?_ ?_ ?_ ?_
   |with_reducible refine yQ ?_ ?_ ?_ ?_
   |with_reducible refine zM ?_ ?_ ?_ ?_
   |with_reducible refine xe ?_ ?_ ?_ ?_
   |exact zC rfl
   |exact zD rfl
   |exact gP rfl
   |exact ly rfl
   |((with_reducible refine (id:pos _=pos _→_) ?_); exact rfl)
   |((with_reducible refine (id:pos _=0→_) ?_); exact rfl)
   |((with_reducible refine (id:Nat.ble _ _=true→_) ?_); exact rfl)
   |((with_reducible refine (id:uY _ _=true→_) ?_); exact rfl)
   |((with_reducible refine (id:xh _=true→_) ?_); exact rfl)
   |((with_reducible refine (id:hget _ _=some _→_) ?_); exact rfl)
   |with_reducible exact (id:(_:Bool)=true→_=true)
   |with_reducible exact zE
   |with_reducible refine zB ?_ ?_ ?_ ?_
   |refine zL (zD rfl) (by rfl) ?_ ?_ ?_
   |refine uw (zD rfl) (by rfl) rfl ?_ (sL ?_) ?_
   |refine tM (zD rfl) (by rfl) (by simp) (by omega) ?_
   |with_reducible exact zP
   |with_reducible refine zO (fun j hj=> ?_) ?_
   |with_reducible refine t8 (fun j hj=> ?_) ?_
   |with_reducible refine qG (fun j hj=> ?_) ?_
   |refine zY (k:=2) (zD rfl) (zc (n:=39) rfl) ?_
   |with_reducible rfl
 all_goals try exact (0:Nat)
 all_goals try ((with_reducible refine (id:uY _ _=true→_) ?_); exact rfl)
 all_goals first
   |omega
   |skip
theorem e45y (g9:Bool→Prop→Prop→Prop) (fA:List It→List PV→zQ→Nat→Prop) (fC:PV→zQ→Nat→Prop) (aa na ma:Nat) (ta:Nat→Int):
  (run g9 Tryz.env true noX true 300 ⟨138,[.cd (zS Tryz.f138).body],yD 0 [.zer false],[[],[(0,(false,.cols ma [.int .i64 ta]))]],1⟩ (zq 1 [] fA fC))=
  (fC PV.nils [[(0,false,Blk.cols ma [Col.int IntKind.i64 ta])]] (1)):=by kernel_rfl
theorem c45y (aa na ma:Nat) (ta:NI) (hp:aa+na≤ma∧na≤1000000) (h0:na=0):zn Tryz.prog 138 [.zer false] [[(0,(false,.cols ma [.int .i64 ta]))]] 1 (.own 2 1 na) [(2,(true,.cols na [.int .i64 (fun j=>ta (j+aa))])):: [(0,(false,.cols ma [.int .i64 ta]))]] 40∧ ∃ F,Tryz.prog.funcs[138]? =some F∧F.body.isSome=true∧(F.name== "runtime.NumGoroutine")=false:=by
 refine @pn _ _ Tryz.envOk Tryz.mixed _ y3 138 (zS Tryz.f138) [.zer false] [[(0,(false,.cols ma [.int .i64 ta]))]] [(2,(true,.cols na [.int .i64 (fun j=>ta (j+aa))])):: [(0,(false,.cols ma [.int .i64 ta]))]] 1 40 (.own 2 1 na) true 300 rfl (by decide) (by simp) (zV rfl) _ (e45y cond _ _ aa na ma ta) ?_
 repeat' first
   |with_reducible refine zJ rfl ?_
   |with_reducible refine za rfl ?_
   |(with_reducible refine v9 (fun h=> ?_) (fun h=> ?_))<;>(try simp only [yu,decide_eq_true_eq,decide_eq_false_iff_not,reduceCtorEq,Int.toNat_natCast,Bool.not_eq_true',Bool.not_eq_false',Bool.and_eq_true,Bool.or_eq_true,Bool.and_eq_false_iff,Bool.or_eq_false_iff,bne_iff_ne,beq_iff_eq,bne_eq_false_iff_eq,beq_eq_false_iff_ne,ne_eq] at h)
 all_goals first
   |with_reducible apply lH
   |omega
 repeat' first
   |with_reducible exact rz
   |with_reducible refine sY ?_ ?_
   |with_reducible refine zm ?_
   |with_reducible refine zg ?_
   |with_reducible refine zH ?_
   |with_reducible refine yW ?_
   |with_reducible refine zR ?_
   |with_reducible refine zu ?_
   |with_reducible refine wz ?_
   |with_reducible exact xw
   |with_reducible refine zT ?_
   |with_reducible refine zZ ?_ ?_ ?_
   |with_reducible refine tD ?_ ?_ ?_ ?_ ?_
   |with_reducible refine yQ ?_ ?_ ?_ ?_
   |with_reducible refine zM ?_ ?_ ?_ ?_
   |with_reducible refine xe ?_ ?_ ?_ ?_
   |exact zC rfl
   |exact zD rfl
   |exact gP rfl
   |exact ly rfl
   |((with_reducible refine (id:pos _=pos _→_) ?_); exact rfl)
   |((with_reducible refine (id:pos _=0→_) ?_); exact rfl)
   |((with_reducible refine (id:Nat.ble _ _=true→_) ?_); exact rfl)
   |((with_reducible refine (id:uY _ _=true→_) ?_); exact rfl)
   |((with_reducible refine (id:xh _=true→_) ?_); exact rfl)
   |((with_reducible refine (id:hget _ _=some _→_) ?_); exact rfl)
   |with_reducible exact (id:(_:Bool)=true→_=true)
   |with_reducible exact zE
   |with_reducible refine zB ?_ ?_ ?_ ?_
   |refine zL (zD rfl) (by rfl) ?_ ?_ ?_
   |refine uw (zD rfl) (by rfl) rfl ?_ (sL ?_) ?_
   |refine tM (zD rfl) (by rfl) (by simp) (by omega) ?_
   |with_reducible exact zP
   |with_reducible refine zO (fun j hj=> ?_) ?_
   |with_reducible refine t8 (fun j hj=> ?_) ?_
   |with_reducible refine qG (fun j hj=> ?_) ?_
   |refine zY (k:=2) (zD rfl) (zc (n:=39) rfl) ?_
   |with_reducible rfl
 all_goals try exact (0:Nat)
 all_goals try ((with_reducible refine (id:uY _ _=true→_) ?_); exact rfl)
 all_goals first
   |omega
   |skip
theorem c45 (aa na ma:Nat) (ta:NI) (hp:aa+na≤ma∧na≤1000000):zn Tryz.prog 138 [.loose ⟨0,1,aa,0⟩ na] [[(0,(false,.cols ma [.int .i64 ta]))]] 1 (.own 2 1 na) [(2,(true,.cols na [.int .i64 (fun j=>ta (j+aa))])):: [(0,(false,.cols ma [.int .i64 ta]))]] 40∧ ∃ F,Tryz.prog.funcs[138]? =some F∧F.body.isSome=true∧(F.name== "runtime.NumGoroutine")=false:=
 ⟨pI (fun h=>(c45s aa na ma ta hp h).1) (fun h b=>by cases b; exact (c45y aa na ma ta hp h).1; exact (c45z aa na ma ta hp h).1),by
  rcases Nat.eq_zero_or_pos na with h|h
  · exact (c45y aa na ma ta hp h).2
  · exact (c45s aa na ma ta hp h).2⟩
theorem k45_ok:k45.ok Tryz.prog:=by
 intro x hx
 obtain ⟨⟨aa,na,ma,ta,_⟩,_⟩:=x
 have hp:aa+na≤ma∧na≤1000000:=of_decide_eq_true hx
 obtain ⟨h1,h2⟩:=c45 aa na ma ta hp
 exact ⟨⟨40,(by decide:1+1+1≤40),h1⟩,h2⟩
section
variable (g9:TT) (fA:KS) (fC:KR) (v:Int)
inductive St44 where
 |h0 (x0:Int) (x1:List Int)
abbrev Rt44:=List Int
noncomputable def V44 (r:Rt44):PV:= .own 1 1 r.length
noncomputable def N44 (r:Rt44):List Blk:= [CI r]
noncomputable def I44:St44→Hd
  | .h0 x0 x1=>⟨hd Tryz.f98 0,[.int .u64 x0,.own 0 1 x1.length],[[(0,(true,CI x1))],[]],1⟩
noncomputable def q44 (v:Int):St44→Option (St44⊕Rt44)| .h0 x0 x1=>bif (decide (x0>0)) then (bif (decide (x1.length+1≤1000000)) then (bif (decide (x1.length≤x1.length)) then (bif (lim .u64 (Int.tdiv x0 (1000000:Int))) then (some (.inl (.h0 (Int.tdiv x0 (1000000:Int)) (S.fI x1 (IntKind.wrap .i64 (Int.tmod x0 (1000000:Int))))))) else none) else none) else none) else (some (.inr x1))
noncomputable def p44 (v:Int):Option (St44⊕Rt44):=some (.inl (.h0 v []))
def Te44:Prop:=fA (hd Tryz.f98 0) ([.int .u64 v,.nils]) ([[]]) 0
theorem te44:run g9 Tryz.env true noX true 400 ⟨98,[.cd (zS Tryz.f98).body],yD 0 [.int .u64 v],[[],[]],0⟩ (zq 0 [0,3] fA fC)=
 Te44 fA v:=by kernel_rfl
def T44_0 (x0:Int) (x1:List Int):Prop:=g9 (decide (x0>0)) (g9 false False (g9 (decide (x1.length+1≤1000000)) (g9 (decide (x1.length≤x1.length)) (g9 true (g9 false False (g9 (lim .u64 (Int.tdiv x0 (1000000:Int))) (fA (hd Tryz.f98 0) ([.int .u64 (Int.tdiv x0 (1000000:Int)),.own 2 1 (x1.length+1)]) ([[(2,true,.cols (x1.length+1) [.int .i64 fun j=>bif Nat.blt j x1.length then S.at' x1 j else IntKind.wrap .i64 (Int.tmod x0 (1000000:Int))])]]) 3) False)) False) False) False)) (fC (.own 0 1 x1.length) ([[(0,true,CI x1)]]) 1)
theorem t44_0 (x0:Int) (x1:List Int):run g9 Tryz.env true noX true 400 ⟨98,hd Tryz.f98 0,yc [0,3] [.int .u64 x0,.own 0 1 x1.length],[[(0,(true,CI x1))],[]],1⟩ (zq 0 [0,3] fA fC)=
 T44_0 g9 fA fC x0 x1:=by kernel_rfl
noncomputable abbrev J44:Rt44→zQ:=fun r=> [yJ (0+1) ((N44) r)++ []]
attribute [local irreducible] Int.subNatNat in
theorem a44 {r:Rt44} (h:zX ((q44 v)) ((p44 v)) r):zn Tryz.prog 98 [.int .u64 v] [[]] 0 ((V44) r) ((J44) r) 400∧HB Tryz.prog 98:=by
 refine zf Tryz.envOk Tryz.mixed y3 ((I44)) ((V44)) (J44) (fn:=zS Tryz.f98) (ts:= [0,3]) (n:=400) rfl (by decide) (by simp) (zV rfl) ?_ ?_ ?_ h
 · intro s; cases s<;>exact ⟨ym _ _,by simp [I44],zV rfl,Nat.le_of_ble_eq_true rfl⟩
 · intro fA fC x hS hR h
   refine Holds.eq (te44 cond fA fC v) ?_
   unfold Te44
   exact zb hS _ h (fun n=>bif Nat.beq n 0 then 399 else n) rfl rfl rfl ⟨(zH rfl),⟨(zT rfl),trivial⟩⟩ rfl (zY (zD rfl) (zc rfl) zE)
 · intro fA fC x hS hR s h
   cases s with
   |h0 x0 x1=>
    refine Holds.eq (t44_0 cond fA fC x0 x1) ?_
    unfold T44_0
    rw [q44] at h
    exact zA h (fun c0 h=>za rfl (zA h (fun c1 h=>zA h (fun c2 h=>zJ rfl (za rfl (zA h (fun c3 h=>zb hS _ h (fun n=>bif Nat.beq n 0 then 2 else n) rfl rfl rfl ⟨(zH rfl),⟨(zZ (zD rfl) rfl (z5 rfl)),trivial⟩⟩ rfl (zL (zD rfl) rfl (Nat.le_of_eq (z5 rfl)) (zO (yq (fun (t:Int)=>t) rfl (fun _ _=>rfl)) zP) zE)) (fun c3 h=>zF h)))) (fun c2 h=>zF h)) (fun c1 h=>zF h))) (fun c0 h=>zU hR _ h (fun n=>bif Nat.beq n 1 then 0 else n) rfl rfl rfl (zZ (zD rfl) rfl rfl) rfl (zL (zD rfl) rfl (Nat.le_of_eq rfl) (zO (fun _ _=>rfl) zP) zE))
end
noncomputable abbrev w44 {α:Type} (g:Int→α) (x:Int×Unit):α:=g x.1
noncomputable def k44:Con:=⟨98,[.one (.plain (.int .u64))],w44 (fun v=>decide (0≤v∧v≤9223372036854775808)),w44 (fun v=>(V44) (S.fX v)),w44 (fun v=>(N44) (S.fX v)),fun _ _=> .dead⟩
theorem s44' (v:Int): ∀ (k:Nat) (x:Int) (L:List Int),0≤x→x<S.pw k→x≤9223372036854775808→L.length+k≤1000→Comes (q44 v) (.h0 x L) (L++S.fX x):=by
 intro k
 induction k with
 |zero=>
  intro x L h0 h1 h2 hl
  have:x<1:=h1
  rw [yX (by omega),List.append_nil]
  apply Comes.of
  show zX _ _ _
  (first|rw [q44]|unfold q44)
  repeat' (first|with_reducible refine zN (fun h=> ?_) (fun h=> ?_)<;>(try simp only [SH] at h)|exact zI.mpr (by omega))
  all_goals first|(exfalso; omega)|exact zG.mpr rfl
 | succ k ih=>
  intro x L h0 h1 h2 hl
  have h1:x<1000000*S.pw k:=h1
  by_cases hx:0<x
  · have ih:=ih (x / 1000000) (S.fI L (x % 1000000)) (by omega) (by omega) (by omega) (by rw [yE]; omega)
    rw [yn,← xO hx] at ih
    apply Comes.of
    show zX _ _ _
    rw [q44,tdB h0,tmB h0,wr64 (x:=x % 1000000) (by omega)]
    repeat' (first|with_reducible refine zN (fun h=> ?_) (fun h=> ?_)<;>(try simp only [SH,limu] at h)|exact zI.mpr (by omega))
    all_goals first|(exfalso; omega)|exact ih
  · rw [yX (by omega),List.append_nil]
    apply Comes.of
    show zX _ _ _
    (first|rw [q44]|unfold q44)
    repeat' (first|with_reducible refine zN (fun h=> ?_) (fun h=> ?_)<;>(try simp only [SH] at h)|exact zI.mpr (by omega))
    all_goals first|(exfalso; omega)|exact zG.mpr rfl
theorem s44 (v:Int) (hp:0≤v∧v≤9223372036854775808):zX ((q44 v)) ((p44 v)) (S.fX v):=by
 exact s44' v 4 v [] hp.1 (by have:S.pw 4=1000000000000000000000000:=rfl; omega) (by omega) (by decide)
theorem k44_ok:k44.ok Tryz.prog:=by
 intro x hx
 obtain ⟨v,_⟩:=x
 obtain ⟨h1,h2⟩:=a44 v (s44 v (zo hx rfl))
 exact ⟨⟨400,(by decide:0+1+1≤400),h1⟩,h2⟩
section
variable (g9:TT) (fA:KS) (fC:KR) (v:Int)
inductive St73 where
 |h0 (x0:Int) (x1:List Int)
abbrev Rt73:=List Int
noncomputable def V73 (r:Rt73):PV:= .own 1 1 r.length
noncomputable def N73 (r:Rt73):List Blk:= [CI r]
noncomputable def I73:St73→Hd
  | .h0 x0 x1=>⟨hd Tryz.f131 0,[.int .i64 x0,.own 0 1 x1.length],[[(0,(true,CI x1))],[]],1⟩
noncomputable def q73 (v:Int):St73→Option (St73⊕Rt73)| .h0 x0 x1=>bif (decide (x0>0)) then (bif (decide (x1.length+1≤1000000)) then (bif (decide (x1.length≤x1.length)) then (bif (lim .i64 (Int.tdiv x0 (1000000:Int))) then (some (.inl (.h0 (Int.tdiv x0 (1000000:Int)) (S.fI x1 (Int.tmod x0 (1000000:Int)))))) else none) else none) else none) else (some (.inr x1))
noncomputable def p73 (v:Int):Option (St73⊕Rt73):=some (.inl (.h0 v []))
def Te73:Prop:=fA (hd Tryz.f131 0) ([.int .i64 v,.nils]) ([[]]) 0
theorem te73:run g9 Tryz.env true noX true 400 ⟨131,[.cd (zS Tryz.f131).body],yD 0 [.int .i64 v],[[],[]],0⟩ (zq 0 [0,3] fA fC)=
 Te73 fA v:=by kernel_rfl
def T73_0 (x0:Int) (x1:List Int):Prop:=g9 (decide (x0>0)) (g9 false False (g9 (decide (x1.length+1≤1000000)) (g9 (decide (x1.length≤x1.length)) (g9 true (g9 false False (g9 (lim .i64 (Int.tdiv x0 (1000000:Int))) (fA (hd Tryz.f131 0) ([.int .i64 (Int.tdiv x0 (1000000:Int)),.own 2 1 (x1.length+1)]) ([[(2,true,.cols (x1.length+1) [.int .i64 fun j=>bif Nat.blt j x1.length then S.at' x1 j else Int.tmod x0 (1000000:Int)])]]) 3) False)) False) False) False)) (fC (.own 0 1 x1.length) ([[(0,true,CI x1)]]) 1)
theorem t73_0 (x0:Int) (x1:List Int):run g9 Tryz.env true noX true 400 ⟨131,hd Tryz.f131 0,yc [0,3] [.int .i64 x0,.own 0 1 x1.length],[[(0,(true,CI x1))],[]],1⟩ (zq 0 [0,3] fA fC)=
 T73_0 g9 fA fC x0 x1:=by kernel_rfl
noncomputable abbrev J73:Rt73→zQ:=fun r=> [yJ (0+1) ((N73) r)++ []]
attribute [local irreducible] Int.subNatNat in
theorem a73 {r:Rt73} (h:zX ((q73 v)) ((p73 v)) r):zn Tryz.prog 131 [.int .i64 v] [[]] 0 ((V73) r) ((J73) r) 400∧HB Tryz.prog 131:=by
 refine zf Tryz.envOk Tryz.mixed y3 ((I73)) ((V73)) (J73) (fn:=zS Tryz.f131) (ts:= [0,3]) (n:=400) rfl (by decide) (by simp) (zV rfl) ?_ ?_ ?_ h
 · intro s; cases s<;>exact ⟨ym _ _,by simp [I73],zV rfl,Nat.le_of_ble_eq_true rfl⟩
 · intro fA fC x hS hR h
   refine Holds.eq (te73 cond fA fC v) ?_
   unfold Te73
   exact zb hS _ h (fun n=>bif Nat.beq n 0 then 399 else n) rfl rfl rfl ⟨(zH rfl),⟨(zT rfl),trivial⟩⟩ rfl (zY (zD rfl) (zc rfl) zE)
 · intro fA fC x hS hR s h
   cases s with
   |h0 x0 x1=>
    refine Holds.eq (t73_0 cond fA fC x0 x1) ?_
    unfold T73_0
    rw [q73] at h
    exact zA h (fun c0 h=>za rfl (zA h (fun c1 h=>zA h (fun c2 h=>zJ rfl (za rfl (zA h (fun c3 h=>zb hS _ h (fun n=>bif Nat.beq n 0 then 2 else n) rfl rfl rfl ⟨(zH rfl),⟨(zZ (zD rfl) rfl (z5 rfl)),trivial⟩⟩ rfl (zL (zD rfl) rfl (Nat.le_of_eq (z5 rfl)) (zO (yq (fun (t:Int)=>t) rfl (fun _ _=>rfl)) zP) zE)) (fun c3 h=>zF h)))) (fun c2 h=>zF h)) (fun c1 h=>zF h))) (fun c0 h=>zU hR _ h (fun n=>bif Nat.beq n 1 then 0 else n) rfl rfl rfl (zZ (zD rfl) rfl rfl) rfl (zL (zD rfl) rfl (Nat.le_of_eq rfl) (zO (fun _ _=>rfl) zP) zE))
end
noncomputable def k73:Con:=⟨131,[.one (.plain (.int .i64))],w44 (fun v=>decide (0≤v∧v≤9223372036854775807)),w44 (fun v=>(V73) (S.fX v)),w44 (fun v=>(N73) (S.fX v)),fun _ _=> .dead⟩
theorem s73' (v:Int): ∀ (k:Nat) (x:Int) (L:List Int),0≤x→x<S.pw k→x≤9223372036854775808→L.length+k≤1000→Comes (q73 v) (.h0 x L) (L++S.fX x):=by
 intro k
 induction k with
 |zero=>
  intro x L h0 h1 h2 hl
  have:x<1:=h1
  rw [yX (by omega),List.append_nil]
  apply Comes.of
  show zX _ _ _
  (first|rw [q73]|unfold q73)
  repeat' (first|with_reducible refine zN (fun h=> ?_) (fun h=> ?_)<;>(try simp only [SH] at h)|exact zI.mpr (by omega))
  all_goals first|(exfalso; omega)|exact zG.mpr rfl
 | succ k ih=>
  intro x L h0 h1 h2 hl
  have h1:x<1000000*S.pw k:=h1
  by_cases hx:0<x
  · have ih:=ih (x / 1000000) (S.fI L (x % 1000000)) (by omega) (by omega) (by omega) (by rw [yE]; omega)
    rw [yn,← xO hx] at ih
    apply Comes.of
    show zX _ _ _
    rw [q73,tdB h0,tmB h0]
    repeat' (first|with_reducible refine zN (fun h=> ?_) (fun h=> ?_)<;>(try simp only [SH] at h)|exact zI.mpr (by omega))
    all_goals first|(exfalso; omega)|exact ih
  · rw [yX (by omega),List.append_nil]
    apply Comes.of
    show zX _ _ _
    (first|rw [q73]|unfold q73)
    repeat' (first|with_reducible refine zN (fun h=> ?_) (fun h=> ?_)<;>(try simp only [SH] at h)|exact zI.mpr (by omega))
    all_goals first|(exfalso; omega)|exact zG.mpr rfl
theorem s73 (v:Int) (hp:0≤v∧v≤9223372036854775807):zX ((q73 v)) ((p73 v)) (S.fX v):=by
 exact s73' v 4 v [] hp.1 (by have:S.pw 4=1000000000000000000000000:=rfl; omega) (by omega) (by decide)
theorem k73_ok:k73.ok Tryz.prog:=by
 intro x hx
 obtain ⟨v,_⟩:=x
 obtain ⟨h1,h2⟩:=a73 v (s73 v (zo hx rfl))
 exact ⟨⟨400,(by decide:0+1+1≤400),h1⟩,h2⟩
section
variable (g9:TT) (fA:KS) (fC:KR) (ap np mp:Nat) (tp:NI) (aq nq mq:Nat) (tq:NI)
inductive St55 where
 |h0 (x0:Int) (x1:Int) (x2:List Int)
 |h1 (x0:Int) (x1:Int) (x2:List Int)
abbrev Rt55:=List Int
noncomputable def V55 (r:Rt55):PV:= .own 3 1 r.length
noncomputable def N55 (r:Rt55):List Blk:= [CI r]
noncomputable def I55:St55→Hd
  | .h0 x0 x1 x2=>⟨hd Tryz.f115 0,[.loose ⟨0,1,ap,0⟩ np,
 .own 2 1 x2.length,.int .i64 x0,
 .loose ⟨1,1,aq,0⟩ nq,.int .i64 (nq:Int),
 .int .i64 x1],[[(2,(true,CI x2))],[(0,(false,CB mp tp)),(1,(false,CB mq tq))]],3⟩
  | .h1 x0 x1 x2=>⟨hd Tryz.f115 0,[.loose ⟨1,1,aq,0⟩ nq,
 .own 2 1 x2.length,.int .i64 x0,
 .loose ⟨0,1,ap,0⟩ np,.int .i64 (np:Int),
 .int .i64 x1],[[(2,(true,CI x2))],[(0,(false,CB mp tp)),(1,(false,CB mq tq))]],3⟩
noncomputable def q55 (ap np mp:Nat) (tp:NI) (aq nq mq:Nat) (tq:NI):St55→Option (St55⊕Rt55)| .h0 x0 x1 x2=>bif (decide (x1<(nq:Int))) then (bif (decide ((0:Int)≤x1∧x1<(nq:Int))) then (bif (decide (x1.toNat+aq<mq)) then (bif (lim .i64 (tq (x1.toNat+aq)+x0)) then (bif (decide (x1<(np:Int))) then (bif (decide ((0:Int)≤x1∧x1<(np:Int))) then (bif (decide (x1.toNat+ap<mp)) then (bif (lim .i64 (tq (x1.toNat+aq)+x0+tp (x1.toNat+ap))) then (bif (decide (tq (x1.toNat+aq)+x0+tp (x1.toNat+ap)≥1000000)) then (bif (lim .i64 (tq (x1.toNat+aq)+x0+tp (x1.toNat+ap)-1000000)) then (bif (decide (x2.length+1≤1000000)) then (bif (decide (x2.length≤x2.length)) then (bif (lim .i64 (x1+1)) then (some (.inl (.h0 ((1:Int)) (x1+1) (S.fI x2 (tq (x1.toNat+aq)+x0+tp (x1.toNat+ap)-1000000))))) else none) else none) else none) else none) else (bif (decide (x2.length+1≤1000000)) then (bif (decide (x2.length≤x2.length)) then (bif (lim .i64 (x1+1)) then (some (.inl (.h0 ((0:Int)) (x1+1) (S.fI x2 (tq (x1.toNat+aq)+x0+tp (x1.toNat+ap)))))) else none) else none) else none)) else none) else none) else none) else (bif (decide (tq (x1.toNat+aq)+x0≥1000000)) then (bif (lim .i64 (tq (x1.toNat+aq)+x0-1000000)) then (bif (decide (x2.length+1≤1000000)) then (bif (decide (x2.length≤x2.length)) then (bif (lim .i64 (x1+1)) then (some (.inl (.h0 ((1:Int)) (x1+1) (S.fI x2 (tq (x1.toNat+aq)+x0-1000000))))) else none) else none) else none) else none) else (bif (decide (x2.length+1≤1000000)) then (bif (decide (x2.length≤x2.length)) then (bif (lim .i64 (x1+1)) then (some (.inl (.h0 ((0:Int)) (x1+1) (S.fI x2 (tq (x1.toNat+aq)+x0))))) else none) else none) else none))) else none) else none) else none) else (bif (decide (x0>0)) then (bif (decide (x2.length+1≤1000000)) then (bif (decide (x2.length≤x2.length)) then (some (.inr (S.fI x2 x0))) else none) else none) else (some (.inr x2)))| .h1 x0 x1 x2=>bif (decide (x1<(np:Int))) then (bif (decide ((0:Int)≤x1∧x1<(np:Int))) then (bif (decide (x1.toNat+ap<mp)) then (bif (lim .i64 (tp (x1.toNat+ap)+x0)) then (bif (decide (x1<(nq:Int))) then (bif (decide ((0:Int)≤x1∧x1<(nq:Int))) then (bif (decide (x1.toNat+aq<mq)) then (bif (lim .i64 (tp (x1.toNat+ap)+x0+tq (x1.toNat+aq))) then (bif (decide (tp (x1.toNat+ap)+x0+tq (x1.toNat+aq)≥1000000)) then (bif (lim .i64 (tp (x1.toNat+ap)+x0+tq (x1.toNat+aq)-1000000)) then (bif (decide (x2.length+1≤1000000)) then (bif (decide (x2.length≤x2.length)) then (bif (lim .i64 (x1+1)) then (some (.inl (.h1 ((1:Int)) (x1+1) (S.fI x2 (tp (x1.toNat+ap)+x0+tq (x1.toNat+aq)-1000000))))) else none) else none) else none) else none) else (bif (decide (x2.length+1≤1000000)) then (bif (decide (x2.length≤x2.length)) then (bif (lim .i64 (x1+1)) then (some (.inl (.h1 ((0:Int)) (x1+1) (S.fI x2 (tp (x1.toNat+ap)+x0+tq (x1.toNat+aq)))))) else none) else none) else none)) else none) else none) else none) else (bif (decide (tp (x1.toNat+ap)+x0≥1000000)) then (bif (lim .i64 (tp (x1.toNat+ap)+x0-1000000)) then (bif (decide (x2.length+1≤1000000)) then (bif (decide (x2.length≤x2.length)) then (bif (lim .i64 (x1+1)) then (some (.inl (.h1 ((1:Int)) (x1+1) (S.fI x2 (tp (x1.toNat+ap)+x0-1000000))))) else none) else none) else none) else none) else (bif (decide (x2.length+1≤1000000)) then (bif (decide (x2.length≤x2.length)) then (bif (lim .i64 (x1+1)) then (some (.inl (.h1 ((0:Int)) (x1+1) (S.fI x2 (tp (x1.toNat+ap)+x0))))) else none) else none) else none))) else none) else none) else none) else (bif (decide (x0>0)) then (bif (decide (x2.length+1≤1000000)) then (bif (decide (x2.length≤x2.length)) then (some (.inr (S.fI x2 x0))) else none) else none) else (some (.inr x2)))
noncomputable def p55 (ap np mp:Nat) (tp:NI) (aq nq mq:Nat) (tq:NI):Option (St55⊕Rt55):=bif (decide ((np:Int)<(nq:Int))) then (bif (lim .i64 ((nq:Int)+1)) then (bif (decide ((0:Int)≤0∧(0:Int)≤(nq:Int)+1∧(nq:Int)+1≤1000000)) then (some (.inl (.h0 ((0:Int)) ((0:Int)) (S.fJ 0 fun j=>0)))) else none) else none) else (bif (lim .i64 ((np:Int)+1)) then (bif (decide ((0:Int)≤0∧(0:Int)≤(np:Int)+1∧(np:Int)+1≤1000000)) then (some (.inl (.h1 ((0:Int)) ((0:Int)) (S.fJ 0 fun j=>0)))) else none) else none)
def Te55:Prop:=g9 (decide ((np:Int)<(nq:Int))) (g9 (lim .i64 ((nq:Int)+1)) (g9 (decide ((0:Int)≤0∧(0:Int)≤(nq:Int)+1∧(nq:Int)+1≤1000000)) (fA (hd Tryz.f115 0) ([.loose ⟨0,1,ap,0⟩ np,.own 2 1 0,.int .i64 0,.loose ⟨1,1,aq,0⟩ nq,.int .i64 (nq:Int),.int .i64 0]) ([[(1,false,CB mq tq),(0,false,CB mp tp),(2,true,.cols 0 [.int .i64 fun (x:Nat)=>0])]]) 3) False) False) (g9 (lim .i64 ((np:Int)+1)) (g9 (decide ((0:Int)≤0∧(0:Int)≤(np:Int)+1∧(np:Int)+1≤1000000)) (fA (hd Tryz.f115 0) ([.loose ⟨1,1,aq,0⟩ nq,.own 2 1 0,.int .i64 0,.loose ⟨0,1,ap,0⟩ np,.int .i64 (np:Int),.int .i64 0]) ([[(1,false,CB mq tq),(0,false,CB mp tp),(2,true,.cols 0 [.int .i64 fun (x:Nat)=>0])]]) 3) False) False)
theorem te55:run g9 Tryz.env true noX true 400 ⟨115,[.cd (zS Tryz.f115).body],yD 0 [.loose ⟨0,1,ap,0⟩ np,.loose ⟨1,1,aq,0⟩ nq],[[],[(0,(false,CB mp tp)),(1,(false,CB mq tq))]],2⟩ (zq 2 [1,5,6,20,21,22] fA fC)=
 Te55 g9 fA ap np mp tp aq nq mq tq:=by kernel_rfl
def T55_0 (x0 x1:Int) (x2:List Int):Prop:=g9 (decide (x1<(nq:Int))) (g9 (decide ((0:Int)≤x1∧x1<(nq:Int))) (g9 (decide (x1.toNat+aq<mq)) (g9 (lim .i64 (tq (x1.toNat+aq)+x0)) (g9 (decide (x1<(np:Int))) (g9 (decide ((0:Int)≤x1∧x1<(np:Int))) (g9 (decide (x1.toNat+ap<mp)) (g9 (lim .i64 (tq (x1.toNat+aq)+x0+tp (x1.toNat+ap))) (g9 (decide (tq (x1.toNat+aq)+x0+tp (x1.toNat+ap)≥1000000)) (g9 (lim .i64 (tq (x1.toNat+aq)+x0+tp (x1.toNat+ap)-1000000)) (g9 (decide (x2.length+1≤1000000)) (g9 (decide (x2.length≤x2.length)) (g9 true (g9 (lim .i64 (x1+1)) (fA (hd Tryz.f115 0) ([.loose ⟨0,1,ap,0⟩ np,.own 4 1 (x2.length+1),.int .i64 1,.loose ⟨1,1,aq,0⟩ nq,.int .i64 (nq:Int),.int .i64 (x1+1)]) ([[(1,false,CB mq tq),(0,false,CB mp tp),(4,true,.cols (x2.length+1) [.int .i64 fun j=>bif Nat.blt j x2.length then S.at' x2 j else tq (x1.toNat+aq)+x0+tp (x1.toNat+ap)-1000000])]]) 5) False) False) False) False) False) (g9 (decide (x2.length+1≤1000000)) (g9 (decide (x2.length≤x2.length)) (g9 true (g9 (lim .i64 (x1+1)) (fA (hd Tryz.f115 0) ([.loose ⟨0,1,ap,0⟩ np,.own 4 1 (x2.length+1),.int .i64 0,.loose ⟨1,1,aq,0⟩ nq,.int .i64 (nq:Int),.int .i64 (x1+1)]) ([[(1,false,CB mq tq),(0,false,CB mp tp),(4,true,.cols (x2.length+1) [.int .i64 fun j=>bif Nat.blt j x2.length then S.at' x2 j else tq (x1.toNat+aq)+x0+tp (x1.toNat+ap)])]]) 5) False) False) False) False)) False) False) False) (g9 (decide (tq (x1.toNat+aq)+x0≥1000000)) (g9 (lim .i64 (tq (x1.toNat+aq)+x0-1000000)) (g9 (decide (x2.length+1≤1000000)) (g9 (decide (x2.length≤x2.length)) (g9 true (g9 (lim .i64 (x1+1)) (fA (hd Tryz.f115 0) ([.loose ⟨0,1,ap,0⟩ np,.own 4 1 (x2.length+1),.int .i64 1,.loose ⟨1,1,aq,0⟩ nq,.int .i64 (nq:Int),.int .i64 (x1+1)]) ([[(1,false,CB mq tq),(0,false,CB mp tp),(4,true,.cols (x2.length+1) [.int .i64 fun j=>bif Nat.blt j x2.length then S.at' x2 j else tq (x1.toNat+aq)+x0-1000000])]]) 5) False) False) False) False) False) (g9 (decide (x2.length+1≤1000000)) (g9 (decide (x2.length≤x2.length)) (g9 true (g9 (lim .i64 (x1+1)) (fA (hd Tryz.f115 0) ([.loose ⟨0,1,ap,0⟩ np,.own 4 1 (x2.length+1),.int .i64 0,.loose ⟨1,1,aq,0⟩ nq,.int .i64 (nq:Int),.int .i64 (x1+1)]) ([[(1,false,CB mq tq),(0,false,CB mp tp),(4,true,.cols (x2.length+1) [.int .i64 fun j=>bif Nat.blt j x2.length then S.at' x2 j else tq (x1.toNat+aq)+x0])]]) 5) False) False) False) False))) False) False) False) (g9 (decide (x0>0)) (g9 (decide (x2.length+1≤1000000)) (g9 (decide (x2.length≤x2.length)) (g9 true (fC (.own 4 1 (x2.length+1)) ([[(1,false,CB mq tq),(0,false,CB mp tp),(4,true,.cols (x2.length+1) [.int .i64 fun j=>bif Nat.blt j x2.length then S.at' x2 j else x0])]]) 5) False) False) False) (fC (.own 2 1 x2.length) ([[(1,false,CB mq tq),(0,false,CB mp tp),(2,true,CI x2)]]) 3))
theorem t55_0 (x0 x1:Int) (x2:List Int):run g9 Tryz.env true noX true 400 ⟨115,hd Tryz.f115 0,yc [1,5,6,20,21,22] [.loose ⟨0,1,ap,0⟩ np,
 .own 2 1 x2.length,.int .i64 x0,
 .loose ⟨1,1,aq,0⟩ nq,.int .i64 (nq:Int),
 .int .i64 x1],[[(2,(true,CI x2))],[(0,(false,CB mp tp)),(1,(false,CB mq tq))]],3⟩ (zq 2 [1,5,6,20,21,22] fA fC)=
  T55_0 g9 fA fC ap np mp tp aq nq mq tq x0 x1 x2:=by kernel_rfl
def T55_1 (x0 x1:Int) (x2:List Int):Prop:=g9 (decide (x1<(np:Int))) (g9 (decide ((0:Int)≤x1∧x1<(np:Int))) (g9 (decide (x1.toNat+ap<mp)) (g9 (lim .i64 (tp (x1.toNat+ap)+x0)) (g9 (decide (x1<(nq:Int))) (g9 (decide ((0:Int)≤x1∧x1<(nq:Int))) (g9 (decide (x1.toNat+aq<mq)) (g9 (lim .i64 (tp (x1.toNat+ap)+x0+tq (x1.toNat+aq))) (g9 (decide (tp (x1.toNat+ap)+x0+tq (x1.toNat+aq)≥1000000)) (g9 (lim .i64 (tp (x1.toNat+ap)+x0+tq (x1.toNat+aq)-1000000)) (g9 (decide (x2.length+1≤1000000)) (g9 (decide (x2.length≤x2.length)) (g9 true (g9 (lim .i64 (x1+1)) (fA (hd Tryz.f115 0) ([.loose ⟨1,1,aq,0⟩ nq,.own 4 1 (x2.length+1),.int .i64 1,.loose ⟨0,1,ap,0⟩ np,.int .i64 (np:Int),.int .i64 (x1+1)]) ([[(1,false,CB mq tq),(0,false,CB mp tp),(4,true,.cols (x2.length+1) [.int .i64 fun j=>bif Nat.blt j x2.length then S.at' x2 j else tp (x1.toNat+ap)+x0+tq (x1.toNat+aq)-1000000])]]) 5) False) False) False) False) False) (g9 (decide (x2.length+1≤1000000)) (g9 (decide (x2.length≤x2.length)) (g9 true (g9 (lim .i64 (x1+1)) (fA (hd Tryz.f115 0) ([.loose ⟨1,1,aq,0⟩ nq,.own 4 1 (x2.length+1),.int .i64 0,.loose ⟨0,1,ap,0⟩ np,.int .i64 (np:Int),.int .i64 (x1+1)]) ([[(1,false,CB mq tq),(0,false,CB mp tp),(4,true,.cols (x2.length+1) [.int .i64 fun j=>bif Nat.blt j x2.length then S.at' x2 j else tp (x1.toNat+ap)+x0+tq (x1.toNat+aq)])]]) 5) False) False) False) False)) False) False) False) (g9 (decide (tp (x1.toNat+ap)+x0≥1000000)) (g9 (lim .i64 (tp (x1.toNat+ap)+x0-1000000)) (g9 (decide (x2.length+1≤1000000)) (g9 (decide (x2.length≤x2.length)) (g9 true (g9 (lim .i64 (x1+1)) (fA (hd Tryz.f115 0) ([.loose ⟨1,1,aq,0⟩ nq,.own 4 1 (x2.length+1),.int .i64 1,.loose ⟨0,1,ap,0⟩ np,.int .i64 (np:Int),.int .i64 (x1+1)]) ([[(1,false,CB mq tq),(0,false,CB mp tp),(4,true,.cols (x2.length+1) [.int .i64 fun j=>bif Nat.blt j x2.length then S.at' x2 j else tp (x1.toNat+ap)+x0-1000000])]]) 5) False) False) False) False) False) (g9 (decide (x2.length+1≤1000000)) (g9 (decide (x2.length≤x2.length)) (g9 true (g9 (lim .i64 (x1+1)) (fA (hd Tryz.f115 0) ([.loose ⟨1,1,aq,0⟩ nq,.own 4 1 (x2.length+1),.int .i64 0,.loose ⟨0,1,ap,0⟩ np,.int .i64 (np:Int),.int .i64 (x1+1)]) ([[(1,false,CB mq tq),(0,false,CB mp tp),(4,true,.cols (x2.length+1) [.int .i64 fun j=>bif Nat.blt j x2.length then S.at' x2 j else tp (x1.toNat+ap)+x0])]]) 5) False) False) False) False))) False) False) False) (g9 (decide (x0>0)) (g9 (decide (x2.length+1≤1000000)) (g9 (decide (x2.length≤x2.length)) (g9 true (fC (.own 4 1 (x2.length+1)) ([[(1,false,CB mq tq),(0,false,CB mp tp),(4,true,.cols (x2.length+1) [.int .i64 fun j=>bif Nat.blt j x2.length then S.at' x2 j else x0])]]) 5) False) False) False) (fC (.own 2 1 x2.length) ([[(1,false,CB mq tq),(0,false,CB mp tp),(2,true,CI x2)]]) 3))
theorem t55_1 (x0 x1:Int) (x2:List Int):run g9 Tryz.env true noX true 400 ⟨115,hd Tryz.f115 0,yc [1,5,6,20,21,22] [.loose ⟨1,1,aq,0⟩ nq,
 .own 2 1 x2.length,.int .i64 x0,
 .loose ⟨0,1,ap,0⟩ np,.int .i64 (np:Int),
 .int .i64 x1],[[(2,(true,CI x2))],[(0,(false,CB mp tp)),(1,(false,CB mq tq))]],3⟩ (zq 2 [1,5,6,20,21,22] fA fC)=
  T55_1 g9 fA fC ap np mp tp aq nq mq tq x0 x1 x2:=by kernel_rfl
noncomputable abbrev J55:Rt55→zQ:=fun r=> [yJ (2+1) ((N55) r)++ [(0,(false,CB mp tp)),(1,(false,CB mq tq))]]
attribute [local irreducible] Int.subNatNat in
theorem a55 {r:Rt55} (h:zX ((q55 ap np mp tp aq nq mq tq)) ((p55 ap np mp tp aq nq mq tq)) r):zn Tryz.prog 115 [.loose ⟨0,1,ap,0⟩ np,.loose ⟨1,1,aq,0⟩ nq] [[(0,(false,CB mp tp)),(1,(false,CB mq tq))]] 2 ((V55) r) ((J55 mp tp mq tq) r) 400∧HB Tryz.prog 115:=by
 refine zf Tryz.envOk Tryz.mixed y3 ((I55 ap np mp tp aq nq mq tq)) ((V55)) (J55 mp tp mq tq) (fn:=zS Tryz.f115) (ts:= [1,5,6,20,21,22]) (n:=400) rfl (by decide) (by simp) (zV rfl) ?_ ?_ ?_ h
 · intro s; cases s<;>exact ⟨ym _ _,by simp [I55],zV rfl,Nat.le_of_ble_eq_true rfl⟩
 · intro fA fC x hS hR h
   refine Holds.eq (te55 cond fA fC ap np mp tp aq nq mq tq) ?_
   unfold Te55
   unfold p55 at h
   refine zA h (fun c0 h=>zA h (fun c1 h=>zA h (fun c2 h=> ?_) (fun c2 h=> ?_)) (fun c1 h=> ?_)) (fun c0 h=>zA h (fun c1 h=>zA h (fun c2 h=> ?_) (fun c2 h=> ?_)) (fun c1 h=> ?_))
   all_goals first
     |exact zF h
     |exact zb hS _ h (fun n=>bif Nat.beq n 2 then 2 else n) rfl rfl rfl ⟨(zM (zC rfl) rfl rfl rfl),⟨(zZ (zD rfl) rfl zW),⟨(zH rfl),⟨(zM (zC rfl) rfl rfl rfl),⟨(zH rfl),⟨(zH rfl),trivial⟩⟩⟩⟩⟩⟩ rfl (zL (zD rfl) rfl (Nat.le_of_eq zW) (zO (fun _ hj=>z3 (fun (t:Int)=>t) hj) zP) (zB (zC rfl) rfl rfl (zB (zC rfl) rfl rfl zE)))
 · intro fA fC x hS hR s h
   cases s with
   | h0 x0 x1 x2=>
    refine Holds.eq (t55_0 cond fA fC ap np mp tp aq nq mq tq x0 x1 x2) ?_
    unfold T55_0
    rw [q55] at h
    refine zA h (fun c0 h=>zA h (fun c1 h=>zA h (fun c2 h=>zA h (fun c3 h=>zA h (fun c4 h=>zA h (fun c5 h=>zA h (fun c6 h=>zA h (fun c7 h=>zA h (fun c8 h=>zA h (fun c9 h=>zA h (fun c10 h=>zA h (fun c11 h=>zJ rfl (zA h (fun c12 h=> ?_) (fun c12 h=> ?_))) (fun c11 h=> ?_)) (fun c10 h=> ?_)) (fun c9 h=> ?_)) (fun c8 h=>zA h (fun c9 h=>zA h (fun c10 h=>zJ rfl (zA h (fun c11 h=> ?_) (fun c11 h=> ?_))) (fun c10 h=> ?_)) (fun c9 h=> ?_))) (fun c7 h=> ?_)) (fun c6 h=> ?_)) (fun c5 h=> ?_)) (fun c4 h=>zA h (fun c5 h=>zA h (fun c6 h=>zA h (fun c7 h=>zA h (fun c8 h=>zJ rfl (zA h (fun c9 h=> ?_) (fun c9 h=> ?_))) (fun c8 h=> ?_)) (fun c7 h=> ?_)) (fun c6 h=> ?_)) (fun c5 h=>zA h (fun c6 h=>zA h (fun c7 h=>zJ rfl (zA h (fun c8 h=> ?_) (fun c8 h=> ?_))) (fun c7 h=> ?_)) (fun c6 h=> ?_)))) (fun c3 h=> ?_)) (fun c2 h=> ?_)) (fun c1 h=> ?_)) (fun c0 h=>zA h (fun c1 h=>zA h (fun c2 h=>zA h (fun c3 h=>zJ rfl (zU hR _ h (fun n=>bif Nat.beq n 3 then 4 else n) rfl rfl rfl (zZ (zD rfl) rfl (z5 rfl)) rfl (zL (zD rfl) rfl (Nat.le_of_eq (z5 rfl)) (zO (yq (fun (t:Int)=>t) rfl (fun _ _=>rfl)) zP) (zB (zC rfl) rfl rfl (zB (zC rfl) rfl rfl zE))))) (fun c3 h=> ?_)) (fun c2 h=> ?_)) (fun c1 h=>zU hR _ h (fun n=>bif Nat.beq n 3 then 2 else n) rfl rfl rfl (zZ (zD rfl) rfl rfl) rfl (zL (zD rfl) rfl (Nat.le_of_eq rfl) (zO (fun _ _=>rfl) zP) (zB (zC rfl) rfl rfl (zB (zC rfl) rfl rfl zE)))))
    all_goals first
      |exact zF h
      |exact zb hS _ h (fun n=>bif Nat.beq n 2 then 4 else n) rfl rfl rfl ⟨(zM (zC rfl) rfl rfl rfl),⟨(zZ (zD rfl) rfl (z5 rfl)),⟨(zH rfl),⟨(zM (zC rfl) rfl rfl rfl),⟨(zH rfl),⟨(zH rfl),trivial⟩⟩⟩⟩⟩⟩ rfl (zL (zD rfl) rfl (Nat.le_of_eq (z5 rfl)) (zO (yq (fun (t:Int)=>t) rfl (fun _ _=>rfl)) zP) (zB (zC rfl) rfl rfl (zB (zC rfl) rfl rfl zE)))
   | h1 x0 x1 x2=>
    refine Holds.eq (t55_1 cond fA fC ap np mp tp aq nq mq tq x0 x1 x2) ?_
    unfold T55_1
    rw [q55] at h
    refine zA h (fun c0 h=>zA h (fun c1 h=>zA h (fun c2 h=>zA h (fun c3 h=>zA h (fun c4 h=>zA h (fun c5 h=>zA h (fun c6 h=>zA h (fun c7 h=>zA h (fun c8 h=>zA h (fun c9 h=>zA h (fun c10 h=>zA h (fun c11 h=>zJ rfl (zA h (fun c12 h=> ?_) (fun c12 h=> ?_))) (fun c11 h=> ?_)) (fun c10 h=> ?_)) (fun c9 h=> ?_)) (fun c8 h=>zA h (fun c9 h=>zA h (fun c10 h=>zJ rfl (zA h (fun c11 h=> ?_) (fun c11 h=> ?_))) (fun c10 h=> ?_)) (fun c9 h=> ?_))) (fun c7 h=> ?_)) (fun c6 h=> ?_)) (fun c5 h=> ?_)) (fun c4 h=>zA h (fun c5 h=>zA h (fun c6 h=>zA h (fun c7 h=>zA h (fun c8 h=>zJ rfl (zA h (fun c9 h=> ?_) (fun c9 h=> ?_))) (fun c8 h=> ?_)) (fun c7 h=> ?_)) (fun c6 h=> ?_)) (fun c5 h=>zA h (fun c6 h=>zA h (fun c7 h=>zJ rfl (zA h (fun c8 h=> ?_) (fun c8 h=> ?_))) (fun c7 h=> ?_)) (fun c6 h=> ?_)))) (fun c3 h=> ?_)) (fun c2 h=> ?_)) (fun c1 h=> ?_)) (fun c0 h=>zA h (fun c1 h=>zA h (fun c2 h=>zA h (fun c3 h=>zJ rfl (zU hR _ h (fun n=>bif Nat.beq n 3 then 4 else n) rfl rfl rfl (zZ (zD rfl) rfl (z5 rfl)) rfl (zL (zD rfl) rfl (Nat.le_of_eq (z5 rfl)) (zO (yq (fun (t:Int)=>t) rfl (fun _ _=>rfl)) zP) (zB (zC rfl) rfl rfl (zB (zC rfl) rfl rfl zE))))) (fun c3 h=> ?_)) (fun c2 h=> ?_)) (fun c1 h=>zU hR _ h (fun n=>bif Nat.beq n 3 then 2 else n) rfl rfl rfl (zZ (zD rfl) rfl rfl) rfl (zL (zD rfl) rfl (Nat.le_of_eq rfl) (zO (fun _ _=>rfl) zP) (zB (zC rfl) rfl rfl (zB (zC rfl) rfl rfl zE)))))
    all_goals first
      |exact zF h
      |exact zb hS _ h (fun n=>bif Nat.beq n 2 then 4 else n) rfl rfl rfl ⟨(zM (zC rfl) rfl rfl rfl),⟨(zZ (zD rfl) rfl (z5 rfl)),⟨(zH rfl),⟨(zM (zC rfl) rfl rfl rfl),⟨(zH rfl),⟨(zH rfl),trivial⟩⟩⟩⟩⟩⟩ rfl (zL (zD rfl) rfl (Nat.le_of_eq (z5 rfl)) (zO (yq (fun (t:Int)=>t) rfl (fun _ _=>rfl)) zP) (zB (zC rfl) rfl rfl (zB (zC rfl) rfl rfl zE)))
end
noncomputable def k55:Con:=⟨115,[.one (.list [.int .i64]),.one (.list [.int .i64])],w60 (fun ap np mp tp aq nq mq tq=>decide ((ap+np≤mp∧aq+nq≤mq)∧(np≤1000∧nq≤1000)∧S.fF np (FS tp ap)=true∧S.fF nq (FS tq aq)=true)),w60 (fun ap np mp tp aq nq mq tq=>(V55) (S.fX (S.val np (FS tp ap)+S.val nq (FS tq aq)))),w60 (fun ap np mp tp aq nq mq tq=>(N55) (S.fX (S.val np (FS tp ap)+S.val nq (FS tq aq)))),fun _ _=> .dead⟩
theorem s55_h1 (ap np mp:Nat) (tp:Nat→Int) (aq nq mq:Nat) (tq:Nat→Int) (hp:ap+np≤mp∧aq+nq≤mq) (hn:nq≤np∧np≤1000) (g1:S.fF np (fun j=>tp (j+ap))=true) (g2:S.fF nq (fun j=>tq (j+aq))=true): ∀ (k i:Nat) (c:Int) (L:List Int),i+k=np→L.length=i→(0≤c∧c≤1)→Comes (q55 ap np mp tp aq nq mq tq) (.h1 c (i:Int) L) (L++S.fX (c+S.fD (fun j=>tp (j+ap)) i k+S.fD (S.ext nq (fun j=>tq (j+aq))) i k)):=by
 obtain ⟨hp1,hp2⟩:=hp
 have d1:=(zl.mp g1).1
 have d2:=(zl.mp g2).1
 intro k
 induction k with
 | zero=>
  intro i c L hi hL hc
  simp only [S.fD]
  apply Comes.of
  by_cases h0:c=0
  · subst h0
    simp only [Int.add_zero,z8,List.append_nil]
    show zX _ _ _
    (first|rw [q55]|unfold q55)
    repeat' (first|with_reducible refine zN (fun h=> ?_) (fun h=> ?_)<;>(try simp only [SH] at h)|exact zI.mpr (by omega))
    all_goals first|(exfalso; omega)|exact zG.mpr rfl
  · have:c=1:=by omega
    subst this
    simp only [Int.add_zero,ub,← wB]
    show zX _ _ _
    (first|rw [q55]|unfold q55)
    repeat' (first|with_reducible refine zN (fun h=> ?_) (fun h=> ?_)<;>(try simp only [SH] at h)|exact zI.mpr (by omega))
    all_goals first|(exfalso; omega)|exact zG.mpr rfl
 | succ k ih=>
  intro i c L hi hL hc
  have hpos:=nG g1 (i:=i) (by omega)
  rw [show np-i=k+1 by omega] at hpos
  have hb:=d1 i (by omega)
  have hb2:=vX d2 i
  have n1:=yI (t:=(fun j=>tp (j+ap))) (k:=k) (i:=i+1) fun j h1 h2=>(d1 j (by omega)).1
  have n2:=yI (t:=S.ext nq (fun j=>tq (j+aq))) (k:=k) (i:=i+1) fun j h1 h2=>(vX d2 j).1
  have ih0:=ih (i+1) 0 (S.fI L (tp (i+ap)+c+S.ext nq (fun j=>tq (j+aq)) i)) (by omega) (by rw [yE]; omega) (by omega)
  have ih1:=ih (i+1) 1 (S.fI L (tp (i+ap)+c+S.ext nq (fun j=>tq (j+aq)) i-1000000)) (by omega) (by rw [yE]; omega) (by omega)
  rw [yn] at ih0 ih1
  simp only [S.fD] at hpos ⊢
  (try dsimp only at hb)
  generalize S.fD (fun j=>tp (j+ap)) (i+1) k=vp at*
  generalize S.fD (S.ext nq (fun j=>tq (j+aq))) (i+1) k=vq at*
  have t0:tp (i+ap)+c+S.ext nq (fun j=>tq (j+aq)) i<1000000→S.fX (c+(tp (i+ap)+1000000*vp)+(S.ext nq (fun j=>tq (j+aq)) i+1000000*vq))=(tp (i+ap)+c+S.ext nq (fun j=>tq (j+aq)) i)::S.fX (0+vp+vq):=fun h=>by
   rw [show c+(tp (i+ap)+1000000*vp)+(S.ext nq (fun j=>tq (j+aq)) i+1000000*vq)=(tp (i+ap)+c+S.ext nq (fun j=>tq (j+aq)) i)+1000000*(0+vp+vq) by omega]
   exact wY (by omega) (by omega) (by omega)
  have t1:1000000≤tp (i+ap)+c+S.ext nq (fun j=>tq (j+aq)) i→S.fX (c+(tp (i+ap)+1000000*vp)+(S.ext nq (fun j=>tq (j+aq)) i+1000000*vq))=(tp (i+ap)+c+S.ext nq (fun j=>tq (j+aq)) i-1000000)::S.fX (1+vp+vq):=fun h=>by
   rw [show c+(tp (i+ap)+1000000*vp)+(S.ext nq (fun j=>tq (j+aq)) i+1000000*vq)=(tp (i+ap)+c+S.ext nq (fun j=>tq (j+aq)) i-1000000)+1000000*(1+vp+vq) by omega]
   exact wY (by omega) (by omega) (by omega)
  by_cases hq:i<nq
  · have e:S.ext nq (fun j=>tq (j+aq)) i=tq (i+aq):=if_pos hq
    rw [e] at t0 t1 ih0 ih1 hb2 ⊢
    by_cases h0:tp (i+ap)+c+tq (i+aq)<1000000
    · rw [t0 h0]
      apply Comes.of
      show zX _ _ _
      (first|rw [q55]|unfold q55)
      repeat' (first|with_reducible refine zN (fun h=> ?_) (fun h=> ?_)<;>(try simp only [SH] at h)|exact zI.mpr (by omega))
      all_goals first|(exfalso; omega)|exact ih0
    · rw [t1 (by omega)]
      apply Comes.of
      show zX _ _ _
      (first|rw [q55]|unfold q55)
      repeat' (first|with_reducible refine zN (fun h=> ?_) (fun h=> ?_)<;>(try simp only [SH] at h)|exact zI.mpr (by omega))
      all_goals first|(exfalso; omega)|exact ih1
  · have e:S.ext nq (fun j=>tq (j+aq)) i=0:=if_neg hq
    simp only [e,Int.add_zero] at t0 t1 ih0 ih1 hb2 ⊢
    by_cases h0:tp (i+ap)+c<1000000
    · rw [t0 h0]
      apply Comes.of
      show zX _ _ _
      (first|rw [q55]|unfold q55)
      repeat' (first|with_reducible refine zN (fun h=> ?_) (fun h=> ?_)<;>(try simp only [SH] at h)|exact zI.mpr (by omega))
      all_goals first|(exfalso; omega)|exact ih0
    · rw [t1 (by omega)]
      apply Comes.of
      show zX _ _ _
      (first|rw [q55]|unfold q55)
      repeat' (first|with_reducible refine zN (fun h=> ?_) (fun h=> ?_)<;>(try simp only [SH] at h)|exact zI.mpr (by omega))
      all_goals first|(exfalso; omega)|exact ih1
theorem s55_h0 (ap np mp:Nat) (tp:Nat→Int) (aq nq mq:Nat) (tq:Nat→Int) (hp:ap+np≤mp∧aq+nq≤mq) (hn:np≤nq∧nq≤1000) (g1:S.fF nq (fun j=>tq (j+aq))=true) (g2:S.fF np (fun j=>tp (j+ap))=true): ∀ (k i:Nat) (c:Int) (L:List Int),i+k=nq→L.length=i→(0≤c∧c≤1)→Comes (q55 ap np mp tp aq nq mq tq) (.h0 c (i:Int) L) (L++S.fX (c+S.fD (fun j=>tq (j+aq)) i k+S.fD (S.ext np (fun j=>tp (j+ap))) i k)):=by
 obtain ⟨hp1,hp2⟩:=hp
 have d1:=(zl.mp g1).1
 have d2:=(zl.mp g2).1
 intro k
 induction k with
 | zero=>
  intro i c L hi hL hc
  simp only [S.fD]
  apply Comes.of
  by_cases h0:c=0
  · subst h0
    simp only [Int.add_zero,z8,List.append_nil]
    show zX _ _ _
    (first|rw [q55]|unfold q55)
    repeat' (first|with_reducible refine zN (fun h=> ?_) (fun h=> ?_)<;>(try simp only [SH] at h)|exact zI.mpr (by omega))
    all_goals first|(exfalso; omega)|exact zG.mpr rfl
  · have:c=1:=by omega
    subst this
    simp only [Int.add_zero,ub,← wB]
    show zX _ _ _
    (first|rw [q55]|unfold q55)
    repeat' (first|with_reducible refine zN (fun h=> ?_) (fun h=> ?_)<;>(try simp only [SH] at h)|exact zI.mpr (by omega))
    all_goals first|(exfalso; omega)|exact zG.mpr rfl
 | succ k ih=>
  intro i c L hi hL hc
  have hpos:=nG g1 (i:=i) (by omega)
  rw [show nq-i=k+1 by omega] at hpos
  have hb:=d1 i (by omega)
  have hb2:=vX d2 i
  have n1:=yI (t:=(fun j=>tq (j+aq))) (k:=k) (i:=i+1) fun j h1 h2=>(d1 j (by omega)).1
  have n2:=yI (t:=S.ext np (fun j=>tp (j+ap))) (k:=k) (i:=i+1) fun j h1 h2=>(vX d2 j).1
  have ih0:=ih (i+1) 0 (S.fI L (tq (i+aq)+c+S.ext np (fun j=>tp (j+ap)) i)) (by omega) (by rw [yE]; omega) (by omega)
  have ih1:=ih (i+1) 1 (S.fI L (tq (i+aq)+c+S.ext np (fun j=>tp (j+ap)) i-1000000)) (by omega) (by rw [yE]; omega) (by omega)
  rw [yn] at ih0 ih1
  simp only [S.fD] at hpos ⊢
  (try dsimp only at hb)
  generalize S.fD (fun j=>tq (j+aq)) (i+1) k=vp at*
  generalize S.fD (S.ext np (fun j=>tp (j+ap))) (i+1) k=vq at*
  have t0:tq (i+aq)+c+S.ext np (fun j=>tp (j+ap)) i<1000000→S.fX (c+(tq (i+aq)+1000000*vp)+(S.ext np (fun j=>tp (j+ap)) i+1000000*vq))=(tq (i+aq)+c+S.ext np (fun j=>tp (j+ap)) i)::S.fX (0+vp+vq):=fun h=>by
   rw [show c+(tq (i+aq)+1000000*vp)+(S.ext np (fun j=>tp (j+ap)) i+1000000*vq)=(tq (i+aq)+c+S.ext np (fun j=>tp (j+ap)) i)+1000000*(0+vp+vq) by omega]
   exact wY (by omega) (by omega) (by omega)
  have t1:1000000≤tq (i+aq)+c+S.ext np (fun j=>tp (j+ap)) i→S.fX (c+(tq (i+aq)+1000000*vp)+(S.ext np (fun j=>tp (j+ap)) i+1000000*vq))=(tq (i+aq)+c+S.ext np (fun j=>tp (j+ap)) i-1000000)::S.fX (1+vp+vq):=fun h=>by
   rw [show c+(tq (i+aq)+1000000*vp)+(S.ext np (fun j=>tp (j+ap)) i+1000000*vq)=(tq (i+aq)+c+S.ext np (fun j=>tp (j+ap)) i-1000000)+1000000*(1+vp+vq) by omega]
   exact wY (by omega) (by omega) (by omega)
  by_cases hq:i<np
  · have e:S.ext np (fun j=>tp (j+ap)) i=tp (i+ap):=if_pos hq
    rw [e] at t0 t1 ih0 ih1 hb2 ⊢
    by_cases h0:tq (i+aq)+c+tp (i+ap)<1000000
    · rw [t0 h0]
      apply Comes.of
      show zX _ _ _
      (first|rw [q55]|unfold q55)
      repeat' (first|with_reducible refine zN (fun h=> ?_) (fun h=> ?_)<;>(try simp only [SH] at h)|exact zI.mpr (by omega))
      all_goals first|(exfalso; omega)|exact ih0
    · rw [t1 (by omega)]
      apply Comes.of
      show zX _ _ _
      (first|rw [q55]|unfold q55)
      repeat' (first|with_reducible refine zN (fun h=> ?_) (fun h=> ?_)<;>(try simp only [SH] at h)|exact zI.mpr (by omega))
      all_goals first|(exfalso; omega)|exact ih1
  · have e:S.ext np (fun j=>tp (j+ap)) i=0:=if_neg hq
    simp only [e,Int.add_zero] at t0 t1 ih0 ih1 hb2 ⊢
    by_cases h0:tq (i+aq)+c<1000000
    · rw [t0 h0]
      apply Comes.of
      show zX _ _ _
      (first|rw [q55]|unfold q55)
      repeat' (first|with_reducible refine zN (fun h=> ?_) (fun h=> ?_)<;>(try simp only [SH] at h)|exact zI.mpr (by omega))
      all_goals first|(exfalso; omega)|exact ih0
    · rw [t1 (by omega)]
      apply Comes.of
      show zX _ _ _
      (first|rw [q55]|unfold q55)
      repeat' (first|with_reducible refine zN (fun h=> ?_) (fun h=> ?_)<;>(try simp only [SH] at h)|exact zI.mpr (by omega))
      all_goals first|(exfalso; omega)|exact ih1
theorem s55 (ap np mp:Nat) (tp:Nat→Int) (aq nq mq:Nat) (tq:Nat→Int) (hp:(ap+np≤mp∧aq+nq≤mq)∧(np≤1000∧nq≤1000)∧S.fF np (fun j=>tp (j+ap))=true∧S.fF nq (fun j=>tq (j+aq))=true):zX ((q55 ap np mp tp aq nq mq tq)) ((p55 ap np mp tp aq nq mq tq)) (S.fX (S.val np (fun j=>tp (j+ap))+S.val nq (fun j=>tq (j+aq)))):=by
 obtain ⟨hp1,⟨hp2,hp3⟩,g1,g2⟩:=hp
 by_cases hn:np<nq
 · have hm:=s55_h0 ap np mp tp aq nq mq tq hp1 (by omega) g2 g1 nq 0 0 [] (by omega) rfl (by omega)
   rw [uS,Nat.sub_zero,Nat.min_eq_right (by omega),Int.zero_add,List.nil_append,Int.add_comm] at hm
   have e0:(S.fJ 0 fun _=>(0:Int))= []:=rfl
   show zX _ _ _
   unfold p55
   repeat' (first|with_reducible refine zN (fun h=> ?_) (fun h=> ?_)<;>(try simp only [SH] at h)|exact zI.mpr (by omega))
   all_goals first|(exfalso; omega)|exact hm
 · have hm:=s55_h1 ap np mp tp aq nq mq tq hp1 (by omega) g1 g2 np 0 0 [] (by omega) rfl (by omega)
   rw [uS,Nat.sub_zero,Nat.min_eq_right (by omega),Int.zero_add,List.nil_append] at hm
   show zX _ _ _
   unfold p55
   repeat' (first|with_reducible refine zN (fun h=> ?_) (fun h=> ?_)<;>(try simp only [SH] at h)|exact zI.mpr (by omega))
   all_goals first|(exfalso; omega)|exact hm
theorem k55_ok:k55.ok Tryz.prog:=by
 intro x hx
 obtain ⟨⟨ap,np,mp,tp,_⟩,⟨aq,nq,mq,tq,_⟩,_⟩:=x
 obtain ⟨h1,h2⟩:=a55 ap np mp tp aq nq mq tq (s55 ap np mp tp aq nq mq tq (zo hx rfl))
 exact ⟨⟨400,(by decide:2+1+1≤400),h1⟩,h2⟩
noncomputable def xB0 (g9:Bool→Prop→Prop→Prop):Ext:=xK g9 [k69,k65,k69v,k65v,k60,k61,k44,k73,k55,k45]
theorem uH:yZ Tryz.prog (xB0 cond):=yN ⟨k69_ok,k65_ok,k69v_ok,k65v_ok,k60_ok,k61_ok,k44_ok,k73_ok,k55_ok,k45_ok,trivial⟩
namespace S
noncomputable def fg (v:Int):Nat×List Int:=((fX v).length,fX v)
def fW (ng:Bool) (v:Int):Bool:=ng&&decide (0<v)
end S
section
variable (g9:TT) (fA:KS) (fC:KR) (ap np mp:Nat) (tp:NI) (aq nq mq:Nat) (tq:NI)
inductive St58 where
 |h0 (x0:Int) (x1:Int) (x2:List Int)
abbrev Rt58:=Nat×List Int
noncomputable def V58 (r:Rt58):PV:= .loose ⟨3,1,0,0⟩ r.1
noncomputable def N58 (r:Rt58):List Blk:= [CI r.2]
noncomputable def I58:St58→Hd
  | .h0 x0 x1 x2=>⟨hd Tryz.f117 0,[.loose ⟨0,1,ap,0⟩ np,
 .loose ⟨1,1,aq,0⟩ nq,
 .own 2 1 x2.length,.int .i64 x0,.int .i64 x1],[[(2,(true,CI x2))],[(0,(false,CB mp tp)),(1,(false,CB mq tq))]],3⟩
noncomputable def q58 (ap np mp:Nat) (tp:NI) (aq nq mq:Nat) (tq:NI):St58→Option (St58⊕Rt58)| .h0 x0 x1 x2=>bif (decide (x1<(np:Int))) then (bif (decide ((0:Int)≤x1∧x1<(np:Int))) then (bif (decide (x1.toNat+ap<mp)) then (bif (decide (x1<(nq:Int))) then (bif (decide ((0:Int)≤x1∧x1<(nq:Int))) then (bif (decide (x1.toNat+aq<mq)) then (bif (lim .i64 (tp (x1.toNat+ap)+tq (x1.toNat+aq))) then (bif (lim .i64 (tp (x1.toNat+ap)+tq (x1.toNat+aq)+x0)) then (bif (decide (x2.length+1≤1000000)) then (bif (decide (x2.length≤x2.length)) then (bif (lim .i64 (Int.tdiv (tp (x1.toNat+ap)+tq (x1.toNat+aq)+x0) (1000000:Int))) then (bif (lim .i64 (x1+1)) then (some (.inl (.h0 (Int.tdiv (tp (x1.toNat+ap)+tq (x1.toNat+aq)+x0) (1000000:Int)) (x1+1) (S.fI x2 (Int.tmod (tp (x1.toNat+ap)+tq (x1.toNat+aq)+x0) (1000000:Int)))))) else none) else none) else none) else none) else none) else none) else none) else none) else (bif (lim .i64 (tp (x1.toNat+ap)+0)) then (bif (lim .i64 (tp (x1.toNat+ap)+0+x0)) then (bif (decide (x2.length+1≤1000000)) then (bif (decide (x2.length≤x2.length)) then (bif (lim .i64 (Int.tdiv (tp (x1.toNat+ap)+0+x0) (1000000:Int))) then (bif (lim .i64 (x1+1)) then (some (.inl (.h0 (Int.tdiv (tp (x1.toNat+ap)+0+x0) (1000000:Int)) (x1+1) (S.fI x2 (Int.tmod (tp (x1.toNat+ap)+0+x0) (1000000:Int)))))) else none) else none) else none) else none) else none) else none)) else none) else none) else (bif (decide (x1<(nq:Int))) then (bif (decide ((0:Int)≤x1∧x1<(nq:Int))) then (bif (decide (x1.toNat+aq<mq)) then (bif (lim .i64 ((0:Int)+tq (x1.toNat+aq))) then (bif (lim .i64 ((0:Int)+tq (x1.toNat+aq)+x0)) then (bif (decide (x2.length+1≤1000000)) then (bif (decide (x2.length≤x2.length)) then (bif (lim .i64 (Int.tdiv ((0:Int)+tq (x1.toNat+aq)+x0) (1000000:Int))) then (bif (lim .i64 (x1+1)) then (some (.inl (.h0 (Int.tdiv ((0:Int)+tq (x1.toNat+aq)+x0) (1000000:Int)) (x1+1) (S.fI x2 (Int.tmod ((0:Int)+tq (x1.toNat+aq)+x0) (1000000:Int)))))) else none) else none) else none) else none) else none) else none) else none) else none) else (bif (decide (x2.length+1≤1000000)) then (bif (decide (x2.length≤x2.length)) then (bif (decide (x2.length+1≤x2.length+1)) then (some (.inr ((S.trim (S.fJ (x2.length+1) fun j=>bif Nat.blt j x2.length then S.at' x2 j else x0)).length,S.trim (S.fJ (x2.length+1) fun j=>bif Nat.blt j x2.length then S.at' x2 j else x0)))) else none) else none) else none))
noncomputable def p58 (ap np mp:Nat) (tp:NI) (aq nq mq:Nat) (tq:NI):Option (St58⊕Rt58):=some (.inl (.h0 ((0:Int)) ((0:Int)) []))
def Te58:Prop:=fA (hd Tryz.f117 0) ([.loose ⟨0,1,ap,0⟩ np,.loose ⟨1,1,aq,0⟩ nq,.nils,.int .i64 0,.int .i64 0]) ([[(1,false,CB mq tq),(0,false,CB mp tp)]]) 2
theorem te58:run g9 Tryz.env true (xB0 g9) true 400 ⟨117,[.cd (zS Tryz.f117).body],yD 0 [.loose ⟨0,1,ap,0⟩ np,.loose ⟨1,1,aq,0⟩ nq],[[],[(0,(false,CB mp tp)),(1,(false,CB mq tq))]],2⟩ (zq 2 [0,1,5,6,7] fA fC)=
 Te58 fA ap np mp tp aq nq mq tq:=by kernel_rfl
noncomputable abbrev u58_0_0:=(1,false,Blk.cols mq [Col.int IntKind.i64 tq])
noncomputable abbrev u58_0_1:=(0,false,Blk.cols mp [Col.int IntKind.i64 tp])
noncomputable abbrev u58_0_2 (x0:Int) (x2:List Int):=S.trim (S.fJ (x2.length+1) fun j=>bif Nat.blt j x2.length then S.at' x2 j else x0)
def T58_0 (x0 x1:Int) (x2:List Int):Prop:=g9 (decide (x1<(np:Int))) (g9 (decide (x1<(np:Int))) (g9 (decide ((0:Int)≤x1∧x1<(np:Int))) (g9 (decide (x1.toNat+ap<mp)) (g9 (decide (x1<(nq:Int))) (g9 (decide ((0:Int)≤x1∧x1<(nq:Int))) (g9 (decide (x1.toNat+aq<mq)) (g9 (lim .i64 (tp (x1.toNat+ap)+tq (x1.toNat+aq))) (g9 (lim .i64 (tp (x1.toNat+ap)+tq (x1.toNat+aq)+x0)) (g9 false False (g9 (decide (x2.length+1≤1000000)) (g9 (decide (x2.length≤x2.length)) (g9 true (g9 false False (g9 (lim .i64 (Int.tdiv (tp (x1.toNat+ap)+tq (x1.toNat+aq)+x0) (1000000:Int))) (g9 (lim .i64 (x1+1)) (fA (hd Tryz.f117 0) ([.loose ⟨0,1,ap,0⟩ np,.loose ⟨1,1,aq,0⟩ nq,.own 4 1 (x2.length+1),.int .i64 (Int.tdiv (tp (x1.toNat+ap)+tq (x1.toNat+aq)+x0) (1000000:Int)),.int .i64 (x1+1)]) ([[(u58_0_0 mq tq),(u58_0_1 mp tp),(4,true,.cols (x2.length+1) [.int .i64 fun j=>bif Nat.blt j x2.length then S.at' x2 j else Int.tmod (tp (x1.toNat+ap)+tq (x1.toNat+aq)+x0) (1000000:Int)])]]) 5) False) False)) False) False) False)) False) False) False) False) (g9 (lim .i64 (tp (x1.toNat+ap)+0)) (g9 (lim .i64 (tp (x1.toNat+ap)+0+x0)) (g9 false False (g9 (decide (x2.length+1≤1000000)) (g9 (decide (x2.length≤x2.length)) (g9 true (g9 false False (g9 (lim .i64 (Int.tdiv (tp (x1.toNat+ap)+0+x0) (1000000:Int))) (g9 (lim .i64 (x1+1)) (fA (hd Tryz.f117 0) ([.loose ⟨0,1,ap,0⟩ np,.loose ⟨1,1,aq,0⟩ nq,.own 4 1 (x2.length+1),.int .i64 (Int.tdiv (tp (x1.toNat+ap)+0+x0) (1000000:Int)),.int .i64 (x1+1)]) ([[(u58_0_0 mq tq),(u58_0_1 mp tp),(4,true,.cols (x2.length+1) [.int .i64 fun j=>bif Nat.blt j x2.length then S.at' x2 j else Int.tmod (tp (x1.toNat+ap)+0+x0) (1000000:Int)])]]) 5) False) False)) False) False) False)) False) False)) False) False) (g9 (decide (x1<(nq:Int))) (g9 (decide ((0:Int)≤x1∧x1<(nq:Int))) (g9 (decide (x1.toNat+aq<mq)) (g9 (lim .i64 ((0:Int)+tq (x1.toNat+aq))) (g9 (lim .i64 ((0:Int)+tq (x1.toNat+aq)+x0)) (g9 false False (g9 (decide (x2.length+1≤1000000)) (g9 (decide (x2.length≤x2.length)) (g9 true (g9 false False (g9 (lim .i64 (Int.tdiv ((0:Int)+tq (x1.toNat+aq)+x0) (1000000:Int))) (g9 (lim .i64 (x1+1)) (fA (hd Tryz.f117 0) ([.loose ⟨0,1,ap,0⟩ np,.loose ⟨1,1,aq,0⟩ nq,.own 4 1 (x2.length+1),.int .i64 (Int.tdiv ((0:Int)+tq (x1.toNat+aq)+x0) (1000000:Int)),.int .i64 (x1+1)]) ([[(u58_0_0 mq tq),(u58_0_1 mp tp),(4,true,.cols (x2.length+1) [.int .i64 fun j=>bif Nat.blt j x2.length then S.at' x2 j else Int.tmod ((0:Int)+tq (x1.toNat+aq)+x0) (1000000:Int)])]]) 5) False) False)) False) False) False)) False) False) False) False) (g9 true (g9 (lim .i64 ((0:Int)+x0)) (g9 false False (g9 (decide (x2.length+1≤1000000)) (g9 (decide (x2.length≤x2.length)) (g9 true (g9 false False (g9 (lim .i64 (Int.tdiv ((0:Int)+x0) (1000000:Int))) (g9 (lim .i64 (x1+1)) (fA (hd Tryz.f117 0) ([.loose ⟨0,1,ap,0⟩ np,.loose ⟨1,1,aq,0⟩ nq,.own 4 1 (x2.length+1),.int .i64 (Int.tdiv ((0:Int)+x0) (1000000:Int)),.int .i64 (x1+1)]) ([[(u58_0_0 mq tq),(u58_0_1 mp tp),(4,true,.cols (x2.length+1) [.int .i64 fun j=>bif Nat.blt j x2.length then S.at' x2 j else Int.tmod ((0:Int)+x0) (1000000:Int)])]]) 5) False) False)) False) False) False)) False) False))) (g9 (decide (x1<(nq:Int))) (g9 (decide (x1<(np:Int))) (g9 (decide ((0:Int)≤x1∧x1<(np:Int))) (g9 (decide (x1.toNat+ap<mp)) (g9 (decide (x1<(nq:Int))) (g9 (decide ((0:Int)≤x1∧x1<(nq:Int))) (g9 (decide (x1.toNat+aq<mq)) (g9 (lim .i64 (tp (x1.toNat+ap)+tq (x1.toNat+aq))) (g9 (lim .i64 (tp (x1.toNat+ap)+tq (x1.toNat+aq)+x0)) (g9 false False (g9 (decide (x2.length+1≤1000000)) (g9 (decide (x2.length≤x2.length)) (g9 true (g9 false False (g9 (lim .i64 (Int.tdiv (tp (x1.toNat+ap)+tq (x1.toNat+aq)+x0) (1000000:Int))) (g9 (lim .i64 (x1+1)) (fA (hd Tryz.f117 0) ([.loose ⟨0,1,ap,0⟩ np,.loose ⟨1,1,aq,0⟩ nq,.own 4 1 (x2.length+1),.int .i64 (Int.tdiv (tp (x1.toNat+ap)+tq (x1.toNat+aq)+x0) (1000000:Int)),.int .i64 (x1+1)]) ([[(u58_0_0 mq tq),(u58_0_1 mp tp),(4,true,.cols (x2.length+1) [.int .i64 fun j=>bif Nat.blt j x2.length then S.at' x2 j else Int.tmod (tp (x1.toNat+ap)+tq (x1.toNat+aq)+x0) (1000000:Int)])]]) 5) False) False)) False) False) False)) False) False) False) False) (g9 (lim .i64 (tp (x1.toNat+ap)+0)) (g9 (lim .i64 (tp (x1.toNat+ap)+0+x0)) (g9 false False (g9 (decide (x2.length+1≤1000000)) (g9 (decide (x2.length≤x2.length)) (g9 true (g9 false False (g9 (lim .i64 (Int.tdiv (tp (x1.toNat+ap)+0+x0) (1000000:Int))) (g9 (lim .i64 (x1+1)) (fA (hd Tryz.f117 0) ([.loose ⟨0,1,ap,0⟩ np,.loose ⟨1,1,aq,0⟩ nq,.own 4 1 (x2.length+1),.int .i64 (Int.tdiv (tp (x1.toNat+ap)+0+x0) (1000000:Int)),.int .i64 (x1+1)]) ([[(u58_0_0 mq tq),(u58_0_1 mp tp),(4,true,.cols (x2.length+1) [.int .i64 fun j=>bif Nat.blt j x2.length then S.at' x2 j else Int.tmod (tp (x1.toNat+ap)+0+x0) (1000000:Int)])]]) 5) False) False)) False) False) False)) False) False)) False) False) (g9 (decide (x1<(nq:Int))) (g9 (decide ((0:Int)≤x1∧x1<(nq:Int))) (g9 (decide (x1.toNat+aq<mq)) (g9 (lim .i64 ((0:Int)+tq (x1.toNat+aq))) (g9 (lim .i64 ((0:Int)+tq (x1.toNat+aq)+x0)) (g9 false False (g9 (decide (x2.length+1≤1000000)) (g9 (decide (x2.length≤x2.length)) (g9 true (g9 false False (g9 (lim .i64 (Int.tdiv ((0:Int)+tq (x1.toNat+aq)+x0) (1000000:Int))) (g9 (lim .i64 (x1+1)) (fA (hd Tryz.f117 0) ([.loose ⟨0,1,ap,0⟩ np,.loose ⟨1,1,aq,0⟩ nq,.own 4 1 (x2.length+1),.int .i64 (Int.tdiv ((0:Int)+tq (x1.toNat+aq)+x0) (1000000:Int)),.int .i64 (x1+1)]) ([[(u58_0_0 mq tq),(u58_0_1 mp tp),(4,true,.cols (x2.length+1) [.int .i64 fun j=>bif Nat.blt j x2.length then S.at' x2 j else Int.tmod ((0:Int)+tq (x1.toNat+aq)+x0) (1000000:Int)])]]) 5) False) False)) False) False) False)) False) False) False) False) (g9 true (g9 (lim .i64 ((0:Int)+x0)) (g9 false False (g9 (decide (x2.length+1≤1000000)) (g9 (decide (x2.length≤x2.length)) (g9 true (g9 false False (g9 (lim .i64 (Int.tdiv ((0:Int)+x0) (1000000:Int))) (g9 (lim .i64 (x1+1)) (fA (hd Tryz.f117 0) ([.loose ⟨0,1,ap,0⟩ np,.loose ⟨1,1,aq,0⟩ nq,.own 4 1 (x2.length+1),.int .i64 (Int.tdiv ((0:Int)+x0) (1000000:Int)),.int .i64 (x1+1)]) ([[(u58_0_0 mq tq),(u58_0_1 mp tp),(4,true,.cols (x2.length+1) [.int .i64 fun j=>bif Nat.blt j x2.length then S.at' x2 j else Int.tmod ((0:Int)+x0) (1000000:Int)])]]) 5) False) False)) False) False) False)) False) False))) (g9 (decide (x2.length+1≤1000000)) (g9 (decide (x2.length≤x2.length)) (g9 true (g9 (decide (x2.length+1≤x2.length+1)) (g9 (decide (x2.length+1≤1000000)) (fC (.own 4 1 (u58_0_2 x0 x2).length) ([[(u58_0_0 mq tq),(u58_0_1 mp tp),(4,true,CI (u58_0_2 x0 x2))]]) 6) False) False) False) False) False))
theorem t58_0 (x0 x1:Int) (x2:List Int):run g9 Tryz.env true (xB0 g9) true 400 ⟨117,hd Tryz.f117 0,yc [0,1,5,6,7] [.loose ⟨0,1,ap,0⟩ np,
 .loose ⟨1,1,aq,0⟩ nq,
 .own 2 1 x2.length,.int .i64 x0,.int .i64 x1],[[(2,(true,CI x2))],[(0,(false,CB mp tp)),(1,(false,CB mq tq))]],3⟩ (zq 2 [0,1,5,6,7] fA fC)=
  T58_0 g9 fA fC ap np mp tp aq nq mq tq x0 x1 x2:=by kernel_rfl
noncomputable abbrev J58:Rt58→zQ:=fun r=> [yJ (2+1) ((N58) r)++ [(0,(false,CB mp tp)),(1,(false,CB mq tq))]]
attribute [local irreducible] Int.subNatNat in
theorem a58 {r:Rt58} (h:zX ((q58 ap np mp tp aq nq mq tq)) ((p58 ap np mp tp aq nq mq tq)) r):zn Tryz.prog 117 [.loose ⟨0,1,ap,0⟩ np,.loose ⟨1,1,aq,0⟩ nq] [[(0,(false,CB mp tp)),(1,(false,CB mq tq))]] 2 ((V58) r) ((J58 mp tp mq tq) r) 400∧HB Tryz.prog 117:=by
 refine zf Tryz.envOk Tryz.mixed uH ((I58 ap np mp tp aq nq mq tq)) ((V58)) (J58 mp tp mq tq) (fn:=zS Tryz.f117) (ts:= [0,1,5,6,7]) (n:=400) rfl (by decide) (by simp) (zV rfl) ?_ ?_ ?_ h
 · intro s; cases s<;>exact ⟨ym _ _,by simp [I58],zV rfl,Nat.le_of_ble_eq_true rfl⟩
 · intro fA fC x hS hR h
   refine Holds.eq (te58 cond fA fC ap np mp tp aq nq mq tq) ?_
   unfold Te58
   exact zb hS _ h (fun n=>bif Nat.beq n 2 then 399 else n) rfl rfl rfl ⟨(zM (zC rfl) rfl rfl rfl),⟨(zM (zC rfl) rfl rfl rfl),⟨(zT rfl),⟨(zH rfl),⟨(zH rfl),trivial⟩⟩⟩⟩⟩ rfl (zY (zD rfl) (zc rfl) (zB (zC rfl) rfl rfl (zB (zC rfl) rfl rfl zE)))
 · intro fA fC x hS hR s h
   cases s with
   | h0 x0 x1 x2=>
    refine Holds.eq (t58_0 cond fA fC ap np mp tp aq nq mq tq x0 x1 x2) ?_
    unfold T58_0
    rw [q58] at h
    refine zA h (fun c0 h=>zJ c0 (zA h (fun c1 h=>zA h (fun c2 h=>zA h (fun c3 h=>zA h (fun c4 h=>zA h (fun c5 h=>zA h (fun c6 h=>zA h (fun c7 h=>za rfl (zA h (fun c8 h=>zA h (fun c9 h=>zJ rfl (za rfl (zA h (fun c10 h=>zA h (fun c11 h=> ?_) (fun c11 h=> ?_)) (fun c10 h=> ?_)))) (fun c9 h=> ?_)) (fun c8 h=> ?_))) (fun c7 h=> ?_)) (fun c6 h=> ?_)) (fun c5 h=> ?_)) (fun c4 h=> ?_)) (fun c3 h=>zA h (fun c4 h=>zA h (fun c5 h=>za rfl (zA h (fun c6 h=>zA h (fun c7 h=>zJ rfl (za rfl (zA h (fun c8 h=>zA h (fun c9 h=> ?_) (fun c9 h=> ?_)) (fun c8 h=> ?_)))) (fun c7 h=> ?_)) (fun c6 h=> ?_))) (fun c5 h=> ?_)) (fun c4 h=> ?_))) (fun c2 h=> ?_)) (fun c1 h=> ?_))) (fun c0 h=>zA h (fun c1 h=>za c0 (zJ c1 (zA h (fun c2 h=>zA h (fun c3 h=>zA h (fun c4 h=>zA h (fun c5 h=>za rfl (zA h (fun c6 h=>zA h (fun c7 h=>zJ rfl (za rfl (zA h (fun c8 h=>zA h (fun c9 h=> ?_) (fun c9 h=> ?_)) (fun c8 h=> ?_)))) (fun c7 h=> ?_)) (fun c6 h=> ?_))) (fun c5 h=> ?_)) (fun c4 h=> ?_)) (fun c3 h=> ?_)) (fun c2 h=> ?_)))) (fun c1 h=>zA h (fun c2 h=>zA h (fun c3 h=>zJ rfl (zA h (fun c4 h=>zJ c2 (zU hR _ h (fun n=>bif Nat.beq n 3 then 4 else n) rfl rfl rfl (yQ (zD rfl) rfl rfl rfl) rfl (zL (zD rfl) rfl (Nat.le_of_eq rfl) (zO (fun _ _=>rfl) zP) (zB (zC rfl) rfl rfl (zB (zC rfl) rfl rfl zE))))) (fun c4 h=> ?_))) (fun c3 h=> ?_)) (fun c2 h=> ?_)))
    all_goals first
      |exact zF h
      |exact zb hS _ h (fun n=>bif Nat.beq n 2 then 4 else n) rfl rfl rfl ⟨(zM (zC rfl) rfl rfl rfl),⟨(zM (zC rfl) rfl rfl rfl),⟨(zZ (zD rfl) rfl (z5 rfl)),⟨(zH rfl),⟨(zH rfl),trivial⟩⟩⟩⟩⟩ rfl (zL (zD rfl) rfl (Nat.le_of_eq (z5 rfl)) (zO (yq (fun (t:Int)=>t) rfl (fun _ _=>rfl)) zP) (zB (zC rfl) rfl rfl (zB (zC rfl) rfl rfl zE)))
end
noncomputable def k58:Con:=⟨117,[.one (.list [.int .i64]),.one (.list [.int .i64])],w60 (fun ap np mp tp aq nq mq tq=>decide ((ap+np≤mp∧aq+nq≤mq)∧(np≤1000∧nq≤1000)∧S.fF np (FS tp ap)=true∧S.fF nq (FS tq aq)=true)),w60 (fun ap np mp tp aq nq mq tq=>(V58) (S.fg (S.val np (FS tp ap)+S.val nq (FS tq aq)))),w60 (fun ap np mp tp aq nq mq tq=>(N58) (S.fg (S.val np (FS tp ap)+S.val nq (FS tq aq)))),fun _ _=> .dead⟩
theorem s58' (ap np mp:Nat) (tp:Nat→Int) (aq nq mq:Nat) (tq:Nat→Int) (hp:(ap+np≤mp∧aq+nq≤mq)∧(np≤1000∧nq≤1000)∧S.fF np (fun j=>tp (j+ap))=true∧S.fF nq (fun j=>tq (j+aq))=true): ∀ (k i:Nat) (c:Int) (L:List Int),i+k=max np nq→L.length=i→(0≤c∧c≤1)→ ∃ D:List Int,(∀ y ∈ D,0≤y∧y<1000000)∧S.fZ D=c+S.fD (S.ext np (fun j=>tp (j+ap))) i k+S.fD (S.ext nq (fun j=>tq (j+aq))) i k∧Comes (q58 ap np mp tp aq nq mq tq) (.h0 c (i:Int) L) ((S.trim (L++D)).length,S.trim (L++D)):=by
 obtain ⟨⟨hp1,hp2⟩,⟨hp3,hp4⟩,g1,g2⟩:=hp
 have d1:=(zl.mp g1).1
 have d2:=(zl.mp g2).1
 intro k
 induction k with
 |zero=>
  intro i c L hi hL hc
  refine ⟨[c],xA (by omega) (fun y hy=>by cases hy),by simp only [S.fZ,S.fD]; omega,?_⟩
  rw [← jc]
  apply Comes.of
  show zX _ _ _
  (first|rw [q58]|unfold q58)
  repeat' (first|with_reducible refine zN (fun h=> ?_) (fun h=> ?_)<;>(try simp only [SH] at h)|exact zI.mpr (by omega))
  all_goals first|(exfalso; omega)|exact zG.mpr rfl
 | succ k ih=>
  intro i c L hi hL hc
  have hb:=vX d1 i
  have hb2:=vX d2 i
  obtain ⟨D,h1,h2,h3⟩:=ih (i+1) ((S.ext np (fun j=>tp (j+ap)) i+S.ext nq (fun j=>tq (j+aq)) i+c) / 1000000) (S.fI L ((S.ext np (fun j=>tp (j+ap)) i+S.ext nq (fun j=>tq (j+aq)) i+c) % 1000000)) (by omega) (by rw [yE]; omega) (by omega)
  refine ⟨((S.ext np (fun j=>tp (j+ap)) i+S.ext nq (fun j=>tq (j+aq)) i+c) % 1000000)::D,xA (by omega) h1,by simp only [S.fZ,S.fD]; rw [h2]; omega,?_⟩
  rw [yn] at h3
  have tB:=tdB (x:=S.ext np (fun j=>tp (j+ap)) i+S.ext nq (fun j=>tq (j+aq)) i+c) (by omega)
  have mB:=tmB (x:=S.ext np (fun j=>tp (j+ap)) i+S.ext nq (fun j=>tq (j+aq)) i+c) (by omega)
  rw [← tB,← mB] at h3
  rw [← mB]
  have tb:0≤Int.tdiv (S.ext np (fun j=>tp (j+ap)) i+S.ext nq (fun j=>tq (j+aq)) i+c) 1000000∧Int.tdiv (S.ext np (fun j=>tp (j+ap)) i+S.ext nq (fun j=>tq (j+aq)) i+c) 1000000≤1:=by rw [tB]; omega
  have e1:S.ext np (fun j=>tp (j+ap)) i=if i<np then tp (i+ap) else 0:=rfl
  have e2:S.ext nq (fun j=>tq (j+aq)) i=if i<nq then tq (i+aq) else 0:=rfl
  by_cases c1:i<np
  · rw [if_pos c1] at e1
    by_cases c2:i<nq
    · rw [if_pos c2] at e2
      simp only [e1,e2] at h3 tb hb hb2 ⊢
      clear tB mB ih h2
      apply Comes.of
      show zX _ _ _
      (first|rw [q58]|unfold q58)
      repeat' (first|with_reducible refine zN (fun h=> ?_) (fun h=> ?_)<;>(try simp only [SH] at h)|exact zI.mpr (by omega))
      all_goals first|(exfalso; omega)|exact h3
    · rw [if_neg c2] at e2
      simp only [e1,e2] at h3 tb hb hb2 ⊢
      clear tB mB ih h2
      apply Comes.of
      show zX _ _ _
      (first|rw [q58]|unfold q58)
      repeat' (first|with_reducible refine zN (fun h=> ?_) (fun h=> ?_)<;>(try simp only [SH] at h)|exact zI.mpr (by omega))
      all_goals first|(exfalso; omega)|exact h3
  · rw [if_neg c1] at e1
    by_cases c2:i<nq
    · rw [if_pos c2] at e2
      simp only [e1,e2] at h3 tb hb hb2 ⊢
      clear tB mB ih h2
      apply Comes.of
      show zX _ _ _
      (first|rw [q58]|unfold q58)
      repeat' (first|with_reducible refine zN (fun h=> ?_) (fun h=> ?_)<;>(try simp only [SH] at h)|exact zI.mpr (by omega))
      all_goals first|(exfalso; omega)|exact h3
    · exfalso; omega
theorem s58 (ap np mp:Nat) (tp:Nat→Int) (aq nq mq:Nat) (tq:Nat→Int) (hp:(ap+np≤mp∧aq+nq≤mq)∧(np≤1000∧nq≤1000)∧S.fF np (fun j=>tp (j+ap))=true∧S.fF nq (fun j=>tq (j+aq))=true):zX ((q58 ap np mp tp aq nq mq tq)) ((p58 ap np mp tp aq nq mq tq)) ((S.fg (S.val np (fun j=>tp (j+ap))+S.val nq (fun j=>tq (j+aq)))).1,(S.fg (S.val np (fun j=>tp (j+ap))+S.val nq (fun j=>tq (j+aq)))).2):=by
 obtain ⟨D,h1,h2,h3⟩:=s58' ap np mp tp aq nq mq tq hp (max np nq) 0 0 [] (by omega) rfl (by omega)
 rw [uS,uS,Nat.sub_zero,Nat.sub_zero,Nat.min_eq_right (by omega),Nat.min_eq_right (by omega),Int.zero_add] at h2
 rw [List.nil_append,xL h1,h2] at h3
 exact h3
theorem k58_ok:k58.ok Tryz.prog:=by
 intro x hx
 obtain ⟨⟨ap,np,mp,tp,_⟩,⟨aq,nq,mq,tq,_⟩,_⟩:=x
 obtain ⟨h1,h2⟩:=a58 ap np mp tp aq nq mq tq (s58 ap np mp tp aq nq mq tq (zo hx rfl))
 exact ⟨⟨400,(by decide:2+1+1≤400),h1⟩,h2⟩
section
variable (g9:TT) (fA:KS) (fC:KR) (ap np mp:Nat) (tp:NI) (aq nq mq:Nat) (tq:NI)
inductive St56 where
 |h0 (x0:Int) (x1:Int) (x2:List Int)
abbrev Rt56:=List Int
noncomputable def V56 (r:Rt56):PV:= .own 3 1 r.length
noncomputable def N56 (r:Rt56):List Blk:= [CI r]
noncomputable def I56:St56→Hd
  | .h0 x0 x1 x2=>⟨hd Tryz.f116 0,[.loose ⟨1,1,aq,0⟩ nq,
 .own 2 1 x2.length,.int .i64 x0,
 .loose ⟨0,1,ap,0⟩ np,.int .i64 (np:Int),
 .int .i64 x1],[[(2,(true,CI x2))],[(0,(false,CB mp tp)),(1,(false,CB mq tq))]],3⟩
noncomputable def q56 (ap np mp:Nat) (tp:NI) (aq nq mq:Nat) (tq:NI):St56→Option (St56⊕Rt56)| .h0 x0 x1 x2=>bif (decide (x1<(np:Int))) then (bif (decide ((0:Int)≤x1∧x1<(np:Int))) then (bif (decide (x1.toNat+ap<mp)) then (bif (lim .i64 (tp (x1.toNat+ap)-x0)) then (bif (decide (x1<(nq:Int))) then (bif (decide ((0:Int)≤x1∧x1<(nq:Int))) then (bif (decide (x1.toNat+aq<mq)) then (bif (lim .i64 (tp (x1.toNat+ap)-x0-tq (x1.toNat+aq))) then (bif (decide (tp (x1.toNat+ap)-x0-tq (x1.toNat+aq)<0)) then (bif (lim .i64 (tp (x1.toNat+ap)-x0-tq (x1.toNat+aq)+1000000)) then (bif (decide (x2.length+1≤1000000)) then (bif (decide (x2.length≤x2.length)) then (bif (lim .i64 (x1+1)) then (some (.inl (.h0 ((1:Int)) (x1+1) (S.fI x2 (tp (x1.toNat+ap)-x0-tq (x1.toNat+aq)+1000000))))) else none) else none) else none) else none) else (bif (decide (x2.length+1≤1000000)) then (bif (decide (x2.length≤x2.length)) then (bif (lim .i64 (x1+1)) then (some (.inl (.h0 ((0:Int)) (x1+1) (S.fI x2 (tp (x1.toNat+ap)-x0-tq (x1.toNat+aq)))))) else none) else none) else none)) else none) else none) else none) else (bif (decide (tp (x1.toNat+ap)-x0<0)) then (bif (lim .i64 (tp (x1.toNat+ap)-x0+1000000)) then (bif (decide (x2.length+1≤1000000)) then (bif (decide (x2.length≤x2.length)) then (bif (lim .i64 (x1+1)) then (some (.inl (.h0 ((1:Int)) (x1+1) (S.fI x2 (tp (x1.toNat+ap)-x0+1000000))))) else none) else none) else none) else none) else (bif (decide (x2.length+1≤1000000)) then (bif (decide (x2.length≤x2.length)) then (bif (lim .i64 (x1+1)) then (some (.inl (.h0 ((0:Int)) (x1+1) (S.fI x2 (tp (x1.toNat+ap)-x0))))) else none) else none) else none))) else none) else none) else none) else (bif (decide (x2.length≤x2.length)) then (bif (decide (x2.length≤1000000)) then (some (.inr (S.trim (S.fJ x2.length fun j=>S.at' x2 j)))) else none) else none)
noncomputable def p56 (ap np mp:Nat) (tp:NI) (aq nq mq:Nat) (tq:NI):Option (St56⊕Rt56):=bif (decide ((0:Int)≤0∧(0:Int)≤(np:Int)∧(np:Int)≤1000000)) then (some (.inl (.h0 ((0:Int)) ((0:Int)) (S.fJ 0 fun j=>0)))) else none
def Te56:Prop:=g9 (decide ((0:Int)≤0∧(0:Int)≤(np:Int)∧(np:Int)≤1000000)) (fA (hd Tryz.f116 0) ([.loose ⟨1,1,aq,0⟩ nq,.own 2 1 0,.int .i64 0,.loose ⟨0,1,ap,0⟩ np,.int .i64 (np:Int),.int .i64 0]) ([[(1,false,CB mq tq),(0,false,CB mp tp),(2,true,.cols 0 [.int .i64 fun (x:Nat)=>0])]]) 3) False
theorem te56:run g9 Tryz.env true (xB0 g9) true 400 ⟨116,[.cd (zS Tryz.f116).body],yD 0 [.loose ⟨0,1,ap,0⟩ np,.loose ⟨1,1,aq,0⟩ nq],[[],[(0,(false,CB mp tp)),(1,(false,CB mq tq))]],2⟩ (zq 2 [1,5,6,12,13,14] fA fC)=
 Te56 g9 fA ap np mp tp aq nq mq tq:=by kernel_rfl
def T56_0 (x0 x1:Int) (x2:List Int):Prop:=g9 (decide (x1<(np:Int))) (g9 (decide ((0:Int)≤x1∧x1<(np:Int))) (g9 (decide (x1.toNat+ap<mp)) (g9 (lim .i64 (tp (x1.toNat+ap)-x0)) (g9 (decide (x1<(nq:Int))) (g9 (decide ((0:Int)≤x1∧x1<(nq:Int))) (g9 (decide (x1.toNat+aq<mq)) (g9 (lim .i64 (tp (x1.toNat+ap)-x0-tq (x1.toNat+aq))) (g9 (decide (tp (x1.toNat+ap)-x0-tq (x1.toNat+aq)<0)) (g9 (lim .i64 (tp (x1.toNat+ap)-x0-tq (x1.toNat+aq)+1000000)) (g9 (decide (x2.length+1≤1000000)) (g9 (decide (x2.length≤x2.length)) (g9 true (g9 (lim .i64 (x1+1)) (fA (hd Tryz.f116 0) ([.loose ⟨1,1,aq,0⟩ nq,.own 4 1 (x2.length+1),.int .i64 1,.loose ⟨0,1,ap,0⟩ np,.int .i64 (np:Int),.int .i64 (x1+1)]) ([[(1,false,CB mq tq),(0,false,CB mp tp),(4,true,.cols (x2.length+1) [.int .i64 fun j=>bif Nat.blt j x2.length then S.at' x2 j else tp (x1.toNat+ap)-x0-tq (x1.toNat+aq)+1000000])]]) 5) False) False) False) False) False) (g9 (decide (x2.length+1≤1000000)) (g9 (decide (x2.length≤x2.length)) (g9 true (g9 (lim .i64 (x1+1)) (fA (hd Tryz.f116 0) ([.loose ⟨1,1,aq,0⟩ nq,.own 4 1 (x2.length+1),.int .i64 0,.loose ⟨0,1,ap,0⟩ np,.int .i64 (np:Int),.int .i64 (x1+1)]) ([[(1,false,CB mq tq),(0,false,CB mp tp),(4,true,.cols (x2.length+1) [.int .i64 fun j=>bif Nat.blt j x2.length then S.at' x2 j else tp (x1.toNat+ap)-x0-tq (x1.toNat+aq)])]]) 5) False) False) False) False)) False) False) False) (g9 (decide (tp (x1.toNat+ap)-x0<0)) (g9 (lim .i64 (tp (x1.toNat+ap)-x0+1000000)) (g9 (decide (x2.length+1≤1000000)) (g9 (decide (x2.length≤x2.length)) (g9 true (g9 (lim .i64 (x1+1)) (fA (hd Tryz.f116 0) ([.loose ⟨1,1,aq,0⟩ nq,.own 4 1 (x2.length+1),.int .i64 1,.loose ⟨0,1,ap,0⟩ np,.int .i64 (np:Int),.int .i64 (x1+1)]) ([[(1,false,CB mq tq),(0,false,CB mp tp),(4,true,.cols (x2.length+1) [.int .i64 fun j=>bif Nat.blt j x2.length then S.at' x2 j else tp (x1.toNat+ap)-x0+1000000])]]) 5) False) False) False) False) False) (g9 (decide (x2.length+1≤1000000)) (g9 (decide (x2.length≤x2.length)) (g9 true (g9 (lim .i64 (x1+1)) (fA (hd Tryz.f116 0) ([.loose ⟨1,1,aq,0⟩ nq,.own 4 1 (x2.length+1),.int .i64 0,.loose ⟨0,1,ap,0⟩ np,.int .i64 (np:Int),.int .i64 (x1+1)]) ([[(1,false,CB mq tq),(0,false,CB mp tp),(4,true,.cols (x2.length+1) [.int .i64 fun j=>bif Nat.blt j x2.length then S.at' x2 j else tp (x1.toNat+ap)-x0])]]) 5) False) False) False) False))) False) False) False) (g9 (decide (x2.length≤x2.length)) (g9 (decide (x2.length≤1000000)) (fC (.own 2 1 (S.trim (S.fJ x2.length fun j=>S.at' x2 j)).length) ([[(1,false,CB mq tq),(0,false,CB mp tp),(2,true,CI (S.trim (S.fJ x2.length fun j=>S.at' x2 j)))]]) 4) False) False)
theorem t56_0 (x0 x1:Int) (x2:List Int):run g9 Tryz.env true (xB0 g9) true 400 ⟨116,hd Tryz.f116 0,yc [1,5,6,12,13,14] [.loose ⟨1,1,aq,0⟩ nq,
 .own 2 1 x2.length,.int .i64 x0,
 .loose ⟨0,1,ap,0⟩ np,.int .i64 (np:Int),
 .int .i64 x1],[[(2,(true,CI x2))],[(0,(false,CB mp tp)),(1,(false,CB mq tq))]],3⟩ (zq 2 [1,5,6,12,13,14] fA fC)=
  T56_0 g9 fA fC ap np mp tp aq nq mq tq x0 x1 x2:=by kernel_rfl
noncomputable abbrev J56:Rt56→zQ:=fun r=> [yJ (2+1) ((N56) r)++ [(0,(false,CB mp tp)),(1,(false,CB mq tq))]]
attribute [local irreducible] Int.subNatNat in
theorem a56 {r:Rt56} (h:zX ((q56 ap np mp tp aq nq mq tq)) ((p56 ap np mp tp aq nq mq tq)) r):zn Tryz.prog 116 [.loose ⟨0,1,ap,0⟩ np,.loose ⟨1,1,aq,0⟩ nq] [[(0,(false,CB mp tp)),(1,(false,CB mq tq))]] 2 ((V56) r) ((J56 mp tp mq tq) r) 400∧HB Tryz.prog 116:=by
 refine zf Tryz.envOk Tryz.mixed uH ((I56 ap np mp tp aq nq mq tq)) ((V56)) (J56 mp tp mq tq) (fn:=zS Tryz.f116) (ts:= [1,5,6,12,13,14]) (n:=400) rfl (by decide) (by simp) (zV rfl) ?_ ?_ ?_ h
 · intro s; cases s<;>exact ⟨ym _ _,by simp [I56],zV rfl,Nat.le_of_ble_eq_true rfl⟩
 · intro fA fC x hS hR h
   refine Holds.eq (te56 cond fA fC ap np mp tp aq nq mq tq) ?_
   unfold Te56
   unfold p56 at h
   exact zA h (fun c0 h=>zb hS _ h (fun n=>bif Nat.beq n 2 then 2 else n) rfl rfl rfl ⟨(zM (zC rfl) rfl rfl rfl),⟨(zZ (zD rfl) rfl zW),⟨(zH rfl),⟨(zM (zC rfl) rfl rfl rfl),⟨(zH rfl),⟨(zH rfl),trivial⟩⟩⟩⟩⟩⟩ rfl (zL (zD rfl) rfl (Nat.le_of_eq zW) (zO (fun _ hj=>z3 (fun (t:Int)=>t) hj) zP) (zB (zC rfl) rfl rfl (zB (zC rfl) rfl rfl zE)))) (fun c0 h=>zF h)
 · intro fA fC x hS hR s h
   cases s with
   | h0 x0 x1 x2=>
    refine Holds.eq (t56_0 cond fA fC ap np mp tp aq nq mq tq x0 x1 x2) ?_
    unfold T56_0
    rw [q56] at h
    refine zA h (fun c0 h=>zA h (fun c1 h=>zA h (fun c2 h=>zA h (fun c3 h=>zA h (fun c4 h=>zA h (fun c5 h=>zA h (fun c6 h=>zA h (fun c7 h=>zA h (fun c8 h=>zA h (fun c9 h=>zA h (fun c10 h=>zA h (fun c11 h=>zJ rfl (zA h (fun c12 h=> ?_) (fun c12 h=> ?_))) (fun c11 h=> ?_)) (fun c10 h=> ?_)) (fun c9 h=> ?_)) (fun c8 h=>zA h (fun c9 h=>zA h (fun c10 h=>zJ rfl (zA h (fun c11 h=> ?_) (fun c11 h=> ?_))) (fun c10 h=> ?_)) (fun c9 h=> ?_))) (fun c7 h=> ?_)) (fun c6 h=> ?_)) (fun c5 h=> ?_)) (fun c4 h=>zA h (fun c5 h=>zA h (fun c6 h=>zA h (fun c7 h=>zA h (fun c8 h=>zJ rfl (zA h (fun c9 h=> ?_) (fun c9 h=> ?_))) (fun c8 h=> ?_)) (fun c7 h=> ?_)) (fun c6 h=> ?_)) (fun c5 h=>zA h (fun c6 h=>zA h (fun c7 h=>zJ rfl (zA h (fun c8 h=> ?_) (fun c8 h=> ?_))) (fun c7 h=> ?_)) (fun c6 h=> ?_)))) (fun c3 h=> ?_)) (fun c2 h=> ?_)) (fun c1 h=> ?_)) (fun c0 h=>zA h (fun c1 h=>zA h (fun c2 h=>zU hR _ h (fun n=>bif Nat.beq n 3 then 2 else n) rfl rfl rfl (zZ (zD rfl) rfl rfl) rfl (zL (zD rfl) rfl (Nat.le_of_eq rfl) (zO (fun _ _=>rfl) zP) (zB (zC rfl) rfl rfl (zB (zC rfl) rfl rfl zE)))) (fun c2 h=> ?_)) (fun c1 h=> ?_))
    all_goals first
      |exact zF h
      |exact zb hS _ h (fun n=>bif Nat.beq n 2 then 4 else n) rfl rfl rfl ⟨(zM (zC rfl) rfl rfl rfl),⟨(zZ (zD rfl) rfl (z5 rfl)),⟨(zH rfl),⟨(zM (zC rfl) rfl rfl rfl),⟨(zH rfl),⟨(zH rfl),trivial⟩⟩⟩⟩⟩⟩ rfl (zL (zD rfl) rfl (Nat.le_of_eq (z5 rfl)) (zO (yq (fun (t:Int)=>t) rfl (fun _ _=>rfl)) zP) (zB (zC rfl) rfl rfl (zB (zC rfl) rfl rfl zE)))
end
noncomputable def k56:Con:=⟨116,[.one (.list [.int .i64]),.one (.list [.int .i64])],w60 (fun ap np mp tp aq nq mq tq=>decide ((ap+np≤mp∧aq+nq≤mq)∧(np≤1000∧nq≤1000)∧S.fF np (FS tp ap)=true∧S.fF nq (FS tq aq)=true∧S.val nq (FS tq aq)≤S.val np (FS tp ap))),w60 (fun ap np mp tp aq nq mq tq=>(V56) (S.fX (S.val np (FS tp ap)-S.val nq (FS tq aq)))),w60 (fun ap np mp tp aq nq mq tq=>(N56) (S.fX (S.val np (FS tp ap)-S.val nq (FS tq aq)))),fun _ _=> .dead⟩
theorem s56' (ap np mp:Nat) (tp:Nat→Int) (aq nq mq:Nat) (tq:Nat→Int) (hp:(ap+np≤mp∧aq+nq≤mq)∧(np≤1000∧nq≤1000)∧S.fF np (fun j=>tp (j+ap))=true∧S.fF nq (fun j=>tq (j+aq))=true): ∀ (k i:Nat) (c:Int) (L:List Int),i+k=np→L.length=i→(0≤c∧c≤1)→c+S.fD (fun j=>tq (j+aq)) i (nq-i)≤S.fD (fun j=>tp (j+ap)) i k→ ∃ D:List Int,(∀ y ∈ D,0≤y∧y<1000000)∧S.fZ D=S.fD (fun j=>tp (j+ap)) i k-S.fD (fun j=>tq (j+aq)) i (nq-i)-c∧Comes (q56 ap np mp tp aq nq mq tq) (.h0 c (i:Int) L) (S.trim (L++D)):=by
 obtain ⟨⟨hp1,hp2⟩,⟨hp3,hp4⟩,g1,g2⟩:=hp
 have d1:=(zl.mp g1).1
 have d2:=(zl.mp g2).1
 intro k
 induction k with
 |zero=>
  intro i c L hi hL hc hv
  have hn2:=qo d2 (i:=i)
  simp only [S.fD] at hv ⊢
  refine ⟨[],fun y hy=>(by cases hy),by simp only [S.fZ]; omega,?_⟩
  rw [List.append_nil,← uc]
  apply Comes.of
  show zX _ _ _
  (first|rw [q56]|unfold q56)
  repeat' (first|with_reducible refine zN (fun h=> ?_) (fun h=> ?_)<;>(try simp only [SH] at h)|exact zI.mpr (by omega))
  all_goals first|(exfalso; omega)|exact zG.mpr rfl
 | succ k ih=>
  intro i c L hi hL hc hv
  have hb:=d1 i (by omega)
  simp only [S.fD] at hv ⊢
  (try dsimp only at hb)
  by_cases c2:i<nq
  · have hb2:=d2 i c2
    (try dsimp only at hb2)
    rw [uI c2] at hv ⊢
    (try dsimp only at hv)
    by_cases h0:tp (i+ap)-c-tq (i+aq)<0
    · obtain ⟨D,h1,h2,h3⟩:=ih (i+1) 1 (S.fI L (tp (i+ap)-c-tq (i+aq)+1000000)) (by omega) (by rw [yE]; omega) (by omega) (by omega)
      refine ⟨(tp (i+ap)-c-tq (i+aq)+1000000)::D,xA (by omega) h1,by simp only [S.fZ]; rw [h2]; (try dsimp only); omega,?_⟩
      rw [yn] at h3
      generalize S.fD _ _ _=v1 at*
      generalize S.fD _ _ _=v2 at*
      have ex:tp (i+ap)-tq (i+aq)-c=tp (i+ap)-c-tq (i+aq):=by omega
      clear ih h2
      apply Comes.of
      show zX _ _ _
      (first|rw [q56]|unfold q56)
      repeat' (first|with_reducible refine zN (fun h=> ?_) (fun h=> ?_)<;>(try simp only [SH] at h)|exact zI.mpr (by omega))
      all_goals first|(exfalso; omega)|exact h3|(rw [Int.toNat_natCast,ex]; exact h3)
    · obtain ⟨D,h1,h2,h3⟩:=ih (i+1) 0 (S.fI L (tp (i+ap)-c-tq (i+aq))) (by omega) (by rw [yE]; omega) (by omega) (by omega)
      refine ⟨(tp (i+ap)-c-tq (i+aq))::D,xA (by omega) h1,by simp only [S.fZ]; rw [h2]; (try dsimp only); omega,?_⟩
      rw [yn] at h3
      generalize S.fD _ _ _=v1 at*
      generalize S.fD _ _ _=v2 at*
      have ex:tp (i+ap)-tq (i+aq)-c=tp (i+ap)-c-tq (i+aq):=by omega
      clear ih h2
      apply Comes.of
      show zX _ _ _
      (first|rw [q56]|unfold q56)
      repeat' (first|with_reducible refine zN (fun h=> ?_) (fun h=> ?_)<;>(try simp only [SH] at h)|exact zI.mpr (by omega))
      all_goals first|(exfalso; omega)|exact h3|(rw [Int.toNat_natCast,ex]; exact h3)
  · rw [show nq-i=0 by omega] at hv ⊢
    simp only [S.fD] at hv ⊢
    (try dsimp only at hv)
    have e0:nq-(i+1)=0:=by omega
    by_cases h0:tp (i+ap)-c<0
    · obtain ⟨D,h1,h2,h3⟩:=ih (i+1) 1 (S.fI L (tp (i+ap)-c+1000000)) (by omega) (by rw [yE]; omega) (by omega) (by rw [e0]; simp only [S.fD]; omega)
      rw [e0] at h2
      simp only [S.fD] at h2
      refine ⟨(tp (i+ap)-c+1000000)::D,xA (by omega) h1,by simp only [S.fZ]; rw [h2]; (try dsimp only); omega,?_⟩
      rw [yn] at h3
      generalize S.fD _ _ _=v1 at*
      have ex:tp (i+ap)-0-c=tp (i+ap)-c:=by omega
      clear ih h2
      apply Comes.of
      show zX _ _ _
      (first|rw [q56]|unfold q56)
      repeat' (first|with_reducible refine zN (fun h=> ?_) (fun h=> ?_)<;>(try simp only [SH] at h)|exact zI.mpr (by omega))
      all_goals first|(exfalso; omega)|exact h3|(rw [Int.toNat_natCast,ex]; exact h3)
    · obtain ⟨D,h1,h2,h3⟩:=ih (i+1) 0 (S.fI L (tp (i+ap)-c)) (by omega) (by rw [yE]; omega) (by omega) (by rw [e0]; simp only [S.fD]; omega)
      rw [e0] at h2
      simp only [S.fD] at h2
      refine ⟨(tp (i+ap)-c)::D,xA (by omega) h1,by simp only [S.fZ]; rw [h2]; (try dsimp only); omega,?_⟩
      rw [yn] at h3
      generalize S.fD _ _ _=v1 at*
      have ex:tp (i+ap)-0-c=tp (i+ap)-c:=by omega
      clear ih h2
      apply Comes.of
      show zX _ _ _
      (first|rw [q56]|unfold q56)
      repeat' (first|with_reducible refine zN (fun h=> ?_) (fun h=> ?_)<;>(try simp only [SH] at h)|exact zI.mpr (by omega))
      all_goals first|(exfalso; omega)|exact h3|(rw [Int.toNat_natCast,ex]; exact h3)
theorem s56 (ap np mp:Nat) (tp:Nat→Int) (aq nq mq:Nat) (tq:Nat→Int) (hp:(ap+np≤mp∧aq+nq≤mq)∧(np≤1000∧nq≤1000)∧S.fF np (fun j=>tp (j+ap))=true∧S.fF nq (fun j=>tq (j+aq))=true∧S.val nq (fun j=>tq (j+aq))≤S.val np (fun j=>tp (j+ap))):zX ((q56 ap np mp tp aq nq mq tq)) ((p56 ap np mp tp aq nq mq tq)) (S.fX (S.val np (fun j=>tp (j+ap))-S.val nq (fun j=>tq (j+aq)))):=by
 obtain ⟨⟨hp1,hp2⟩,⟨hp3,hp4⟩,g1,g2,hv⟩:=hp
 obtain ⟨D,h1,h2,h3⟩:=s56' ap np mp tp aq nq mq tq ⟨⟨hp1,hp2⟩,⟨hp3,hp4⟩,g1,g2⟩ np 0 0 [] (by omega) rfl (by omega) (by rw [Int.zero_add]; exact hv)
 rw [List.nil_append,xL h1,h2,Int.sub_zero,Nat.sub_zero] at h3
 show zX _ _ _
 unfold p56
 repeat' (first|with_reducible refine zN (fun h=> ?_) (fun h=> ?_)<;>(try simp only [SH] at h)|exact zI.mpr (by omega))
 all_goals first|(exfalso; omega)|exact h3
theorem k56_ok:k56.ok Tryz.prog:=by
 intro x hx
 obtain ⟨⟨ap,np,mp,tp,_⟩,⟨aq,nq,mq,tq,_⟩,_⟩:=x
 obtain ⟨h1,h2⟩:=a56 ap np mp tp aq nq mq tq (s56 ap np mp tp aq nq mq tq (zo hx rfl))
 exact ⟨⟨400,(by decide:2+1+1≤400),h1⟩,h2⟩
section
variable (g9:TT) (fA:KS) (fC:KR) (ap np mp:Nat) (tp:NI) (aq nq mq:Nat) (tq:NI)
inductive St59 where
 |h0 (x0:Int) (x1:Int) (x2:List Int)
abbrev Rt59:=List Int
noncomputable def V59 (r:Rt59):PV:= .own 3 1 r.length
noncomputable def N59 (r:Rt59):List Blk:= [CI r]
noncomputable def I59:St59→Hd
  | .h0 x0 x1 x2=>⟨hd Tryz.f118 0,[.loose ⟨0,1,ap,0⟩ np,
 .loose ⟨1,1,aq,0⟩ nq,
 .own 2 1 x2.length,.int .i64 x0,.int .i64 x1],[[(2,(true,CI x2))],[(0,(false,CB mp tp)),(1,(false,CB mq tq))]],3⟩
noncomputable def q59 (ap np mp:Nat) (tp:NI) (aq nq mq:Nat) (tq:NI):St59→Option (St59⊕Rt59)| .h0 x0 x1 x2=>bif (decide (x1<(np:Int))) then (bif (decide ((0:Int)≤x1∧x1<(np:Int))) then (bif (decide (x1.toNat+ap<mp)) then (bif (decide (x1<(nq:Int))) then (bif (decide ((0:Int)≤x1∧x1<(nq:Int))) then (bif (decide (x1.toNat+aq<mq)) then (bif (lim .i64 (tp (x1.toNat+ap)-tq (x1.toNat+aq))) then (bif (lim .i64 (tp (x1.toNat+ap)-tq (x1.toNat+aq)-x0)) then (bif (decide (tp (x1.toNat+ap)-tq (x1.toNat+aq)-x0<0)) then (bif (lim .i64 (tp (x1.toNat+ap)-tq (x1.toNat+aq)-x0+1000000)) then (bif (decide (x2.length+1≤1000000)) then (bif (decide (x2.length≤x2.length)) then (bif (lim .i64 (x1+1)) then (some (.inl (.h0 ((1:Int)) (x1+1) (S.fI x2 (tp (x1.toNat+ap)-tq (x1.toNat+aq)-x0+1000000))))) else none) else none) else none) else none) else (bif (decide (x2.length+1≤1000000)) then (bif (decide (x2.length≤x2.length)) then (bif (lim .i64 (x1+1)) then (some (.inl (.h0 ((0:Int)) (x1+1) (S.fI x2 (tp (x1.toNat+ap)-tq (x1.toNat+aq)-x0))))) else none) else none) else none)) else none) else none) else none) else none) else (bif (lim .i64 (tp (x1.toNat+ap)-0)) then (bif (lim .i64 (tp (x1.toNat+ap)-0-x0)) then (bif (decide (tp (x1.toNat+ap)-0-x0<0)) then (bif (lim .i64 (tp (x1.toNat+ap)-0-x0+1000000)) then (bif (decide (x2.length+1≤1000000)) then (bif (decide (x2.length≤x2.length)) then (bif (lim .i64 (x1+1)) then (some (.inl (.h0 ((1:Int)) (x1+1) (S.fI x2 (tp (x1.toNat+ap)-0-x0+1000000))))) else none) else none) else none) else none) else (bif (decide (x2.length+1≤1000000)) then (bif (decide (x2.length≤x2.length)) then (bif (lim .i64 (x1+1)) then (some (.inl (.h0 ((0:Int)) (x1+1) (S.fI x2 (tp (x1.toNat+ap)-0-x0))))) else none) else none) else none)) else none) else none)) else none) else none) else (bif (decide (x2.length≤x2.length)) then (bif (decide (x2.length≤1000000)) then (some (.inr (S.trim (S.fJ x2.length fun j=>S.at' x2 j)))) else none) else none)
noncomputable def p59 (ap np mp:Nat) (tp:NI) (aq nq mq:Nat) (tq:NI):Option (St59⊕Rt59):=some (.inl (.h0 ((0:Int)) ((0:Int)) []))
def Te59:Prop:=fA (hd Tryz.f118 0) ([.loose ⟨0,1,ap,0⟩ np,.loose ⟨1,1,aq,0⟩ nq,.nils,.int .i64 0,.int .i64 0]) ([[(1,false,CB mq tq),(0,false,CB mp tp)]]) 2
theorem te59:run g9 Tryz.env true (xB0 g9) true 400 ⟨118,[.cd (zS Tryz.f118).body],yD 0 [.loose ⟨0,1,ap,0⟩ np,.loose ⟨1,1,aq,0⟩ nq],[[],[(0,(false,CB mp tp)),(1,(false,CB mq tq))]],2⟩ (zq 2 [0,1,5,6,7] fA fC)=
 Te59 fA ap np mp tp aq nq mq tq:=by kernel_rfl
def T59_0 (x0 x1:Int) (x2:List Int):Prop:=g9 (decide (x1<(np:Int))) (g9 (decide ((0:Int)≤x1∧x1<(np:Int))) (g9 (decide (x1.toNat+ap<mp)) (g9 (decide (x1<(nq:Int))) (g9 (decide ((0:Int)≤x1∧x1<(nq:Int))) (g9 (decide (x1.toNat+aq<mq)) (g9 (lim .i64 (tp (x1.toNat+ap)-tq (x1.toNat+aq))) (g9 (lim .i64 (tp (x1.toNat+ap)-tq (x1.toNat+aq)-x0)) (g9 (decide (tp (x1.toNat+ap)-tq (x1.toNat+aq)-x0<0)) (g9 (lim .i64 (tp (x1.toNat+ap)-tq (x1.toNat+aq)-x0+1000000)) (g9 (decide (x2.length+1≤1000000)) (g9 (decide (x2.length≤x2.length)) (g9 true (g9 (lim .i64 (x1+1)) (fA (hd Tryz.f118 0) ([.loose ⟨0,1,ap,0⟩ np,.loose ⟨1,1,aq,0⟩ nq,.own 4 1 (x2.length+1),.int .i64 1,.int .i64 (x1+1)]) ([[(1,false,CB mq tq),(0,false,CB mp tp),(4,true,.cols (x2.length+1) [.int .i64 fun j=>bif Nat.blt j x2.length then S.at' x2 j else tp (x1.toNat+ap)-tq (x1.toNat+aq)-x0+1000000])]]) 5) False) False) False) False) False) (g9 (decide (x2.length+1≤1000000)) (g9 (decide (x2.length≤x2.length)) (g9 true (g9 (lim .i64 (x1+1)) (fA (hd Tryz.f118 0) ([.loose ⟨0,1,ap,0⟩ np,.loose ⟨1,1,aq,0⟩ nq,.own 4 1 (x2.length+1),.int .i64 0,.int .i64 (x1+1)]) ([[(1,false,CB mq tq),(0,false,CB mp tp),(4,true,.cols (x2.length+1) [.int .i64 fun j=>bif Nat.blt j x2.length then S.at' x2 j else tp (x1.toNat+ap)-tq (x1.toNat+aq)-x0])]]) 5) False) False) False) False)) False) False) False) False) (g9 (lim .i64 (tp (x1.toNat+ap)-0)) (g9 (lim .i64 (tp (x1.toNat+ap)-0-x0)) (g9 (decide (tp (x1.toNat+ap)-0-x0<0)) (g9 (lim .i64 (tp (x1.toNat+ap)-0-x0+1000000)) (g9 (decide (x2.length+1≤1000000)) (g9 (decide (x2.length≤x2.length)) (g9 true (g9 (lim .i64 (x1+1)) (fA (hd Tryz.f118 0) ([.loose ⟨0,1,ap,0⟩ np,.loose ⟨1,1,aq,0⟩ nq,.own 4 1 (x2.length+1),.int .i64 1,.int .i64 (x1+1)]) ([[(1,false,CB mq tq),(0,false,CB mp tp),(4,true,.cols (x2.length+1) [.int .i64 fun j=>bif Nat.blt j x2.length then S.at' x2 j else tp (x1.toNat+ap)-0-x0+1000000])]]) 5) False) False) False) False) False) (g9 (decide (x2.length+1≤1000000)) (g9 (decide (x2.length≤x2.length)) (g9 true (g9 (lim .i64 (x1+1)) (fA (hd Tryz.f118 0) ([.loose ⟨0,1,ap,0⟩ np,.loose ⟨1,1,aq,0⟩ nq,.own 4 1 (x2.length+1),.int .i64 0,.int .i64 (x1+1)]) ([[(1,false,CB mq tq),(0,false,CB mp tp),(4,true,.cols (x2.length+1) [.int .i64 fun j=>bif Nat.blt j x2.length then S.at' x2 j else tp (x1.toNat+ap)-0-x0])]]) 5) False) False) False) False)) False) False)) False) False) (g9 (decide (x2.length≤x2.length)) (g9 (decide (x2.length≤1000000)) (fC (.own 2 1 (S.trim (S.fJ x2.length fun j=>S.at' x2 j)).length) ([[(1,false,CB mq tq),(0,false,CB mp tp),(2,true,CI (S.trim (S.fJ x2.length fun j=>S.at' x2 j)))]]) 4) False) False)
theorem t59_0 (x0 x1:Int) (x2:List Int):run g9 Tryz.env true (xB0 g9) true 400 ⟨118,hd Tryz.f118 0,yc [0,1,5,6,7] [.loose ⟨0,1,ap,0⟩ np,
 .loose ⟨1,1,aq,0⟩ nq,
 .own 2 1 x2.length,.int .i64 x0,.int .i64 x1],[[(2,(true,CI x2))],[(0,(false,CB mp tp)),(1,(false,CB mq tq))]],3⟩ (zq 2 [0,1,5,6,7] fA fC)=
  T59_0 g9 fA fC ap np mp tp aq nq mq tq x0 x1 x2:=by kernel_rfl
noncomputable abbrev J59:Rt59→zQ:=fun r=> [yJ (2+1) ((N59) r)++ [(0,(false,CB mp tp)),(1,(false,CB mq tq))]]
attribute [local irreducible] Int.subNatNat in
theorem a59 {r:Rt59} (h:zX ((q59 ap np mp tp aq nq mq tq)) ((p59 ap np mp tp aq nq mq tq)) r):zn Tryz.prog 118 [.loose ⟨0,1,ap,0⟩ np,.loose ⟨1,1,aq,0⟩ nq] [[(0,(false,CB mp tp)),(1,(false,CB mq tq))]] 2 ((V59) r) ((J59 mp tp mq tq) r) 400∧HB Tryz.prog 118:=by
 refine zf Tryz.envOk Tryz.mixed uH ((I59 ap np mp tp aq nq mq tq)) ((V59)) (J59 mp tp mq tq) (fn:=zS Tryz.f118) (ts:= [0,1,5,6,7]) (n:=400) rfl (by decide) (by simp) (zV rfl) ?_ ?_ ?_ h
 · intro s; cases s<;>exact ⟨ym _ _,by simp [I59],zV rfl,Nat.le_of_ble_eq_true rfl⟩
 · intro fA fC x hS hR h
   refine Holds.eq (te59 cond fA fC ap np mp tp aq nq mq tq) ?_
   unfold Te59
   exact zb hS _ h (fun n=>bif Nat.beq n 2 then 399 else n) rfl rfl rfl ⟨(zM (zC rfl) rfl rfl rfl),⟨(zM (zC rfl) rfl rfl rfl),⟨(zT rfl),⟨(zH rfl),⟨(zH rfl),trivial⟩⟩⟩⟩⟩ rfl (zY (zD rfl) (zc rfl) (zB (zC rfl) rfl rfl (zB (zC rfl) rfl rfl zE)))
 · intro fA fC x hS hR s h
   cases s with
   | h0 x0 x1 x2=>
    refine Holds.eq (t59_0 cond fA fC ap np mp tp aq nq mq tq x0 x1 x2) ?_
    unfold T59_0
    rw [q59] at h
    refine zA h (fun c0 h=>zA h (fun c1 h=>zA h (fun c2 h=>zA h (fun c3 h=>zA h (fun c4 h=>zA h (fun c5 h=>zA h (fun c6 h=>zA h (fun c7 h=>zA h (fun c8 h=>zA h (fun c9 h=>zA h (fun c10 h=>zA h (fun c11 h=>zJ rfl (zA h (fun c12 h=> ?_) (fun c12 h=> ?_))) (fun c11 h=> ?_)) (fun c10 h=> ?_)) (fun c9 h=> ?_)) (fun c8 h=>zA h (fun c9 h=>zA h (fun c10 h=>zJ rfl (zA h (fun c11 h=> ?_) (fun c11 h=> ?_))) (fun c10 h=> ?_)) (fun c9 h=> ?_))) (fun c7 h=> ?_)) (fun c6 h=> ?_)) (fun c5 h=> ?_)) (fun c4 h=> ?_)) (fun c3 h=>zA h (fun c4 h=>zA h (fun c5 h=>zA h (fun c6 h=>zA h (fun c7 h=>zA h (fun c8 h=>zA h (fun c9 h=>zJ rfl (zA h (fun c10 h=> ?_) (fun c10 h=> ?_))) (fun c9 h=> ?_)) (fun c8 h=> ?_)) (fun c7 h=> ?_)) (fun c6 h=>zA h (fun c7 h=>zA h (fun c8 h=>zJ rfl (zA h (fun c9 h=> ?_) (fun c9 h=> ?_))) (fun c8 h=> ?_)) (fun c7 h=> ?_))) (fun c5 h=> ?_)) (fun c4 h=> ?_))) (fun c2 h=> ?_)) (fun c1 h=> ?_)) (fun c0 h=>zA h (fun c1 h=>zA h (fun c2 h=>zU hR _ h (fun n=>bif Nat.beq n 3 then 2 else n) rfl rfl rfl (zZ (zD rfl) rfl rfl) rfl (zL (zD rfl) rfl (Nat.le_of_eq rfl) (zO (fun _ _=>rfl) zP) (zB (zC rfl) rfl rfl (zB (zC rfl) rfl rfl zE)))) (fun c2 h=> ?_)) (fun c1 h=> ?_))
    all_goals first
      |exact zF h
      |exact zb hS _ h (fun n=>bif Nat.beq n 2 then 4 else n) rfl rfl rfl ⟨(zM (zC rfl) rfl rfl rfl),⟨(zM (zC rfl) rfl rfl rfl),⟨(zZ (zD rfl) rfl (z5 rfl)),⟨(zH rfl),⟨(zH rfl),trivial⟩⟩⟩⟩⟩ rfl (zL (zD rfl) rfl (Nat.le_of_eq (z5 rfl)) (zO (yq (fun (t:Int)=>t) rfl (fun _ _=>rfl)) zP) (zB (zC rfl) rfl rfl (zB (zC rfl) rfl rfl zE)))
end
noncomputable def k59:Con:=⟨118,[.one (.list [.int .i64]),.one (.list [.int .i64])],w60 (fun ap np mp tp aq nq mq tq=>decide ((ap+np≤mp∧aq+nq≤mq)∧(np≤1000∧nq≤1000)∧S.fF np (FS tp ap)=true∧S.fF nq (FS tq aq)=true∧S.val nq (FS tq aq)≤S.val np (FS tp ap))),w60 (fun ap np mp tp aq nq mq tq=>(V59) (S.fX (S.val np (FS tp ap)-S.val nq (FS tq aq)))),w60 (fun ap np mp tp aq nq mq tq=>(N59) (S.fX (S.val np (FS tp ap)-S.val nq (FS tq aq)))),fun _ _=> .dead⟩
theorem s59' (ap np mp:Nat) (tp:Nat→Int) (aq nq mq:Nat) (tq:Nat→Int) (hp:(ap+np≤mp∧aq+nq≤mq)∧(np≤1000∧nq≤1000)∧S.fF np (fun j=>tp (j+ap))=true∧S.fF nq (fun j=>tq (j+aq))=true): ∀ (k i:Nat) (c:Int) (L:List Int),i+k=np→L.length=i→(0≤c∧c≤1)→c+S.fD (fun j=>tq (j+aq)) i (nq-i)≤S.fD (fun j=>tp (j+ap)) i k→ ∃ D:List Int,(∀ y ∈ D,0≤y∧y<1000000)∧S.fZ D=S.fD (fun j=>tp (j+ap)) i k-S.fD (fun j=>tq (j+aq)) i (nq-i)-c∧Comes (q59 ap np mp tp aq nq mq tq) (.h0 c (i:Int) L) (S.trim (L++D)):=by
 obtain ⟨⟨hp1,hp2⟩,⟨hp3,hp4⟩,g1,g2⟩:=hp
 have d1:=(zl.mp g1).1
 have d2:=(zl.mp g2).1
 intro k
 induction k with
 |zero=>
  intro i c L hi hL hc hv
  have hn2:=qo d2 (i:=i)
  simp only [S.fD] at hv ⊢
  refine ⟨[],fun y hy=>(by cases hy),by simp only [S.fZ]; omega,?_⟩
  rw [List.append_nil,← uc]
  apply Comes.of
  show zX _ _ _
  (first|rw [q59]|unfold q59)
  repeat' (first|with_reducible refine zN (fun h=> ?_) (fun h=> ?_)<;>(try simp only [SH] at h)|exact zI.mpr (by omega))
  all_goals first|(exfalso; omega)|exact zG.mpr rfl
 | succ k ih=>
  intro i c L hi hL hc hv
  have hb:=d1 i (by omega)
  simp only [S.fD] at hv ⊢
  (try dsimp only at hb)
  by_cases c2:i<nq
  · have hb2:=d2 i c2
    (try dsimp only at hb2)
    rw [uI c2] at hv ⊢
    (try dsimp only at hv)
    by_cases h0:tp (i+ap)-c-tq (i+aq)<0
    · obtain ⟨D,h1,h2,h3⟩:=ih (i+1) 1 (S.fI L (tp (i+ap)-c-tq (i+aq)+1000000)) (by omega) (by rw [yE]; omega) (by omega) (by omega)
      refine ⟨(tp (i+ap)-c-tq (i+aq)+1000000)::D,xA (by omega) h1,by simp only [S.fZ]; rw [h2]; (try dsimp only); omega,?_⟩
      rw [yn] at h3
      generalize S.fD _ _ _=v1 at*
      generalize S.fD _ _ _=v2 at*
      have ex:tp (i+ap)-tq (i+aq)-c=tp (i+ap)-c-tq (i+aq):=by omega
      clear ih h2
      apply Comes.of
      show zX _ _ _
      (first|rw [q59]|unfold q59)
      repeat' (first|with_reducible refine zN (fun h=> ?_) (fun h=> ?_)<;>(try simp only [SH] at h)|exact zI.mpr (by omega))
      all_goals first|(exfalso; omega)|exact h3|(rw [Int.toNat_natCast,ex]; exact h3)
    · obtain ⟨D,h1,h2,h3⟩:=ih (i+1) 0 (S.fI L (tp (i+ap)-c-tq (i+aq))) (by omega) (by rw [yE]; omega) (by omega) (by omega)
      refine ⟨(tp (i+ap)-c-tq (i+aq))::D,xA (by omega) h1,by simp only [S.fZ]; rw [h2]; (try dsimp only); omega,?_⟩
      rw [yn] at h3
      generalize S.fD _ _ _=v1 at*
      generalize S.fD _ _ _=v2 at*
      have ex:tp (i+ap)-tq (i+aq)-c=tp (i+ap)-c-tq (i+aq):=by omega
      clear ih h2
      apply Comes.of
      show zX _ _ _
      (first|rw [q59]|unfold q59)
      repeat' (first|with_reducible refine zN (fun h=> ?_) (fun h=> ?_)<;>(try simp only [SH] at h)|exact zI.mpr (by omega))
      all_goals first|(exfalso; omega)|exact h3|(rw [Int.toNat_natCast,ex]; exact h3)
  · rw [show nq-i=0 by omega] at hv ⊢
    simp only [S.fD] at hv ⊢
    (try dsimp only at hv)
    have e0:nq-(i+1)=0:=by omega
    by_cases h0:tp (i+ap)-c<0
    · obtain ⟨D,h1,h2,h3⟩:=ih (i+1) 1 (S.fI L (tp (i+ap)-c+1000000)) (by omega) (by rw [yE]; omega) (by omega) (by rw [e0]; simp only [S.fD]; omega)
      rw [e0] at h2
      simp only [S.fD] at h2
      refine ⟨(tp (i+ap)-c+1000000)::D,xA (by omega) h1,by simp only [S.fZ]; rw [h2]; (try dsimp only); omega,?_⟩
      rw [yn] at h3
      generalize S.fD _ _ _=v1 at*
      have ex:tp (i+ap)-0-c=tp (i+ap)-c:=by omega
      clear ih h2
      apply Comes.of
      show zX _ _ _
      (first|rw [q59]|unfold q59)
      repeat' (first|with_reducible refine zN (fun h=> ?_) (fun h=> ?_)<;>(try simp only [SH] at h)|exact zI.mpr (by omega))
      all_goals first|(exfalso; omega)|exact h3|(rw [Int.toNat_natCast,ex]; exact h3)
    · obtain ⟨D,h1,h2,h3⟩:=ih (i+1) 0 (S.fI L (tp (i+ap)-c)) (by omega) (by rw [yE]; omega) (by omega) (by rw [e0]; simp only [S.fD]; omega)
      rw [e0] at h2
      simp only [S.fD] at h2
      refine ⟨(tp (i+ap)-c)::D,xA (by omega) h1,by simp only [S.fZ]; rw [h2]; (try dsimp only); omega,?_⟩
      rw [yn] at h3
      generalize S.fD _ _ _=v1 at*
      have ex:tp (i+ap)-0-c=tp (i+ap)-c:=by omega
      clear ih h2
      apply Comes.of
      show zX _ _ _
      (first|rw [q59]|unfold q59)
      repeat' (first|with_reducible refine zN (fun h=> ?_) (fun h=> ?_)<;>(try simp only [SH] at h)|exact zI.mpr (by omega))
      all_goals first|(exfalso; omega)|exact h3|(rw [Int.toNat_natCast,ex]; exact h3)
theorem s59 (ap np mp:Nat) (tp:Nat→Int) (aq nq mq:Nat) (tq:Nat→Int) (hp:(ap+np≤mp∧aq+nq≤mq)∧(np≤1000∧nq≤1000)∧S.fF np (fun j=>tp (j+ap))=true∧S.fF nq (fun j=>tq (j+aq))=true∧S.val nq (fun j=>tq (j+aq))≤S.val np (fun j=>tp (j+ap))):zX ((q59 ap np mp tp aq nq mq tq)) ((p59 ap np mp tp aq nq mq tq)) (S.fX (S.val np (fun j=>tp (j+ap))-S.val nq (fun j=>tq (j+aq)))):=by
 obtain ⟨⟨hp1,hp2⟩,⟨hp3,hp4⟩,g1,g2,hv⟩:=hp
 obtain ⟨D,h1,h2,h3⟩:=s59' ap np mp tp aq nq mq tq ⟨⟨hp1,hp2⟩,⟨hp3,hp4⟩,g1,g2⟩ np 0 0 [] (by omega) rfl (by omega) (by rw [Int.zero_add]; exact hv)
 rw [List.nil_append,xL h1,h2,Int.sub_zero,Nat.sub_zero] at h3
 show zX _ _ _
 unfold p59
 repeat' (first|with_reducible refine zN (fun h=> ?_) (fun h=> ?_)<;>(try simp only [SH] at h)|exact zI.mpr (by omega))
 all_goals first|(exfalso; omega)|exact h3
theorem k59_ok:k59.ok Tryz.prog:=by
 intro x hx
 obtain ⟨⟨ap,np,mp,tp,_⟩,⟨aq,nq,mq,tq,_⟩,_⟩:=x
 obtain ⟨h1,h2⟩:=a59 ap np mp tp aq nq mq tq (s59 ap np mp tp aq nq mq tq (zo hx rfl))
 exact ⟨⟨400,(by decide:2+1+1≤400),h1⟩,h2⟩
section
variable (g9:TT) (fA:KS) (fC:KR) (ng:Bool) (ap np mp:Nat) (tp:NI)
abbrev St46:=Empty
abbrev Rt46:=Bool×List Int
noncomputable def V46 (r:Rt46):PV:= .agg [.bool r.1,.own 2 1 r.2.length]
noncomputable def N46 (r:Rt46):List Blk:= [CI r.2]
noncomputable def I46:St46→Hd:=fun s=>s.elim
noncomputable def q46 (ng:Bool) (ap np mp:Nat) (tp:NI):St46→Option (St46⊕Rt46):=fun s=>s.elim
noncomputable def p46 (ng:Bool) (ap np mp:Nat) (tp:NI):Option (St46⊕Rt46):=bif (decide (ap+np≤mp∧np≤1000000)) then (bif ng then (bif (decide ((↑(S.fe np fun j=>tp (j+ap)):Int)>0)) then (bif (decide ((0+S.fe np fun j=>tp (j+ap))≤1000000)) then (bif (decide ((ap+S.fe np fun j=>tp (j+ap))≤mp)) then (some (.inr (true,S.fJ (0+S.fe np fun j=>tp (j+ap)) fun j=>tp (j+ap)))) else none) else none) else (bif (decide ((0+S.fe np fun j=>tp (j+ap))≤1000000)) then (bif (decide ((ap+S.fe np fun j=>tp (j+ap))≤mp)) then (some (.inr (false,S.fJ (0+S.fe np fun j=>tp (j+ap)) fun j=>tp (j+ap)))) else none) else none)) else (bif (decide ((0+S.fe np fun j=>tp (j+ap))≤1000000)) then (bif (decide ((ap+S.fe np fun j=>tp (j+ap))≤mp)) then (some (.inr (false,S.fJ (0+S.fe np fun j=>tp (j+ap)) fun j=>tp (j+ap)))) else none) else none)) else none
noncomputable abbrev u46_e_0:=([[(0,false,Blk.cols mp [Col.int IntKind.i64 tp]),(4,true,Blk.cols (0+S.fe np fun j=>tp (j+ap)) [Col.int IntKind.i64 fun j=>tp (j+ap)])]])
def Te46:Prop:=g9 (decide (ap+np≤mp∧np≤1000000)) (g9 ng (g9 (decide ((↑(S.fe np (FS tp ap)):Int)>0)) (g9 (decide ((0+S.fe np (FS tp ap))≤1000000)) (g9 true (g9 (decide ((ap+S.fe np (FS tp ap))≤mp)) (fC (.agg [.tf true,.own 4 1 (0+S.fe np (FS tp ap))]) (u46_e_0 ap np mp tp) 5) False) False) False) (g9 (decide ((0+S.fe np (FS tp ap))≤1000000)) (g9 true (g9 (decide ((ap+S.fe np (FS tp ap))≤mp)) (fC (.agg [.tf false,.own 4 1 (0+S.fe np (FS tp ap))]) (u46_e_0 ap np mp tp) 5) False) False) False)) (g9 (decide ((0+S.fe np (FS tp ap))≤1000000)) (g9 true (g9 (decide ((ap+S.fe np (FS tp ap))≤mp)) (fC (.agg [.tf false,.own 4 1 (0+S.fe np (FS tp ap))]) (u46_e_0 ap np mp tp) 5) False) False) False)) False
theorem te46:run g9 Tryz.env true (xB0 g9) true 400 ⟨90,[.cd (zS Tryz.f90).body],yD 0 [.bool ng,.loose ⟨0,1,ap,0⟩ np],[[],[(0,(false,CB mp tp))]],1⟩ (zq 1 [] fA fC)=
 Te46 g9 fC ng ap np mp tp:=by kernel_rfl
noncomputable abbrev J46:Rt46→zQ:=fun r=> [yJ (1+1) ((N46) r)++ [(0,(false,CB mp tp))]]
attribute [local irreducible] Int.subNatNat in
theorem a46 {r:Rt46} (h:zX ((q46 ng ap np mp tp)) ((p46 ng ap np mp tp)) r):zn Tryz.prog 90 [.bool ng,.loose ⟨0,1,ap,0⟩ np] [[(0,(false,CB mp tp))]] 1 ((V46) r) ((J46 mp tp) r) 400∧HB Tryz.prog 90:=by
 refine zf Tryz.envOk Tryz.mixed uH ((I46)) ((V46)) (J46 mp tp) (fn:=zS Tryz.f90) (ts:= []) (n:=400) rfl (by decide) (by simp) (zV rfl) ?_ ?_ ?_ h
 · intro s; exact s.elim
 · intro fA fC x hS hR h
   refine Holds.eq (te46 cond fA fC ng ap np mp tp) ?_
   unfold Te46
   unfold p46 at h
   refine zA h (fun c0 h=>zA h (fun c1 h=>zA h (fun c2 h=>zA h (fun c3 h=>zJ rfl (zA h (fun c4 h=> ?_) (fun c4 h=> ?_))) (fun c3 h=> ?_)) (fun c2 h=>zA h (fun c3 h=>zJ rfl (zA h (fun c4 h=> ?_) (fun c4 h=> ?_))) (fun c3 h=> ?_))) (fun c1 h=>zA h (fun c2 h=>zJ rfl (zA h (fun c3 h=> ?_) (fun c3 h=> ?_))) (fun c2 h=> ?_))) (fun c0 h=> ?_)
   all_goals first
     |exact zF h
     |exact zU hR _ h (fun n=>bif Nat.beq n 2 then 4 else n) rfl rfl rfl (zg ⟨(zR rfl),(zZ (zD rfl) rfl zW),trivial⟩) rfl (zL (zD rfl) rfl (Nat.le_of_eq zW) (zO (fun _ hj=>z3 (fun (t:Int)=>t) hj) zP) (zB (zC rfl) rfl rfl zE))
 · intro fA fC x hS hR s h; exact s.elim
end
noncomputable abbrev w46 {α:Type} (g:Bool→Nat→Nat→Nat→(Nat→Int)→α) (x:Bool×(Nat×Nat×Nat×(Nat→Int)×Unit)×Unit):α:=g x.1 x.2.1.1 x.2.1.2.1 x.2.1.2.2.1 x.2.1.2.2.2.1
noncomputable def k46:Con:=⟨90,[.one (.plain (.bool)),.one (.list [.int .i64])],w46 (fun ng ap np mp tp=>decide (ap+np≤mp∧np≤1000000∧S.fG np (FS tp ap)=true)),w46 (fun ng ap np mp tp=>(V46) (S.fW ng (S.val np (FS tp ap)),S.fX (S.val np (FS tp ap)))),w46 (fun ng ap np mp tp=>(N46) (S.fW ng (S.val np (FS tp ap)),S.fX (S.val np (FS tp ap)))),fun _ _=> .dead⟩
theorem s46 (ng:Bool) (ap np mp:Nat) (tp:Nat→Int) (hp:ap+np≤mp∧np≤1000000∧S.fG np (fun j=>tp (j+ap))=true):zX ((q46 ng ap np mp tp)) ((p46 ng ap np mp tp)) ((S.fW ng (S.val np (fun j=>tp (j+ap))),S.fX (S.val np (fun j=>tp (j+ap))))):=by
 obtain ⟨hp1,hp2,hp3⟩:=hp
 have e1:=jq (n:=np) (t:=(fun j=>tp (j+ap)))
 have hl:S.fe np (fun j=>tp (j+ap))≤np:=by
  have:=(vg (L:=S.fJ np (fun j=>tp (j+ap)))).1
  rw [zW] at this
  exact this
 have e2:(0<S.fe np (fun j=>tp (j+ap)))↔0<S.val np (fun j=>tp (j+ap)):=by
  unfold S.fe
  rw [vC hp3]
  constructor
  · intro h
    refine Int.not_le.mp fun h2=> ?_
    rw [yX h2] at h
    exact absurd h (by simp)
  · exact yT
 rw [← vC hp3,← e1]
 generalize S.val np (fun j=>tp (j+ap))=v at*
 unfold S.fW
 unfold p46
 rw [Nat.zero_add]
 generalize S.fe np (fun j=>tp (j+ap))=k at*
 by_cases hk:0<k
 · rw [decide_eq_true (e2.mp hk)]
   cases ng
   repeat' (first|with_reducible refine zN (fun h=> ?_) (fun h=> ?_)<;>(try simp only [SH] at h)|exact zI.mpr (by omega))
   all_goals first|(exfalso; omega)|exact zG.mpr rfl|simp at*
 · rw [decide_eq_false (fun h=>hk (e2.mpr h))]
   cases ng
   repeat' (first|with_reducible refine zN (fun h=> ?_) (fun h=> ?_)<;>(try simp only [SH] at h)|exact zI.mpr (by omega))
   all_goals first|(exfalso; omega)|exact zG.mpr rfl|simp at*
theorem k46_ok:k46.ok Tryz.prog:=by
 intro x hx
 obtain ⟨ng,⟨ap,np,mp,tp,_⟩,_⟩:=x
 obtain ⟨h1,h2⟩:=a46 ng ap np mp tp (s46 ng ap np mp tp (zo hx rfl))
 exact ⟨⟨400,(by decide:1+1+1≤400),h1⟩,h2⟩
namespace S
def fE (ng:Bool) (n:Nat) (t:Nat→Int):Bool:=decide (n≤80)&&(fF n t&&(decide (0<n)|| !ng))
def sv (ng:Bool) (v:Int):Int:=bif ng then-v else v
noncomputable def fP (v:Int):Bool×List Int:=(decide (v<0),fX (v.natAbs:Int))
end S
theorem y5 {ng:Bool} {n:Nat} {t:Nat→Int}:S.fE ng n t=true↔n≤80∧S.fF n t=true∧(0<n∨ng=false):=by
 unfold S.fE
 rw [Bool.and_eq_true,Bool.and_eq_true,Bool.or_eq_true,decide_eq_true_eq,decide_eq_true_eq,Bool.not_eq_true']
section
variable (g9:TT) (fA:KS) (fC:KR) (ng:Bool) (ap np mp:Nat) (tp:NI)
inductive St18 where
 |h0 (x0:Int)
abbrev Rt18:=Bool
noncomputable def V18 (r:Rt18):PV:= .bool r
noncomputable def N18 (r:Rt18):List Blk:= []
noncomputable def I18:St18→Hd
  | .h0 x0=>⟨hd Tryz.f51 0,[.ptr ⟨1,0,0,0⟩,
 .loose ⟨0,1,ap,0⟩ np,.int .i64 (np:Int),
 .int .i64 x0],[[(1,(true,.cells [.bool ng,.loose ⟨0,1,ap,0⟩ np]))],[(0,(false,CB mp tp))]],2⟩
noncomputable def q18 (ng:Bool) (ap np mp:Nat) (tp:NI):St18→Option (St18⊕Rt18)| .h0 x0=>bif (decide (x0<(np:Int))) then (bif (decide ((0:Int)≤x0∧x0<(np:Int))) then (bif (decide (x0.toNat+ap<mp)) then (bif (decide (tp (x0.toNat+ap)<0)) then (some (.inr false)) else (bif (decide (tp (x0.toNat+ap)≥1000000)) then (some (.inr false)) else (bif (lim .i64 (x0+1)) then (some (.inl (.h0 (x0+1)))) else none))) else none) else none) else (bif ((np:Int)==0) then (bif ng then (some (.inr false)) else (some (.inr true))) else (bif (lim .i64 ((np:Int)-1)) then (bif (decide ((0:Int)≤(np:Int)-1∧(np:Int)-1<(np:Int))) then (bif (decide (((np:Int)-1).toNat+ap<mp)) then (bif (tp (((np:Int)-1).toNat+ap) != 0) then (some (.inr true)) else (some (.inr false))) else none) else none) else none))
noncomputable def p18 (ng:Bool) (ap np mp:Nat) (tp:NI):Option (St18⊕Rt18):=bif (decide ((np:Int)>80)) then (some (.inr false)) else (some (.inl (.h0 ((0:Int)))))
def Te18:Prop:=g9 (decide ((np:Int)>80)) (fC (.tf false) ([[(0,false,CB mp tp)]]) 2) (fA (hd Tryz.f51 0) ([.ptr ⟨1,0,0,0⟩,.loose ⟨0,1,ap,0⟩ np,.int .i64 (np:Int),.int .i64 0]) ([[(0,false,CB mp tp),(1,true,.cells [.bool ng,.loose ⟨0,1,ap,0⟩ np])]]) 2)
theorem te18:run g9 Tryz.env true noX true 400 ⟨51,[.cd (zS Tryz.f51).body],yD 0 [.agg [.bool ng,.loose ⟨0,1,ap,0⟩ np]],[[],[(0,(false,CB mp tp))]],1⟩ (zq 1 [1,10,11,12] fA fC)=
 Te18 g9 fA fC ng ap np mp tp:=by kernel_rfl
noncomputable abbrev u18_0_0:=(0,false,Blk.cols mp [Col.int IntKind.i64 tp])
def T18_0 (x0:Int):Prop:=g9 (decide (x0<(np:Int))) (g9 (decide ((0:Int)≤x0∧x0<(np:Int))) (g9 (decide (x0.toNat+ap<mp)) (g9 (decide (tp (x0.toNat+ap)<0)) (fC (.tf false) ([[(u18_0_0 mp tp)]]) 2) (g9 (decide (tp (x0.toNat+ap)≥1000000)) (fC (.tf false) ([[(u18_0_0 mp tp)]]) 2) (g9 (lim .i64 (x0+1)) (fA (hd Tryz.f51 0) ([.ptr ⟨1,0,0,0⟩,.loose ⟨0,1,ap,0⟩ np,.int .i64 (np:Int),.int .i64 (x0+1)]) ([[(u18_0_0 mp tp),(1,true,.cells [.bool ng,.loose ⟨0,1,ap,0⟩ np])]]) 2) False))) False) False) (g9 ((np:Int)==0) (g9 ng (fC (.tf false) ([[(u18_0_0 mp tp)]]) 2) (fC (.tf true) ([[(u18_0_0 mp tp)]]) 2)) (g9 (lim .i64 ((np:Int)-1)) (g9 (decide ((0:Int)≤(np:Int)-1∧(np:Int)-1<(np:Int))) (g9 (decide (((np:Int)-1).toNat+ap<mp)) (g9 (tp (((np:Int)-1).toNat+ap) != 0) (fC (.tf true) ([[(u18_0_0 mp tp)]]) 2) (fC (.tf false) ([[(u18_0_0 mp tp)]]) 2)) False) False) False))
theorem t18_0 (x0:Int):run g9 Tryz.env true noX true 400 ⟨51,hd Tryz.f51 0,yc [1,10,11,12] [.ptr ⟨1,0,0,0⟩,
 .loose ⟨0,1,ap,0⟩ np,.int .i64 (np:Int),
 .int .i64 x0],[[(1,(true,.cells [.bool ng,.loose ⟨0,1,ap,0⟩ np]))],[(0,(false,CB mp tp))]],2⟩ (zq 1 [1,10,11,12] fA fC)=
  T18_0 g9 fA fC ng ap np mp tp x0:=by kernel_rfl
noncomputable abbrev J18:Rt18→zQ:=fun r=> [yJ (1+1) ((N18) r)++ [(0,(false,CB mp tp))]]
attribute [local irreducible] Int.subNatNat in
theorem a18 {r:Rt18} (h:zX ((q18 ng ap np mp tp)) ((p18 ng ap np mp tp)) r):zn Tryz.prog 51 [.agg [.bool ng,.loose ⟨0,1,ap,0⟩ np]] [[(0,(false,CB mp tp))]] 1 ((V18) r) ((J18 mp tp) r) 400∧HB Tryz.prog 51:=by
 refine zf Tryz.envOk Tryz.mixed y3 ((I18 ng ap np mp tp)) ((V18)) (J18 mp tp) (fn:=zS Tryz.f51) (ts:= [1,10,11,12]) (n:=400) rfl (by decide) (by simp) (zV rfl) ?_ ?_ ?_ h
 · intro s; cases s<;>exact ⟨ym _ _,by simp [I18],zV rfl,Nat.le_of_ble_eq_true rfl⟩
 · intro fA fC x hS hR h
   refine Holds.eq (te18 cond fA fC ng ap np mp tp) ?_
   unfold Te18
   unfold p18 at h
   exact zA h (fun c0 h=>zU hR _ h (fun n=>n) rfl rfl rfl (zR rfl) rfl (zB (zC rfl) rfl rfl zE)) (fun c0 h=>zb hS _ h (fun n=>bif Nat.beq n 1 then 1 else n) rfl rfl rfl ⟨(yG (zD rfl) rfl rfl),⟨(zM (zC rfl) rfl rfl rfl),⟨(zH rfl),⟨(zH rfl),trivial⟩⟩⟩⟩ rfl (yK (zD rfl) rfl (by simp) (zt ⟨(zu rfl),(zM (zC rfl) rfl rfl rfl),trivial⟩) (zB (zC rfl) rfl rfl zE)))
 · intro fA fC x hS hR s h
   cases s with
   | h0 x0=>
    refine Holds.eq (t18_0 cond fA fC ng ap np mp tp x0) ?_
    unfold T18_0
    rw [q18] at h
    refine zA h (fun c0 h=>zA h (fun c1 h=>zA h (fun c2 h=>zA h (fun c3 h=> ?_) (fun c3 h=>zA h (fun c4 h=> ?_) (fun c4 h=>zA h (fun c5 h=>zb hS _ h (fun n=>bif Nat.beq n 1 then 1 else n) rfl rfl rfl ⟨(yG (zD rfl) rfl rfl),⟨(zM (zC rfl) rfl rfl rfl),⟨(zH rfl),⟨(zH rfl),trivial⟩⟩⟩⟩ rfl (yK (zD rfl) rfl (by simp) (zt ⟨(zu rfl),(zM (zC rfl) rfl rfl rfl),trivial⟩) (zB (zC rfl) rfl rfl zE))) (fun c5 h=> ?_)))) (fun c2 h=> ?_)) (fun c1 h=> ?_)) (fun c0 h=>zA h (fun c1 h=>zA h (fun c2 h=> ?_) (fun c2 h=> ?_)) (fun c1 h=>zA h (fun c2 h=>zA h (fun c3 h=>zA h (fun c4 h=>zA h (fun c5 h=> ?_) (fun c5 h=> ?_)) (fun c4 h=> ?_)) (fun c3 h=> ?_)) (fun c2 h=> ?_)))
    all_goals first
      |exact zU hR _ h (fun n=>n) rfl rfl rfl (zR rfl) rfl (zB (zC rfl) rfl rfl zE)
      |exact zF h
end
noncomputable abbrev w18 {α:Type} (g:Bool→Nat→Nat→Nat→(Nat→Int)→α) (x:(Bool×(Nat×Nat×Nat×(Nat→Int)×Unit)×Unit)×Unit):α:=g x.1.1 x.1.2.1.1 x.1.2.1.2.1 x.1.2.1.2.2.1 x.1.2.1.2.2.2.1
noncomputable def k18:Con:=⟨51,[.agg [.plain (.bool),.list [.int .i64]]],w18 (fun ng ap np mp tp=>decide (ap+np≤mp∧np≤1000000)),w18 (fun ng ap np mp tp=>(V18) (S.fE ng np (FS tp ap))),w18 (fun ng ap np mp tp=>(N18) (S.fE ng np (FS tp ap))),fun _ _=> .dead⟩
theorem s18' (ng:Bool) (ap np mp:Nat) (tp:Nat→Int) (hp:ap+np≤mp∧np≤1000000) (hn:np≤80): ∀ (k i:Nat),i+k=np→(∀ j,j<i→0≤tp (j+ap)∧tp (j+ap)<1000000)→Comes (q18 ng ap np mp tp) (.h0 (i:Int)) (S.fE ng np (fun j=>tp (j+ap))):=by
 obtain ⟨hp1,hp2⟩:=hp
 intro k
 induction k with
 | zero=>
  intro i hi hj
  obtain rfl:np=i:=by omega
  have hG:S.fF np (fun j=>tp (j+ap))=true↔(np=0∨tp (np-1+ap)≠0):=by
   rw [zl]
   exact ⟨fun h=>h.2,fun h=>⟨hj,h⟩⟩
  have hI:=y5 (ng:=ng) (n:=np) (t:=(fun j=>tp (j+ap)))
  rw [hG] at hI
  have e1:((np:Int)-1).toNat=np-1:=by omega
  generalize S.fE ng np (fun j=>tp (j+ap))=R at*
  have hR:(np≤80∧(np=0∨tp (np-1+ap)≠0)∧(0<np∨ng=false))→true=R:=fun h=>(hI.mpr h).symm
  have hR': ¬ (np≤80∧(np=0∨tp (np-1+ap)≠0)∧(0<np∨ng=false))→false=R:=fun h=>by cases R; rfl; exact absurd (hI.mp rfl) h
  cases ng
  · apply Comes.of
    show zX _ _ _
    (first|rw [q18]|unfold q18)
    repeat' (first|with_reducible refine zN (fun h=> ?_) (fun h=> ?_)<;>(try simp only [SH,e1] at h)|exact zI.mpr (by omega))
    all_goals first
      |(exfalso; omega)
      |(refine zG.mpr (hR ⟨by omega,by omega,?_⟩); first|exact .inr rfl|(left; omega)|(left; rcases Nat.eq_zero_or_pos np with h|h<;>first|exact h|exact absurd (hl.1 h) (by decide)))
      |(refine zG.mpr (hR' ?_); intro hx; first|(exact absurd hx.2.2 (by simp; omega))|omega|(have h3:=hx.2.1; omega))
      |(exfalso; simp at*; done)
  · apply Comes.of
    show zX _ _ _
    (first|rw [q18]|unfold q18)
    repeat' (first|with_reducible refine zN (fun h=> ?_) (fun h=> ?_)<;>(try simp only [SH,e1] at h)|exact zI.mpr (by omega))
    all_goals first
      |(exfalso; omega)
      |(refine zG.mpr (hR ⟨by omega,by omega,?_⟩); first|exact .inr rfl|(left; omega)|(left; rcases Nat.eq_zero_or_pos np with h|h<;>first|exact h|exact absurd (hl.1 h) (by decide)))
      |(refine zG.mpr (hR' ?_); intro hx; first|(exact absurd hx.2.2 (by simp; omega))|omega|(have h3:=hx.2.1; omega))
      |(exfalso; simp at*; done)
 | succ k ih=>
  intro i hi hj
  by_cases hc:0≤tp (i+ap)∧tp (i+ap)<1000000
  · have ih:=ih (i+1) (by omega) (fun j hlt=>by
     rcases Nat.lt_or_eq_of_le (Nat.le_of_lt_succ hlt) with h2|h2
     · exact hj j h2
     · subst h2; exact hc)
    apply Comes.of
    show zX _ _ _
    (first|rw [q18]|unfold q18)
    repeat' (first|with_reducible refine zN (fun h=> ?_) (fun h=> ?_)<;>(try simp only [SH] at h)|exact zI.mpr (by omega))
    all_goals first|(exfalso; omega)|exact ih
  · have hR:S.fE ng np (fun j=>tp (j+ap))=false:=by
     rw [Bool.eq_false_iff]
     intro h
     exact hc ((zl.mp (y5.mp h).2.1).1 i (by omega))
    rw [hR]
    apply Comes.of
    show zX _ _ _
    (first|rw [q18]|unfold q18)
    repeat' (first|with_reducible refine zN (fun h=> ?_) (fun h=> ?_)<;>(try simp only [SH] at h)|exact zI.mpr (by omega))
    all_goals first|(exfalso; omega)|exact zG.mpr rfl
theorem s18 (ng:Bool) (ap np mp:Nat) (tp:Nat→Int) (hp:ap+np≤mp∧np≤1000000):zX ((q18 ng ap np mp tp)) ((p18 ng ap np mp tp)) (S.fE ng np (fun j=>tp (j+ap))):=by
 have hI:=y5 (ng:=ng) (n:=np) (t:=(fun j=>tp (j+ap)))
 rw [zl] at hI
 by_cases hn:np≤80
 · skip
   have hm:=s18' ng ap np mp tp hp hn np 0 (by omega) (fun j hj=>absurd hj (Nat.not_lt_zero j))
   skip
   have hR': ¬ ((np=0∨tp (np-1+ap)≠0)∧(0<np∨ng=false))→false=S.fE ng np (fun j=>tp (j+ap)):=fun h=>by
    cases hx:S.fE ng np (fun j=>tp (j+ap))
    · rfl
    · exact absurd ⟨(hI.mp hx).2.1.2,(hI.mp hx).2.2⟩ h
   have e1:((np:Int)-1).toNat=np-1:=by omega
   generalize S.fE ng np (fun j=>tp (j+ap))=R at*
   obtain ⟨hp1,hp2⟩:=hp
   cases ng
   · skip
     show zX _ _ _
     unfold p18
     repeat' (first|with_reducible refine zN (fun h=> ?_) (fun h=> ?_)<;>(try simp only [SH,e1] at h)|exact zI.mpr (by omega))
     all_goals first
       |(exfalso; omega)
       |exact hm
       |exact hm ⟨fun _=>rfl,fun h=>by omega⟩
       |(refine zG.mpr (hR' ?_); intro hx; first|(exact absurd hx.2 (by simp; omega))|omega|(have h3:=hx.1; omega))
       |(exfalso; simp at*; done)
   · skip
     show zX _ _ _
     unfold p18
     repeat' (first|with_reducible refine zN (fun h=> ?_) (fun h=> ?_)<;>(try simp only [SH,e1] at h)|exact zI.mpr (by omega))
     all_goals first
       |(exfalso; omega)
       |exact hm
       |exact hm ⟨fun h=>by omega,fun h=>by omega⟩
       |(refine zG.mpr (hR' ?_); intro hx; first|(exact absurd hx.2 (by simp; omega))|omega|(have h3:=hx.1; omega))
       |(exfalso; simp at*; done)
 · have hR:S.fE ng np (fun j=>tp (j+ap))=false:=by
    rw [Bool.eq_false_iff]
    intro h
    exact hn (hI.mp h).1
   rw [hR]
   show zX _ _ _
   unfold p18
   repeat' (first|with_reducible refine zN (fun h=> ?_) (fun h=> ?_)<;>(try simp only [SH] at h)|exact zI.mpr (by omega))
   all_goals first|(exfalso; omega)|exact zG.mpr rfl
theorem k18_ok:k18.ok Tryz.prog:=by
 intro x hx
 obtain ⟨⟨ng,⟨ap,np,mp,tp,_⟩,_⟩,_⟩:=x
 obtain ⟨h1,h2⟩:=a18 ng ap np mp tp (s18 ng ap np mp tp (zo hx rfl))
 exact ⟨⟨400,(by decide:1+1+0≤400),h1⟩,h2⟩
section
variable (g9:TT) (fA:KS) (fC:KR) (ng:Bool) (ap np mp:Nat) (tp:NI)
inductive St19 where
 |h0 (x0:Int)
abbrev Rt19:=Bool
noncomputable def V19 (r:Rt19):PV:= .bool r
noncomputable def N19 (r:Rt19):List Blk:= []
noncomputable def I19:St19→Hd
  | .h0 x0=>⟨hd Tryz.f54 0,[.ptr ⟨1,0,0,0⟩,.int .i64 (np:Int),
 .int .i64 x0],[[(1,(true,.cells [.bool ng,.loose ⟨0,1,ap,0⟩ np]))],[(0,(false,CB mp tp))]],2⟩
noncomputable def q19 (ng:Bool) (ap np mp:Nat) (tp:NI):St19→Option (St19⊕Rt19)| .h0 x0=>bif (decide (x0<(np:Int))) then (bif (decide ((0:Int)≤x0∧x0<(np:Int))) then (bif (decide (x0.toNat+ap<mp)) then (bif (decide (tp (x0.toNat+ap)<0)) then (some (.inr false)) else (bif (decide (tp (x0.toNat+ap)≥1000000)) then (some (.inr false)) else (bif (lim .i64 (x0+1)) then (some (.inl (.h0 (x0+1)))) else none))) else none) else none) else (some (.inr true))
noncomputable def p19 (ng:Bool) (ap np mp:Nat) (tp:NI):Option (St19⊕Rt19):=bif (decide ((np:Int)>80)) then (some (.inr false)) else (bif ((np:Int)==0) then (bif ng then (some (.inr false)) else (bif (decide ((np:Int)>0)) then (bif (lim .i64 ((np:Int)-1)) then (bif (decide ((0:Int)≤(np:Int)-1∧(np:Int)-1<(np:Int))) then (bif (decide (((np:Int)-1).toNat+ap<mp)) then (bif (tp (((np:Int)-1).toNat+ap)==0) then (some (.inr false)) else (some (.inl (.h0 ((0:Int)))))) else none) else none) else none) else (some (.inl (.h0 ((0:Int))))))) else (bif (decide ((np:Int)>0)) then (bif (lim .i64 ((np:Int)-1)) then (bif (decide ((0:Int)≤(np:Int)-1∧(np:Int)-1<(np:Int))) then (bif (decide (((np:Int)-1).toNat+ap<mp)) then (bif (tp (((np:Int)-1).toNat+ap)==0) then (some (.inr false)) else (some (.inl (.h0 ((0:Int)))))) else none) else none) else none) else (some (.inl (.h0 ((0:Int)))))))
noncomputable abbrev u19_e_0:=([[(0,false,Blk.cols mp [Col.int IntKind.i64 tp]),(1,true,Blk.cells [PV.bool ng,PV.loose ⟨0,1,ap,0⟩ np])]])
noncomputable abbrev u19_e_1:=([PV.ptr ⟨1,0,0,0⟩,PV.int IntKind.i64 (np:Int),PV.int IntKind.i64 (0:Int)])
def Te19:Prop:=g9 (decide ((np:Int)>80)) (fC (.tf false) ([[(0,false,CB mp tp)]]) 2) (g9 ((np:Int)==0) (g9 ng (fC (.tf false) ([[(0,false,CB mp tp)]]) 2) (g9 (decide ((np:Int)>0)) (g9 (lim .i64 ((np:Int)-1)) (g9 (decide ((0:Int)≤(np:Int)-1∧(np:Int)-1<(np:Int))) (g9 (decide (((np:Int)-1).toNat+ap<mp)) (g9 (tp (((np:Int)-1).toNat+ap)==0) (fC (.tf false) ([[(0,false,CB mp tp)]]) 2) (fA (hd Tryz.f54 0) (u19_e_1 np) (u19_e_0 ng ap np mp tp) 2)) False) False) False) (fA (hd Tryz.f54 0) (u19_e_1 np) (u19_e_0 ng ap np mp tp) 2))) (g9 (decide ((np:Int)>0)) (g9 (lim .i64 ((np:Int)-1)) (g9 (decide ((0:Int)≤(np:Int)-1∧(np:Int)-1<(np:Int))) (g9 (decide (((np:Int)-1).toNat+ap<mp)) (g9 (tp (((np:Int)-1).toNat+ap)==0) (fC (.tf false) ([[(0,false,CB mp tp)]]) 2) (fA (hd Tryz.f54 0) (u19_e_1 np) (u19_e_0 ng ap np mp tp) 2)) False) False) False) (fA (hd Tryz.f54 0) (u19_e_1 np) (u19_e_0 ng ap np mp tp) 2)))
theorem te19:run g9 Tryz.env true noX true 400 ⟨54,[.cd (zS Tryz.f54).body],yD 0 [.agg [.bool ng,.loose ⟨0,1,ap,0⟩ np]],[[],[(0,(false,CB mp tp))]],1⟩ (zq 1 [1,3,4] fA fC)=
 Te19 g9 fA fC ng ap np mp tp:=by kernel_rfl
def T19_0 (x0:Int):Prop:=g9 (decide (x0<(np:Int))) (g9 (decide ((0:Int)≤x0∧x0<(np:Int))) (g9 (decide (x0.toNat+ap<mp)) (g9 (decide (tp (x0.toNat+ap)<0)) (fC (.tf false) ([[(0,false,CB mp tp)]]) 2) (g9 (decide ((0:Int)≤x0∧x0<(np:Int))) (g9 (decide (x0.toNat+ap<mp)) (g9 (decide (tp (x0.toNat+ap)≥1000000)) (fC (.tf false) ([[(0,false,CB mp tp)]]) 2) (g9 (lim .i64 (x0+1)) (fA (hd Tryz.f54 0) ([.ptr ⟨1,0,0,0⟩,.int .i64 (np:Int),.int .i64 (x0+1)]) ([[(0,false,CB mp tp),(1,true,.cells [.bool ng,.loose ⟨0,1,ap,0⟩ np])]]) 2) False)) False) False)) False) False) (fC (.tf true) ([[(0,false,CB mp tp)]]) 2)
theorem t19_0 (x0:Int):run g9 Tryz.env true noX true 400 ⟨54,hd Tryz.f54 0,yc [1,3,4] [.ptr ⟨1,0,0,0⟩,.int .i64 (np:Int),
 .int .i64 x0],[[(1,(true,.cells [.bool ng,.loose ⟨0,1,ap,0⟩ np]))],[(0,(false,CB mp tp))]],2⟩ (zq 1 [1,3,4] fA fC)=
  T19_0 g9 fA fC ng ap np mp tp x0:=by kernel_rfl
noncomputable abbrev J19:Rt19→zQ:=fun r=> [yJ (1+1) ((N19) r)++ [(0,(false,CB mp tp))]]
attribute [local irreducible] Int.subNatNat in
theorem a19 {r:Rt19} (h:zX ((q19 ng ap np mp tp)) ((p19 ng ap np mp tp)) r):zn Tryz.prog 54 [.agg [.bool ng,.loose ⟨0,1,ap,0⟩ np]] [[(0,(false,CB mp tp))]] 1 ((V19) r) ((J19 mp tp) r) 400∧HB Tryz.prog 54:=by
 refine zf Tryz.envOk Tryz.mixed y3 ((I19 ng ap np mp tp)) ((V19)) (J19 mp tp) (fn:=zS Tryz.f54) (ts:= [1,3,4]) (n:=400) rfl (by decide) (by simp) (zV rfl) ?_ ?_ ?_ h
 · intro s; cases s<;>exact ⟨ym _ _,by simp [I19],zV rfl,Nat.le_of_ble_eq_true rfl⟩
 · intro fA fC x hS hR h
   refine Holds.eq (te19 cond fA fC ng ap np mp tp) ?_
   unfold Te19
   unfold p19 at h
   refine zA h (fun c0 h=> ?_) (fun c0 h=>zA h (fun c1 h=>zA h (fun c2 h=> ?_) (fun c2 h=>zA h (fun c3 h=>zA h (fun c4 h=>zA h (fun c5 h=>zA h (fun c6 h=>zA h (fun c7 h=> ?_) (fun c7 h=> ?_)) (fun c6 h=> ?_)) (fun c5 h=> ?_)) (fun c4 h=> ?_)) (fun c3 h=> ?_))) (fun c1 h=>zA h (fun c2 h=>zA h (fun c3 h=>zA h (fun c4 h=>zA h (fun c5 h=>zA h (fun c6 h=> ?_) (fun c6 h=> ?_)) (fun c5 h=> ?_)) (fun c4 h=> ?_)) (fun c3 h=> ?_)) (fun c2 h=> ?_)))
   all_goals first
     |exact zF h
     |exact zU hR _ h (fun n=>n) rfl rfl rfl (zR rfl) rfl (zB (zC rfl) rfl rfl zE)
     |exact zb hS _ h (fun n=>bif Nat.beq n 1 then 1 else n) rfl rfl rfl ⟨(yG (zD rfl) rfl rfl),⟨(zH rfl),⟨(zH rfl),trivial⟩⟩⟩ rfl (yK (zD rfl) rfl (by simp) (zt ⟨(zu rfl),(zM (zC rfl) rfl rfl rfl),trivial⟩) (zB (zC rfl) rfl rfl zE))
 · intro fA fC x hS hR s h
   cases s with
   |h0 x0=>
    refine Holds.eq (t19_0 cond fA fC ng ap np mp tp x0) ?_
    unfold T19_0
    rw [q19] at h
    exact zA h (fun c0 h=>zA h (fun c1 h=>zA h (fun c2 h=>zA h (fun c3 h=>zU hR _ h (fun n=>n) rfl rfl rfl (zR rfl) rfl (zB (zC rfl) rfl rfl zE)) (fun c3 h=>zJ c1 (zJ c2 (zA h (fun c4 h=>zU hR _ h (fun n=>n) rfl rfl rfl (zR rfl) rfl (zB (zC rfl) rfl rfl zE)) (fun c4 h=>zA h (fun c5 h=>zb hS _ h (fun n=>bif Nat.beq n 1 then 1 else n) rfl rfl rfl ⟨(yG (zD rfl) rfl rfl),⟨(zH rfl),⟨(zH rfl),trivial⟩⟩⟩ rfl (yK (zD rfl) rfl (by simp) (zt ⟨(zu rfl),(zM (zC rfl) rfl rfl rfl),trivial⟩) (zB (zC rfl) rfl rfl zE))) (fun c5 h=>zF h)))))) (fun c2 h=>zF h)) (fun c1 h=>zF h)) (fun c0 h=>zU hR _ h (fun n=>n) rfl rfl rfl (zR rfl) rfl (zB (zC rfl) rfl rfl zE))
end
noncomputable def k19:Con:=⟨54,[.agg [.plain (.bool),.list [.int .i64]]],w18 (fun ng ap np mp tp=>decide (ap+np≤mp∧np≤1000000)),w18 (fun ng ap np mp tp=>(V19) (S.fE ng np (FS tp ap))),w18 (fun ng ap np mp tp=>(N19) (S.fE ng np (FS tp ap))),fun _ _=> .dead⟩
theorem s19' (ng:Bool) (ap np mp:Nat) (tp:Nat→Int) (hp:ap+np≤mp∧np≤1000000) (hn:np≤80) (hl:(np=0→ng=false)∧(0<np→tp (np-1+ap)≠0)): ∀ (k i:Nat),i+k=np→(∀ j,j<i→0≤tp (j+ap)∧tp (j+ap)<1000000)→Comes (q19 ng ap np mp tp) (.h0 (i:Int)) (S.fE ng np (fun j=>tp (j+ap))):=by
 obtain ⟨hp1,hp2⟩:=hp
 intro k
 induction k with
 | zero=>
  intro i hi hj
  obtain rfl:np=i:=by omega
  have hG:S.fF np (fun j=>tp (j+ap))=true↔(np=0∨tp (np-1+ap)≠0):=by
   rw [zl]
   exact ⟨fun h=>h.2,fun h=>⟨hj,h⟩⟩
  have hI:=y5 (ng:=ng) (n:=np) (t:=(fun j=>tp (j+ap)))
  rw [hG] at hI
  have e1:((np:Int)-1).toNat=np-1:=by omega
  generalize S.fE ng np (fun j=>tp (j+ap))=R at*
  have hR:(np≤80∧(np=0∨tp (np-1+ap)≠0)∧(0<np∨ng=false))→true=R:=fun h=>(hI.mpr h).symm
  have hR': ¬ (np≤80∧(np=0∨tp (np-1+ap)≠0)∧(0<np∨ng=false))→false=R:=fun h=>by cases R; rfl; exact absurd (hI.mp rfl) h
  cases ng
  · apply Comes.of
    show zX _ _ _
    (first|rw [q19]|unfold q19)
    repeat' (first|with_reducible refine zN (fun h=> ?_) (fun h=> ?_)<;>(try simp only [SH,e1] at h)|exact zI.mpr (by omega))
    all_goals first
      |(exfalso; omega)
      |(refine zG.mpr (hR ⟨by omega,by omega,?_⟩); first|exact .inr rfl|(left; omega)|(left; rcases Nat.eq_zero_or_pos np with h|h<;>first|exact h|exact absurd (hl.1 h) (by decide)))
      |(refine zG.mpr (hR' ?_); intro hx; first|(exact absurd hx.2.2 (by simp; omega))|omega|(have h3:=hx.2.1; omega))
      |(exfalso; simp at*; done)
  · apply Comes.of
    show zX _ _ _
    (first|rw [q19]|unfold q19)
    repeat' (first|with_reducible refine zN (fun h=> ?_) (fun h=> ?_)<;>(try simp only [SH,e1] at h)|exact zI.mpr (by omega))
    all_goals first
      |(exfalso; omega)
      |(refine zG.mpr (hR ⟨by omega,by omega,?_⟩); first|exact .inr rfl|(left; omega)|(left; rcases Nat.eq_zero_or_pos np with h|h<;>first|exact h|exact absurd (hl.1 h) (by decide)))
      |(refine zG.mpr (hR' ?_); intro hx; first|(exact absurd hx.2.2 (by simp; omega))|omega|(have h3:=hx.2.1; omega))
      |(exfalso; simp at*; done)
 | succ k ih=>
  intro i hi hj
  by_cases hc:0≤tp (i+ap)∧tp (i+ap)<1000000
  · have ih:=ih (i+1) (by omega) (fun j hlt=>by
     rcases Nat.lt_or_eq_of_le (Nat.le_of_lt_succ hlt) with h2|h2
     · exact hj j h2
     · subst h2; exact hc)
    apply Comes.of
    show zX _ _ _
    (first|rw [q19]|unfold q19)
    repeat' (first|with_reducible refine zN (fun h=> ?_) (fun h=> ?_)<;>(try simp only [SH] at h)|exact zI.mpr (by omega))
    all_goals first|(exfalso; omega)|exact ih
  · have hR:S.fE ng np (fun j=>tp (j+ap))=false:=by
     rw [Bool.eq_false_iff]
     intro h
     exact hc ((zl.mp (y5.mp h).2.1).1 i (by omega))
    rw [hR]
    apply Comes.of
    show zX _ _ _
    (first|rw [q19]|unfold q19)
    repeat' (first|with_reducible refine zN (fun h=> ?_) (fun h=> ?_)<;>(try simp only [SH] at h)|exact zI.mpr (by omega))
    all_goals first|(exfalso; omega)|exact zG.mpr rfl
theorem s19 (ng:Bool) (ap np mp:Nat) (tp:Nat→Int) (hp:ap+np≤mp∧np≤1000000):zX ((q19 ng ap np mp tp)) ((p19 ng ap np mp tp)) (S.fE ng np (fun j=>tp (j+ap))):=by
 have hI:=y5 (ng:=ng) (n:=np) (t:=(fun j=>tp (j+ap)))
 rw [zl] at hI
 by_cases hn:np≤80
 · skip
   skip
   have hm:=fun hl=>s19' ng ap np mp tp hp hn hl np 0 (by omega) (fun j hj=>absurd hj (Nat.not_lt_zero j))
   have hR': ¬ ((np=0∨tp (np-1+ap)≠0)∧(0<np∨ng=false))→false=S.fE ng np (fun j=>tp (j+ap)):=fun h=>by
    cases hx:S.fE ng np (fun j=>tp (j+ap))
    · rfl
    · exact absurd ⟨(hI.mp hx).2.1.2,(hI.mp hx).2.2⟩ h
   have e1:((np:Int)-1).toNat=np-1:=by omega
   generalize S.fE ng np (fun j=>tp (j+ap))=R at*
   obtain ⟨hp1,hp2⟩:=hp
   cases ng
   · skip
     show zX _ _ _
     unfold p19
     repeat' (first|with_reducible refine zN (fun h=> ?_) (fun h=> ?_)<;>(try simp only [SH,e1] at h)|exact zI.mpr (by omega))
     all_goals first
       |(exfalso; omega)
       |exact hm
       |exact hm ⟨fun _=>rfl,fun h=>by omega⟩
       |(refine zG.mpr (hR' ?_); intro hx; first|(exact absurd hx.2 (by simp; omega))|omega|(have h3:=hx.1; omega))
       |(exfalso; simp at*; done)
   · skip
     show zX _ _ _
     unfold p19
     repeat' (first|with_reducible refine zN (fun h=> ?_) (fun h=> ?_)<;>(try simp only [SH,e1] at h)|exact zI.mpr (by omega))
     all_goals first
       |(exfalso; omega)
       |exact hm
       |exact hm ⟨fun h=>by omega,fun h=>by omega⟩
       |(refine zG.mpr (hR' ?_); intro hx; first|(exact absurd hx.2 (by simp; omega))|omega|(have h3:=hx.1; omega))
       |(exfalso; simp at*; done)
 · have hR:S.fE ng np (fun j=>tp (j+ap))=false:=by
    rw [Bool.eq_false_iff]
    intro h
    exact hn (hI.mp h).1
   rw [hR]
   show zX _ _ _
   unfold p19
   repeat' (first|with_reducible refine zN (fun h=> ?_) (fun h=> ?_)<;>(try simp only [SH] at h)|exact zI.mpr (by omega))
   all_goals first|(exfalso; omega)|exact zG.mpr rfl
theorem k19_ok:k19.ok Tryz.prog:=by
 intro x hx
 obtain ⟨⟨ng,⟨ap,np,mp,tp,_⟩,_⟩,_⟩:=x
 obtain ⟨h1,h2⟩:=a19 ng ap np mp tp (s19 ng ap np mp tp (zo hx rfl))
 exact ⟨⟨400,(by decide:1+1+0≤400),h1⟩,h2⟩
noncomputable def xC (g9:Bool→Prop→Prop→Prop):Ext:=xK g9 [k69,k65,k69v,k65v,k60,k61,k44,k73,k55,k45,k58,k56,k59,k46,k18,k19]
theorem jz:yZ Tryz.prog (xC cond):=yN ⟨k69_ok,k65_ok,k69v_ok,k65v_ok,k60_ok,k61_ok,k44_ok,k73_ok,k55_ok,k45_ok,k58_ok,k56_ok,k59_ok,k46_ok,k18_ok,k19_ok,trivial⟩
namespace S
noncomputable def fa (v:Int):Bool×Int×List Int:=if (fX (v.natAbs:Int)).length>80 then (false,3,[]) else (decide (v<0),0,fX (v.natAbs:Int))
noncomputable def fM (n1:Bool) (n:Nat) (t:Nat→Int) (n2:Bool) (m:Nat) (u:Nat→Int):Bool×Int×List Int:=if fE n1 n t=true∧fE n2 m u=true then fa (sv n1 (val n t)+sv n2 (val m u)) else (false,1,[])
def fU (n1:Bool) (n:Nat) (t:Nat→Int) (n2:Bool) (m:Nat) (u:Nat→Int):Int:=if fE n1 n t=true∧fE n2 m u=true then fV (sv n1 (val n t)) (sv n2 (val m u)) else 0
end S
theorem qb {neg:Bool} {v:Int} (h:0≤v):S.fP (S.sv neg v)=(neg&&decide (0<v),S.fX v):=by
 unfold S.fP S.sv
 cases neg
 · simp only [cond_false,Bool.false_and,Prod.mk.injEq,decide_eq_false_iff_not]
   exact ⟨by omega,by rw [Int.natAbs_of_nonneg h]⟩
 · simp only [cond_true,Bool.true_and,Prod.mk.injEq]
   refine ⟨?_,by rw [Int.natAbs_neg,Int.natAbs_of_nonneg h]⟩
   rw [decide_eq_decide]
   omega
theorem t6 {neg:Bool} {v w:Int}:S.sv neg v+S.sv neg w=S.sv neg (v+w):=by
 cases neg<;>simp only [S.sv,cond_true,cond_false]
 omega
theorem wR {neg:Bool} {v w:Int}:S.sv neg v+S.sv (!neg) w=S.sv neg (v-w):=by
 cases neg<;>simp only [S.sv,Bool.not_false,Bool.not_true,cond_true,cond_false]<;>omega
theorem yy {v:Int}:((S.fX v).length=0)↔v≤0:=by
 constructor
 · intro h
   refine Int.not_lt.mp fun h2=> ?_
   have:=yT h2
   omega
 · intro h
   rw [yX h]; rfl
theorem z4 {v:Int} (h:0≤v):(S.val (S.fX v).length fun j=>S.at' (S.fX v) j)=v:=by
 have:=vE (L:=S.fX v)
 rw [ud h] at this
 exact this
theorem yw {t:Nat→Int}: ∀ {k i:Nat},(∀ j,i≤j→j<i+k→0≤t j∧t j<1000000)→S.fD t i k<S.pw k
  |0,_,_=>by show (0:Int)<1; omega
  |k+1,i,h=>by
   have h0:=h i (Nat.le_refl _) (by omega)
   have h1:=yw (t:=t) (k:=k) (i:=i+1) fun j h1 h2=>h j (by omega) (by omega)
   simp only [S.fD,S.pw]
   omega
theorem xJ: ∀ {k:Nat},0<S.pw k
  |0=>by show (0:Int)<1; omega
  |k+1=>by have:=xJ (k:=k); simp only [S.pw]; omega
theorem y4 {k m:Nat} (h:k≤m):S.pw k≤S.pw m:=by
 induction m with
 |zero=>rw [show k=0 by omega]; exact Int.le_refl _
 | succ m ih=>
  rcases Nat.lt_or_eq_of_le h with h2|h2
  · have:=ih (by omega)
    have:=xJ (k:=m)
    simp only [S.pw]
    omega
  · rw [h2]; exact Int.le_refl _
theorem yF {n m:Nat} {t:Nat→Int} (h:S.fG n t=true) (hm:n≤m):S.val n t<S.pw m:=Int.lt_of_lt_of_le (yw fun j _ hj=>yO.mp h j (by omega)) (y4 hm)
theorem z7: ∀ {n:Nat} {v:Int},v<S.pw n→(S.fX v).length≤n
  |0,v,h=>by
   have h:v<1:=h
   rw [yX (by omega)]; exact Nat.le_refl _
  | n +1,v,h=>by
   have h:v<1000000*S.pw n:=h
   by_cases h0:0<v
   · rw [xO h0]
     have:=z7 (n:=n) (v:=v / 1000000) (by omega)
     simp only [List.length_cons]
     omega
   · rw [yX (by omega)]; exact Nat.zero_le _
section
variable (g9:TT) (fA:KS) (fC:KR) (n1:Bool) (ap np mp:Nat) (tp:NI) (n2:Bool) (aq nq mq:Nat) (tq:NI)
abbrev St48:=Empty
abbrev Rt48:=Bool×List Int
noncomputable def V48 (r:Rt48):PV:= .agg [.bool r.1,.own 3 1 r.2.length]
noncomputable def N48 (r:Rt48):List Blk:= [CI r.2]
noncomputable def I48:St48→Hd:=fun s=>s.elim
noncomputable def q48 (n1:Bool) (ap np mp:Nat) (tp:NI) (n2:Bool) (aq nq mq:Nat) (tq:NI):St48→Option (St48⊕Rt48):=fun s=>s.elim
noncomputable def p48 (n1:Bool) (ap np mp:Nat) (tp:NI) (n2:Bool) (aq nq mq:Nat) (tq:NI):Option (St48⊕Rt48):=bif n1 then (bif n2 then (bif (decide ((ap+np≤mp∧aq+nq≤mq)∧(np≤1000∧nq≤1000)∧(S.fF np fun j=>tp (j+ap))=true∧(S.fF nq fun j=>tq (j+aq))=true)) then (bif ((↑((S.fX ((S.val np fun j=>tp (j+ap))+S.val nq fun j=>tq (j+aq))).length):Int)==0) then (some (.inr (false,[]))) else (some (.inr (true,S.fX ((S.val np fun j=>tp (j+ap))+S.val nq fun j=>tq (j+aq)))))) else none) else (bif (decide (ap+np≤mp∧np≤1000000∧aq+nq≤mq∧nq≤1000000∧(S.fF np fun j=>tp (j+ap))=true∧(S.fF nq fun j=>tq (j+aq))=true)) then (bif (decide (S.fV (S.val np fun j=>tp (j+ap)) (S.val nq fun j=>tq (j+aq))≥0)) then (bif (decide ((ap+np≤mp∧aq+nq≤mq)∧(np≤1000∧nq≤1000)∧(S.fF np fun j=>tp (j+ap))=true∧(S.fF nq fun j=>tq (j+aq))=true∧(S.val nq fun j=>tq (j+aq))≤S.val np fun j=>tp (j+ap))) then (bif ((↑((S.fX ((S.val np fun j=>tp (j+ap))-S.val nq fun j=>tq (j+aq))).length):Int)==0) then (some (.inr (false,[]))) else (some (.inr (true,S.fX ((S.val np fun j=>tp (j+ap))-S.val nq fun j=>tq (j+aq)))))) else none) else (bif (decide ((aq+nq≤mq∧ap+np≤mp)∧(nq≤1000∧np≤1000)∧(S.fF nq fun j=>tq (j+aq))=true∧(S.fF np fun j=>tp (j+ap))=true∧(S.val np fun j=>tp (j+ap))≤S.val nq fun j=>tq (j+aq))) then (bif ((↑((S.fX ((S.val nq fun j=>tq (j+aq))-S.val np fun j=>tp (j+ap))).length):Int)==0) then (some (.inr (false,[]))) else (some (.inr (false,S.fX ((S.val nq fun j=>tq (j+aq))-S.val np fun j=>tp (j+ap)))))) else none)) else none)) else (bif n2 then (bif (decide (ap+np≤mp∧np≤1000000∧aq+nq≤mq∧nq≤1000000∧(S.fF np fun j=>tp (j+ap))=true∧(S.fF nq fun j=>tq (j+aq))=true)) then (bif (decide (S.fV (S.val np fun j=>tp (j+ap)) (S.val nq fun j=>tq (j+aq))≥0)) then (bif (decide ((ap+np≤mp∧aq+nq≤mq)∧(np≤1000∧nq≤1000)∧(S.fF np fun j=>tp (j+ap))=true∧(S.fF nq fun j=>tq (j+aq))=true∧(S.val nq fun j=>tq (j+aq))≤S.val np fun j=>tp (j+ap))) then (bif ((↑((S.fX ((S.val np fun j=>tp (j+ap))-S.val nq fun j=>tq (j+aq))).length):Int)==0) then (some (.inr (false,[]))) else (some (.inr (false,S.fX ((S.val np fun j=>tp (j+ap))-S.val nq fun j=>tq (j+aq)))))) else none) else (bif (decide ((aq+nq≤mq∧ap+np≤mp)∧(nq≤1000∧np≤1000)∧(S.fF nq fun j=>tq (j+aq))=true∧(S.fF np fun j=>tp (j+ap))=true∧(S.val np fun j=>tp (j+ap))≤S.val nq fun j=>tq (j+aq))) then (bif ((↑((S.fX ((S.val nq fun j=>tq (j+aq))-S.val np fun j=>tp (j+ap))).length):Int)==0) then (some (.inr (false,[]))) else (some (.inr (true,S.fX ((S.val nq fun j=>tq (j+aq))-S.val np fun j=>tp (j+ap)))))) else none)) else none) else (bif (decide ((ap+np≤mp∧aq+nq≤mq)∧(np≤1000∧nq≤1000)∧(S.fF np fun j=>tp (j+ap))=true∧(S.fF nq fun j=>tq (j+aq))=true)) then (bif ((↑((S.fX ((S.val np fun j=>tp (j+ap))+S.val nq fun j=>tq (j+aq))).length):Int)==0) then (some (.inr (false,[]))) else (some (.inr (false,S.fX ((S.val np fun j=>tp (j+ap))+S.val nq fun j=>tq (j+aq)))))) else none))
noncomputable abbrev u48_e_0:=([[(1,false,Blk.cols mq [Col.int IntKind.i64 tq]),(0,false,Blk.cols mp [Col.int IntKind.i64 tp])]])
noncomputable abbrev u48_e_1:=([[(1,false,Blk.cols mq [Col.int IntKind.i64 tq]),(0,false,Blk.cols mp [Col.int IntKind.i64 tp]),(6,true,Blk.cols (S.fX ((S.val np fun j=>tp (j+ap))+S.val nq fun j=>tq (j+aq))).length [Col.int IntKind.i64 fun j=>S.at' (S.fX ((S.val np fun j=>tp (j+ap))+S.val nq fun j=>tq (j+aq))) j])]])
noncomputable abbrev u48_e_2:=([[(1,false,Blk.cols mq [Col.int IntKind.i64 tq]),(0,false,Blk.cols mp [Col.int IntKind.i64 tp]),(7,true,Blk.cols (S.fX ((S.val np fun j=>tp (j+ap))-S.val nq fun j=>tq (j+aq))).length [Col.int IntKind.i64 fun j=>S.at' (S.fX ((S.val np fun j=>tp (j+ap))-S.val nq fun j=>tq (j+aq))) j])]])
noncomputable abbrev u48_e_3:=([[(1,false,Blk.cols mq [Col.int IntKind.i64 tq]),(0,false,Blk.cols mp [Col.int IntKind.i64 tp]),(7,true,Blk.cols (S.fX ((S.val nq fun j=>tq (j+aq))-S.val np fun j=>tp (j+ap))).length [Col.int IntKind.i64 fun j=>S.at' (S.fX ((S.val nq fun j=>tq (j+aq))-S.val np fun j=>tp (j+ap))) j])]])
noncomputable abbrev u48_e_4:=decide ((ap+np≤mp∧aq+nq≤mq)∧(np≤1000∧nq≤1000)∧(S.fF np fun j=>tp (j+ap))=true∧(S.fF nq fun j=>tq (j+aq))=true∧(S.val nq fun j=>tq (j+aq))≤S.val np fun j=>tp (j+ap))
noncomputable abbrev u48_e_5:=decide ((aq+nq≤mq∧ap+np≤mp)∧(nq≤1000∧np≤1000)∧(S.fF nq fun j=>tq (j+aq))=true∧(S.fF np fun j=>tp (j+ap))=true∧(S.val np fun j=>tp (j+ap))≤S.val nq fun j=>tq (j+aq))
noncomputable abbrev u48_e_6:=(S.fX ((S.val np fun j=>tp (j+ap))+S.val nq fun j=>tq (j+aq))).length
noncomputable abbrev u48_e_7:=(S.fX ((S.val np fun j=>tp (j+ap))-S.val nq fun j=>tq (j+aq))).length
noncomputable abbrev u48_e_8:=(S.fX ((S.val nq fun j=>tq (j+aq))-S.val np fun j=>tp (j+ap))).length
noncomputable abbrev u48_e_9:=decide ((ap+np≤mp∧aq+nq≤mq)∧(np≤1000∧nq≤1000)∧(S.fF np fun j=>tp (j+ap))=true∧(S.fF nq fun j=>tq (j+aq))=true)
def Te48:Prop:=g9 n1 (g9 n2 (g9 n1 (g9 (u48_e_9 ap np mp tp aq nq mq tq) (g9 ((↑(u48_e_6 ap np tp aq nq tq):Int)==0) (fC (.agg [.tf false,.nils]) (u48_e_0 mp tp mq tq) 8) (fC (.agg [.tf true,.own 6 1 (u48_e_6 ap np tp aq nq tq)]) (u48_e_1 ap np mp tp aq nq mq tq) 8)) False) (g9 (u48_e_9 ap np mp tp aq nq mq tq) (g9 ((↑(u48_e_6 ap np tp aq nq tq):Int)==0) (fC (.agg [.tf false,.nils]) (u48_e_0 mp tp mq tq) 8) (fC (.agg [.tf false,.own 6 1 (u48_e_6 ap np tp aq nq tq)]) (u48_e_1 ap np mp tp aq nq mq tq) 8)) False)) (g9 (decide (ap+np≤mp∧np≤1000000∧aq+nq≤mq∧nq≤1000000∧(S.fF np (FS tp ap))=true∧(S.fF nq (FS tq aq))=true)) (g9 (decide (S.fV (S.val np (FS tp ap)) (S.val nq (FS tq aq))≥0)) (g9 n1 (g9 (u48_e_4 ap np mp tp aq nq mq tq) (g9 ((↑(u48_e_7 ap np tp aq nq tq):Int)==0) (fC (.agg [.tf false,.nils]) (u48_e_0 mp tp mq tq) 9) (fC (.agg [.tf true,.own 7 1 (u48_e_7 ap np tp aq nq tq)]) (u48_e_2 ap np mp tp aq nq mq tq) 9)) False) (g9 (u48_e_4 ap np mp tp aq nq mq tq) (g9 ((↑(u48_e_7 ap np tp aq nq tq):Int)==0) (fC (.agg [.tf false,.nils]) (u48_e_0 mp tp mq tq) 9) (fC (.agg [.tf false,.own 7 1 (u48_e_7 ap np tp aq nq tq)]) (u48_e_2 ap np mp tp aq nq mq tq) 9)) False)) (g9 n2 (g9 (u48_e_5 ap np mp tp aq nq mq tq) (g9 ((↑(u48_e_8 ap np tp aq nq tq):Int)==0) (fC (.agg [.tf false,.nils]) (u48_e_0 mp tp mq tq) 9) (fC (.agg [.tf true,.own 7 1 (u48_e_8 ap np tp aq nq tq)]) (u48_e_3 ap np mp tp aq nq mq tq) 9)) False) (g9 (u48_e_5 ap np mp tp aq nq mq tq) (g9 ((↑(u48_e_8 ap np tp aq nq tq):Int)==0) (fC (.agg [.tf false,.nils]) (u48_e_0 mp tp mq tq) 9) (fC (.agg [.tf false,.own 7 1 (u48_e_8 ap np tp aq nq tq)]) (u48_e_3 ap np mp tp aq nq mq tq) 9)) False))) False)) (g9 n2 (g9 (decide (ap+np≤mp∧np≤1000000∧aq+nq≤mq∧nq≤1000000∧(S.fF np (FS tp ap))=true∧(S.fF nq (FS tq aq))=true)) (g9 (decide (S.fV (S.val np (FS tp ap)) (S.val nq (FS tq aq))≥0)) (g9 n1 (g9 (u48_e_4 ap np mp tp aq nq mq tq) (g9 ((↑(u48_e_7 ap np tp aq nq tq):Int)==0) (fC (.agg [.tf false,.nils]) (u48_e_0 mp tp mq tq) 9) (fC (.agg [.tf true,.own 7 1 (u48_e_7 ap np tp aq nq tq)]) (u48_e_2 ap np mp tp aq nq mq tq) 9)) False) (g9 (u48_e_4 ap np mp tp aq nq mq tq) (g9 ((↑(u48_e_7 ap np tp aq nq tq):Int)==0) (fC (.agg [.tf false,.nils]) (u48_e_0 mp tp mq tq) 9) (fC (.agg [.tf false,.own 7 1 (u48_e_7 ap np tp aq nq tq)]) (u48_e_2 ap np mp tp aq nq mq tq) 9)) False)) (g9 n2 (g9 (u48_e_5 ap np mp tp aq nq mq tq) (g9 ((↑(u48_e_8 ap np tp aq nq tq):Int)==0) (fC (.agg [.tf false,.nils]) (u48_e_0 mp tp mq tq) 9) (fC (.agg [.tf true,.own 7 1 (u48_e_8 ap np tp aq nq tq)]) (u48_e_3 ap np mp tp aq nq mq tq) 9)) False) (g9 (u48_e_5 ap np mp tp aq nq mq tq) (g9 ((↑(u48_e_8 ap np tp aq nq tq):Int)==0) (fC (.agg [.tf false,.nils]) (u48_e_0 mp tp mq tq) 9) (fC (.agg [.tf false,.own 7 1 (u48_e_8 ap np tp aq nq tq)]) (u48_e_3 ap np mp tp aq nq mq tq) 9)) False))) False) (g9 n1 (g9 (u48_e_9 ap np mp tp aq nq mq tq) (g9 ((↑(u48_e_6 ap np tp aq nq tq):Int)==0) (fC (.agg [.tf false,.nils]) (u48_e_0 mp tp mq tq) 8) (fC (.agg [.tf true,.own 6 1 (u48_e_6 ap np tp aq nq tq)]) (u48_e_1 ap np mp tp aq nq mq tq) 8)) False) (g9 (u48_e_9 ap np mp tp aq nq mq tq) (g9 ((↑(u48_e_6 ap np tp aq nq tq):Int)==0) (fC (.agg [.tf false,.nils]) (u48_e_0 mp tp mq tq) 8) (fC (.agg [.tf false,.own 6 1 (u48_e_6 ap np tp aq nq tq)]) (u48_e_1 ap np mp tp aq nq mq tq) 8)) False)))
theorem te48:run g9 Tryz.env true (xC g9) true 400 ⟨155,[.cd (zS Tryz.f155).body],yD 0 [.agg [.bool n1,.loose ⟨0,1,ap,0⟩ np],.agg [.bool n2,.loose ⟨1,1,aq,0⟩ nq]],[[],[(0,(false,CB mp tp)),(1,(false,CB mq tq))]],2⟩ (zq 2 [] fA fC)=
 Te48 g9 fC n1 ap np mp tp n2 aq nq mq tq:=by kernel_rfl
noncomputable abbrev J48:Rt48→zQ:=fun r=> [yJ (2+1) ((N48) r)++ [(0,(false,CB mp tp)),(1,(false,CB mq tq))]]
attribute [local irreducible] Int.subNatNat in
theorem a48 {r:Rt48} (h:zX ((q48 n1 ap np mp tp n2 aq nq mq tq)) ((p48 n1 ap np mp tp n2 aq nq mq tq)) r):zn Tryz.prog 155 [.agg [.bool n1,.loose ⟨0,1,ap,0⟩ np],.agg [.bool n2,.loose ⟨1,1,aq,0⟩ nq]] [[(0,(false,CB mp tp)),(1,(false,CB mq tq))]] 2 ((V48) r) ((J48 mp tp mq tq) r) 400∧HB Tryz.prog 155:=by
 refine zf Tryz.envOk Tryz.mixed jz ((I48)) ((V48)) (J48 mp tp mq tq) (fn:=zS Tryz.f155) (ts:= []) (n:=400) rfl (by decide) (by simp) (zV rfl) ?_ ?_ ?_ h
 · intro s; exact s.elim
 · intro fA fC x hS hR h
   refine Holds.eq (te48 cond fA fC n1 ap np mp tp n2 aq nq mq tq) ?_
   unfold Te48
   unfold p48 at h
   refine zA h (fun c0 h=>zA h (fun c1 h=>zJ c0 (zA h (fun c2 h=>zA h (fun c3 h=> ?_) (fun c3 h=> ?_)) (fun c2 h=> ?_))) (fun c1 h=>zA h (fun c2 h=>zA h (fun c3 h=>zJ c0 (zA h (fun c4 h=>zA h (fun c5 h=> ?_) (fun c5 h=> ?_)) (fun c4 h=> ?_))) (fun c3 h=>za c1 (zA h (fun c4 h=>zA h (fun c5 h=> ?_) (fun c5 h=> ?_)) (fun c4 h=> ?_)))) (fun c2 h=> ?_))) (fun c0 h=>zA h (fun c1 h=>zA h (fun c2 h=>zA h (fun c3 h=>za c0 (zA h (fun c4 h=>zA h (fun c5 h=> ?_) (fun c5 h=> ?_)) (fun c4 h=> ?_))) (fun c3 h=>zJ c1 (zA h (fun c4 h=>zA h (fun c5 h=> ?_) (fun c5 h=> ?_)) (fun c4 h=> ?_)))) (fun c2 h=> ?_)) (fun c1 h=>za c0 (zA h (fun c2 h=>zA h (fun c3 h=> ?_) (fun c3 h=> ?_)) (fun c2 h=> ?_))))
   all_goals first
     |exact zF h
     |exact zU hR _ h (fun n=>bif Nat.beq n 3 then 399 else n) rfl rfl rfl (zg ⟨(zR rfl),(zT rfl),trivial⟩) rfl (zY (zD rfl) (zc rfl) (zB (zC rfl) rfl rfl (zB (zC rfl) rfl rfl zE)))
     |exact zU hR _ h (fun n=>bif Nat.beq n 3 then 7 else n) rfl rfl rfl (zg ⟨(zR rfl),(zZ (zD rfl) rfl rfl),trivial⟩) rfl (zL (zD rfl) rfl (Nat.le_of_eq rfl) (zO (fun _ _=>rfl) zP) (zB (zC rfl) rfl rfl (zB (zC rfl) rfl rfl zE)))
     |exact zU hR _ h (fun n=>bif Nat.beq n 3 then 6 else n) rfl rfl rfl (zg ⟨(zR rfl),(zZ (zD rfl) rfl rfl),trivial⟩) rfl (zL (zD rfl) rfl (Nat.le_of_eq rfl) (zO (fun _ _=>rfl) zP) (zB (zC rfl) rfl rfl (zB (zC rfl) rfl rfl zE)))
 · intro fA fC x hS hR s h; exact s.elim
end
noncomputable abbrev w48 {α:Type} (g:Bool→Nat→Nat→Nat→(Nat→Int)→Bool→Nat→Nat→Nat→(Nat→Int)→α) (x:(Bool×(Nat×Nat×Nat×(Nat→Int)×Unit)×Unit)×(Bool×(Nat×Nat×Nat×(Nat→Int)×Unit)×Unit)×Unit):α:=g x.1.1 x.1.2.1.1 x.1.2.1.2.1 x.1.2.1.2.2.1 x.1.2.1.2.2.2.1 x.2.1.1 x.2.1.2.1.1 x.2.1.2.1.2.1 x.2.1.2.1.2.2.1 x.2.1.2.1.2.2.2.1
noncomputable def k48:Con:=⟨155,[.agg [.plain (.bool),.list [.int .i64]],.agg [.plain (.bool),.list [.int .i64]]],w48 (fun n1 ap np mp tp n2 aq nq mq tq=>decide ((ap+np≤mp∧aq+nq≤mq)∧(np≤1000∧nq≤1000)∧S.fF np (FS tp ap)=true∧S.fF nq (FS tq aq)=true)),w48 (fun n1 ap np mp tp n2 aq nq mq tq=>(V48) (S.fP (S.sv n1 (S.val np (FS tp ap))+S.sv n2 (S.val nq (FS tq aq))))),w48 (fun n1 ap np mp tp n2 aq nq mq tq=>(N48) (S.fP (S.sv n1 (S.val np (FS tp ap))+S.sv n2 (S.val nq (FS tq aq))))),fun _ _=> .dead⟩
theorem s48 (n1:Bool) (ap np mp:Nat) (tp:Nat→Int) (n2:Bool) (aq nq mq:Nat) (tq:Nat→Int) (hp:(ap+np≤mp∧aq+nq≤mq)∧(np≤1000∧nq≤1000)∧S.fF np (fun j=>tp (j+ap))=true∧S.fF nq (fun j=>tq (j+aq))=true):zX ((q48 n1 ap np mp tp n2 aq nq mq tq)) ((p48 n1 ap np mp tp n2 aq nq mq tq)) ((S.fP (S.sv n1 (S.val np (fun j=>tp (j+ap)))+S.sv n2 (S.val nq (fun j=>tq (j+aq))))).1,(S.fP (S.sv n1 (S.val np (fun j=>tp (j+ap)))+S.sv n2 (S.val nq (fun j=>tq (j+aq))))).2):=by
 have hp':=hp
 obtain ⟨⟨hp1,hp2⟩,⟨hp3,hp4⟩,g1,g2⟩:=hp
 have v1:=yU (zj g1)
 have v2:=yU (zj g2)
 have lz:= @yy
 have hC:S.fV (S.val np (fun j=>tp (j+ap))) (S.val nq (fun j=>tq (j+aq)))≥0↔(S.val nq (fun j=>tq (j+aq)))≤(S.val np (fun j=>tp (j+ap))):=by
  unfold S.fV
  (repeat' split)<;>omega
 have c1:(ap+np≤mp∧np≤1000000∧aq+nq≤mq∧nq≤1000000∧S.fF np (fun j=>tp (j+ap))=true∧S.fF nq (fun j=>tq (j+aq))=true):=⟨hp1,by omega,hp2,by omega,g1,g2⟩
 have cd: ∀ v:Int,0≤v→(S.fG (S.fX v).length fun j=>S.at' (S.fX v) j)=true:=fun v _=>zj yH
 have cl: ∀ v:Int,v≤(S.val np (fun j=>tp (j+ap)))+(S.val nq (fun j=>tq (j+aq)))→(S.fX v).length≤1000000:=fun v hv=>by
  have h:=z7 (v:=v) (n:=1001) (by have q1:=yF (zj g1) (show np≤1000 by omega); have q2:=yF (zj g2) (show nq≤1000 by omega); have e:S.pw 1001=1000000*S.pw 1000:=rfl; omega)
  omega
 unfold p48
 have e0: ∀ v:Int,0≤v→((((S.fX v).length:Nat):Int)==0)=decide (v=0):=fun v hv=>by
  rw [Bool.eq_iff_iff,beq_iff_eq,decide_eq_true_eq]
  have:=yy (v:=v)
  omega
 have same: ∀ v:Int,∀ neg:Bool,0≤v→zX (q48 n1 ap np mp tp n2 aq nq mq tq) (bif (((S.fX v).length:Nat):Int)==0 then some (.inr (false,[])) else some (.inr (neg,S.fX v))) ((S.fP (S.sv neg v)).1,(S.fP (S.sv neg v)).2):=fun v neg hv=>by
  rw [e0 v hv,qb hv]
  rcases Int.lt_or_eq_of_le hv with h|h
  · rw [decide_eq_false (by omega),decide_eq_true h,Bool.and_true]
    exact zG.mpr rfl
  · rw [← h,decide_eq_true rfl,decide_eq_false (by omega),Bool.and_false,z8]
    exact zG.mpr rfl
 cases n1
 · cases n2
   · rw [t6]
     have s:=same ((S.val np (fun j=>tp (j+ap)))+(S.val nq (fun j=>tq (j+aq)))) false (by omega)
     simp only [cond_true,cond_false,decide_eq_true hp',Bool.false_eq_true]
     exact s
   · have e:S.sv false (S.val np (fun j=>tp (j+ap)))+S.sv true (S.val nq (fun j=>tq (j+aq)))=S.sv false ((S.val np (fun j=>tp (j+ap)))-(S.val nq (fun j=>tq (j+aq)))):=wR
     have e':S.sv false (S.val np (fun j=>tp (j+ap)))+S.sv true (S.val nq (fun j=>tq (j+aq)))=S.sv true ((S.val nq (fun j=>tq (j+aq)))-(S.val np (fun j=>tp (j+ap)))):=by rw [Int.add_comm]; exact wR
     simp only [cond_true,cond_false,decide_eq_true c1]
     by_cases hc:(S.val nq (fun j=>tq (j+aq)))≤(S.val np (fun j=>tp (j+ap)))
     · rw [decide_eq_true (hC.mpr hc),e]
       simp only [cond_true,decide_eq_true (⟨⟨hp1,hp2⟩,⟨hp3,hp4⟩,g1,g2,hc⟩:(ap+np≤mp∧aq+nq≤mq)∧(np≤1000∧nq≤1000)∧S.fF np (fun j=>tp (j+ap))=true∧S.fF nq (fun j=>tq (j+aq))=true∧(S.val nq (fun j=>tq (j+aq)))≤(S.val np (fun j=>tp (j+ap))))]
       exact same _ false (by omega)
     · rw [decide_eq_false (fun h=>hc (hC.mp h)),e']
       simp only [cond_false,cond_true,decide_eq_true (⟨⟨hp2,hp1⟩,⟨hp4,hp3⟩,g2,g1,by omega⟩:(aq+nq≤mq∧ap+np≤mp)∧(nq≤1000∧np≤1000)∧S.fF nq (fun j=>tq (j+aq))=true∧S.fF np (fun j=>tp (j+ap))=true∧(S.val np (fun j=>tp (j+ap)))≤(S.val nq (fun j=>tq (j+aq))))]
       exact same _ true (by omega)
 · cases n2
   · have e:S.sv true (S.val np (fun j=>tp (j+ap)))+S.sv false (S.val nq (fun j=>tq (j+aq)))=S.sv true ((S.val np (fun j=>tp (j+ap)))-(S.val nq (fun j=>tq (j+aq)))):=wR
     have e':S.sv true (S.val np (fun j=>tp (j+ap)))+S.sv false (S.val nq (fun j=>tq (j+aq)))=S.sv false ((S.val nq (fun j=>tq (j+aq)))-(S.val np (fun j=>tp (j+ap)))):=by rw [Int.add_comm]; exact wR
     simp only [cond_true,cond_false,decide_eq_true c1]
     by_cases hc:(S.val nq (fun j=>tq (j+aq)))≤(S.val np (fun j=>tp (j+ap)))
     · rw [decide_eq_true (hC.mpr hc),e]
       simp only [cond_true,decide_eq_true (⟨⟨hp1,hp2⟩,⟨hp3,hp4⟩,g1,g2,hc⟩:(ap+np≤mp∧aq+nq≤mq)∧(np≤1000∧nq≤1000)∧S.fF np (fun j=>tp (j+ap))=true∧S.fF nq (fun j=>tq (j+aq))=true∧(S.val nq (fun j=>tq (j+aq)))≤(S.val np (fun j=>tp (j+ap))))]
       exact same _ true (by omega)
     · rw [decide_eq_false (fun h=>hc (hC.mp h)),e']
       simp only [cond_false,cond_true,decide_eq_true (⟨⟨hp2,hp1⟩,⟨hp4,hp3⟩,g2,g1,by omega⟩:(aq+nq≤mq∧ap+np≤mp)∧(nq≤1000∧np≤1000)∧S.fF nq (fun j=>tq (j+aq))=true∧S.fF np (fun j=>tp (j+ap))=true∧(S.val np (fun j=>tp (j+ap)))≤(S.val nq (fun j=>tq (j+aq))))]
       exact same _ false (by omega)
   · rw [t6]
     have s:=same ((S.val np (fun j=>tp (j+ap)))+(S.val nq (fun j=>tq (j+aq)))) true (by omega)
     simp only [cond_true,cond_false,decide_eq_true hp',Bool.false_eq_true]
     exact s
theorem k48_ok:k48.ok Tryz.prog:=by
 intro x hx
 obtain ⟨⟨n1,⟨ap,np,mp,tp,_⟩,_⟩,⟨n2,⟨aq,nq,mq,tq,_⟩,_⟩,_⟩:=x
 obtain ⟨h1,h2⟩:=a48 n1 ap np mp tp n2 aq nq mq tq (s48 n1 ap np mp tp n2 aq nq mq tq (zo hx rfl))
 exact ⟨⟨400,(by decide:2+1+1≤400),h1⟩,h2⟩
section
variable (g9:TT) (fA:KS) (fC:KR) (n1:Bool) (ap np mp:Nat) (tp:NI) (n2:Bool) (aq nq mq:Nat) (tq:NI)
abbrev St50:=Empty
abbrev Rt50:=Bool×List Int
noncomputable def V50 (r:Rt50):PV:= .agg [.bool r.1,.own 3 1 r.2.length]
noncomputable def N50 (r:Rt50):List Blk:= [CI r.2]
noncomputable def I50:St50→Hd:=fun s=>s.elim
noncomputable def q50 (n1:Bool) (ap np mp:Nat) (tp:NI) (n2:Bool) (aq nq mq:Nat) (tq:NI):St50→Option (St50⊕Rt50):=fun s=>s.elim
noncomputable def p50 (n1:Bool) (ap np mp:Nat) (tp:NI) (n2:Bool) (aq nq mq:Nat) (tq:NI):Option (St50⊕Rt50):=bif n1 then (bif n2 then (bif (decide ((ap+np≤mp∧aq+nq≤mq)∧(np≤1000∧nq≤1000)∧(S.fF np fun j=>tp (j+ap))=true∧(S.fF nq fun j=>tq (j+aq))=true)) then (bif (decide (0+Prod.fst (S.fg ((S.val np fun j=>tp (j+ap))+S.val nq fun j=>tq (j+aq)))≤(Prod.snd (S.fg ((S.val np fun j=>tp (j+ap))+S.val nq fun j=>tq (j+aq)))).length∧Prod.fst (S.fg ((S.val np fun j=>tp (j+ap))+S.val nq fun j=>tq (j+aq)))≤1000000∧(S.fG (Prod.fst (S.fg ((S.val np fun j=>tp (j+ap))+S.val nq fun j=>tq (j+aq)))) fun j=>S.at' (Prod.snd (S.fg ((S.val np fun j=>tp (j+ap))+S.val nq fun j=>tq (j+aq)))) j)=true)) then (some (.inr (S.fW true (S.val (Prod.fst (S.fg ((S.val np fun j=>tp (j+ap))+S.val nq fun j=>tq (j+aq)))) fun j=>S.at' (Prod.snd (S.fg ((S.val np fun j=>tp (j+ap))+S.val nq fun j=>tq (j+aq)))) j),S.fX (S.val (Prod.fst (S.fg ((S.val np fun j=>tp (j+ap))+S.val nq fun j=>tq (j+aq)))) fun j=>S.at' (Prod.snd (S.fg ((S.val np fun j=>tp (j+ap))+S.val nq fun j=>tq (j+aq)))) j)))) else none) else none) else (bif (decide (ap+np≤mp∧np≤1000000∧aq+nq≤mq∧nq≤1000000∧(S.fF np fun j=>tp (j+ap))=true∧(S.fF nq fun j=>tq (j+aq))=true)) then (bif (decide (S.fV (S.val np fun j=>tp (j+ap)) (S.val nq fun j=>tq (j+aq))≥0)) then (bif (decide ((ap+np≤mp∧aq+nq≤mq)∧(np≤1000∧nq≤1000)∧(S.fF np fun j=>tp (j+ap))=true∧(S.fF nq fun j=>tq (j+aq))=true∧(S.val nq fun j=>tq (j+aq))≤S.val np fun j=>tp (j+ap))) then (bif (decide (0+(S.fX ((S.val np fun j=>tp (j+ap))-S.val nq fun j=>tq (j+aq))).length≤(S.fX ((S.val np fun j=>tp (j+ap))-S.val nq fun j=>tq (j+aq))).length∧(S.fX ((S.val np fun j=>tp (j+ap))-S.val nq fun j=>tq (j+aq))).length≤1000000∧(S.fG (S.fX ((S.val np fun j=>tp (j+ap))-S.val nq fun j=>tq (j+aq))).length fun j=>S.at' (S.fX ((S.val np fun j=>tp (j+ap))-S.val nq fun j=>tq (j+aq))) j)=true)) then (some (.inr (S.fW true (S.val (S.fX ((S.val np fun j=>tp (j+ap))-S.val nq fun j=>tq (j+aq))).length fun j=>S.at' (S.fX ((S.val np fun j=>tp (j+ap))-S.val nq fun j=>tq (j+aq))) j),S.fX (S.val (S.fX ((S.val np fun j=>tp (j+ap))-S.val nq fun j=>tq (j+aq))).length fun j=>S.at' (S.fX ((S.val np fun j=>tp (j+ap))-S.val nq fun j=>tq (j+aq))) j)))) else none) else none) else (bif (decide ((aq+nq≤mq∧ap+np≤mp)∧(nq≤1000∧np≤1000)∧(S.fF nq fun j=>tq (j+aq))=true∧(S.fF np fun j=>tp (j+ap))=true∧(S.val np fun j=>tp (j+ap))≤S.val nq fun j=>tq (j+aq))) then (bif (decide (0+(S.fX ((S.val nq fun j=>tq (j+aq))-S.val np fun j=>tp (j+ap))).length≤(S.fX ((S.val nq fun j=>tq (j+aq))-S.val np fun j=>tp (j+ap))).length∧(S.fX ((S.val nq fun j=>tq (j+aq))-S.val np fun j=>tp (j+ap))).length≤1000000∧(S.fG (S.fX ((S.val nq fun j=>tq (j+aq))-S.val np fun j=>tp (j+ap))).length fun j=>S.at' (S.fX ((S.val nq fun j=>tq (j+aq))-S.val np fun j=>tp (j+ap))) j)=true)) then (some (.inr (S.fW false (S.val (S.fX ((S.val nq fun j=>tq (j+aq))-S.val np fun j=>tp (j+ap))).length fun j=>S.at' (S.fX ((S.val nq fun j=>tq (j+aq))-S.val np fun j=>tp (j+ap))) j),S.fX (S.val (S.fX ((S.val nq fun j=>tq (j+aq))-S.val np fun j=>tp (j+ap))).length fun j=>S.at' (S.fX ((S.val nq fun j=>tq (j+aq))-S.val np fun j=>tp (j+ap))) j)))) else none) else none)) else none)) else (bif n2 then (bif (decide (ap+np≤mp∧np≤1000000∧aq+nq≤mq∧nq≤1000000∧(S.fF np fun j=>tp (j+ap))=true∧(S.fF nq fun j=>tq (j+aq))=true)) then (bif (decide (S.fV (S.val np fun j=>tp (j+ap)) (S.val nq fun j=>tq (j+aq))≥0)) then (bif (decide ((ap+np≤mp∧aq+nq≤mq)∧(np≤1000∧nq≤1000)∧(S.fF np fun j=>tp (j+ap))=true∧(S.fF nq fun j=>tq (j+aq))=true∧(S.val nq fun j=>tq (j+aq))≤S.val np fun j=>tp (j+ap))) then (bif (decide (0+(S.fX ((S.val np fun j=>tp (j+ap))-S.val nq fun j=>tq (j+aq))).length≤(S.fX ((S.val np fun j=>tp (j+ap))-S.val nq fun j=>tq (j+aq))).length∧(S.fX ((S.val np fun j=>tp (j+ap))-S.val nq fun j=>tq (j+aq))).length≤1000000∧(S.fG (S.fX ((S.val np fun j=>tp (j+ap))-S.val nq fun j=>tq (j+aq))).length fun j=>S.at' (S.fX ((S.val np fun j=>tp (j+ap))-S.val nq fun j=>tq (j+aq))) j)=true)) then (some (.inr (S.fW false (S.val (S.fX ((S.val np fun j=>tp (j+ap))-S.val nq fun j=>tq (j+aq))).length fun j=>S.at' (S.fX ((S.val np fun j=>tp (j+ap))-S.val nq fun j=>tq (j+aq))) j),S.fX (S.val (S.fX ((S.val np fun j=>tp (j+ap))-S.val nq fun j=>tq (j+aq))).length fun j=>S.at' (S.fX ((S.val np fun j=>tp (j+ap))-S.val nq fun j=>tq (j+aq))) j)))) else none) else none) else (bif (decide ((aq+nq≤mq∧ap+np≤mp)∧(nq≤1000∧np≤1000)∧(S.fF nq fun j=>tq (j+aq))=true∧(S.fF np fun j=>tp (j+ap))=true∧(S.val np fun j=>tp (j+ap))≤S.val nq fun j=>tq (j+aq))) then (bif (decide (0+(S.fX ((S.val nq fun j=>tq (j+aq))-S.val np fun j=>tp (j+ap))).length≤(S.fX ((S.val nq fun j=>tq (j+aq))-S.val np fun j=>tp (j+ap))).length∧(S.fX ((S.val nq fun j=>tq (j+aq))-S.val np fun j=>tp (j+ap))).length≤1000000∧(S.fG (S.fX ((S.val nq fun j=>tq (j+aq))-S.val np fun j=>tp (j+ap))).length fun j=>S.at' (S.fX ((S.val nq fun j=>tq (j+aq))-S.val np fun j=>tp (j+ap))) j)=true)) then (some (.inr (S.fW true (S.val (S.fX ((S.val nq fun j=>tq (j+aq))-S.val np fun j=>tp (j+ap))).length fun j=>S.at' (S.fX ((S.val nq fun j=>tq (j+aq))-S.val np fun j=>tp (j+ap))) j),S.fX (S.val (S.fX ((S.val nq fun j=>tq (j+aq))-S.val np fun j=>tp (j+ap))).length fun j=>S.at' (S.fX ((S.val nq fun j=>tq (j+aq))-S.val np fun j=>tp (j+ap))) j)))) else none) else none)) else none) else (bif (decide ((ap+np≤mp∧aq+nq≤mq)∧(np≤1000∧nq≤1000)∧(S.fF np fun j=>tp (j+ap))=true∧(S.fF nq fun j=>tq (j+aq))=true)) then (bif (decide (0+Prod.fst (S.fg ((S.val np fun j=>tp (j+ap))+S.val nq fun j=>tq (j+aq)))≤(Prod.snd (S.fg ((S.val np fun j=>tp (j+ap))+S.val nq fun j=>tq (j+aq)))).length∧Prod.fst (S.fg ((S.val np fun j=>tp (j+ap))+S.val nq fun j=>tq (j+aq)))≤1000000∧(S.fG (Prod.fst (S.fg ((S.val np fun j=>tp (j+ap))+S.val nq fun j=>tq (j+aq)))) fun j=>S.at' (Prod.snd (S.fg ((S.val np fun j=>tp (j+ap))+S.val nq fun j=>tq (j+aq)))) j)=true)) then (some (.inr (S.fW false (S.val (Prod.fst (S.fg ((S.val np fun j=>tp (j+ap))+S.val nq fun j=>tq (j+aq)))) fun j=>S.at' (Prod.snd (S.fg ((S.val np fun j=>tp (j+ap))+S.val nq fun j=>tq (j+aq)))) j),S.fX (S.val (Prod.fst (S.fg ((S.val np fun j=>tp (j+ap))+S.val nq fun j=>tq (j+aq)))) fun j=>S.at' (Prod.snd (S.fg ((S.val np fun j=>tp (j+ap))+S.val nq fun j=>tq (j+aq)))) j)))) else none) else none))
noncomputable abbrev u50_e_0:=S.val (S.fX ((S.val np fun j=>tp (j+ap))-S.val nq fun j=>tq (j+aq))).length fun j=>S.at' (S.fX ((S.val np fun j=>tp (j+ap))-S.val nq fun j=>tq (j+aq))) j
noncomputable abbrev u50_e_1:=S.val (S.fX ((S.val nq fun j=>tq (j+aq))-S.val np fun j=>tp (j+ap))).length fun j=>S.at' (S.fX ((S.val nq fun j=>tq (j+aq))-S.val np fun j=>tp (j+ap))) j
noncomputable abbrev u50_e_2:=S.fg ((S.val np fun j=>tp (j+ap))+S.val nq fun j=>tq (j+aq))
noncomputable abbrev u50_e_3:=decide (0+(S.fX ((S.val np fun j=>tp (j+ap))-S.val nq fun j=>tq (j+aq))).length≤(S.fX ((S.val np fun j=>tp (j+ap))-S.val nq fun j=>tq (j+aq))).length∧(S.fX ((S.val np fun j=>tp (j+ap))-S.val nq fun j=>tq (j+aq))).length≤1000000∧(S.fG (S.fX ((S.val np fun j=>tp (j+ap))-S.val nq fun j=>tq (j+aq))).length fun j=>S.at' (S.fX ((S.val np fun j=>tp (j+ap))-S.val nq fun j=>tq (j+aq))) j)=true)
noncomputable abbrev u50_e_4:=decide (0+(S.fX ((S.val nq fun j=>tq (j+aq))-S.val np fun j=>tp (j+ap))).length≤(S.fX ((S.val nq fun j=>tq (j+aq))-S.val np fun j=>tp (j+ap))).length∧(S.fX ((S.val nq fun j=>tq (j+aq))-S.val np fun j=>tp (j+ap))).length≤1000000∧(S.fG (S.fX ((S.val nq fun j=>tq (j+aq))-S.val np fun j=>tp (j+ap))).length fun j=>S.at' (S.fX ((S.val nq fun j=>tq (j+aq))-S.val np fun j=>tp (j+ap))) j)=true)
noncomputable abbrev u50_e_5:=([[(1,false,Blk.cols mq [Col.int IntKind.i64 tq]),(0,false,Blk.cols mp [Col.int IntKind.i64 tp]),(8,true,Blk.cols (S.fX (S.val (u50_e_2 ap np tp aq nq tq).1 fun j=>S.at' (u50_e_2 ap np tp aq nq tq).2 j)).length [Col.int IntKind.i64 fun j=>S.at' (S.fX (S.val (u50_e_2 ap np tp aq nq tq).1 fun j=>S.at' (u50_e_2 ap np tp aq nq tq).2 j)) j])]])
noncomputable abbrev u50_e_6:=([[(1,false,Blk.cols mq [Col.int IntKind.i64 tq]),(0,false,Blk.cols mp [Col.int IntKind.i64 tp]),(9,true,Blk.cols (S.fX (u50_e_0 ap np tp aq nq tq)).length [Col.int IntKind.i64 fun j=>S.at' (S.fX (u50_e_0 ap np tp aq nq tq)) j])]])
noncomputable abbrev u50_e_7:=([[(1,false,Blk.cols mq [Col.int IntKind.i64 tq]),(0,false,Blk.cols mp [Col.int IntKind.i64 tp]),(9,true,Blk.cols (S.fX (u50_e_1 ap np tp aq nq tq)).length [Col.int IntKind.i64 fun j=>S.at' (S.fX (u50_e_1 ap np tp aq nq tq)) j])]])
noncomputable abbrev u50_e_8:=decide (0+(u50_e_2 ap np tp aq nq tq).1≤(u50_e_2 ap np tp aq nq tq).2.length∧(u50_e_2 ap np tp aq nq tq).1≤1000000∧(S.fG (u50_e_2 ap np tp aq nq tq).1 fun j=>S.at' (u50_e_2 ap np tp aq nq tq).2 j)=true)
noncomputable abbrev u50_e_9:=decide ((ap+np≤mp∧aq+nq≤mq)∧(np≤1000∧nq≤1000)∧(S.fF np fun j=>tp (j+ap))=true∧(S.fF nq fun j=>tq (j+aq))=true∧(S.val nq fun j=>tq (j+aq))≤S.val np fun j=>tp (j+ap))
noncomputable abbrev u50_e_10:=decide ((aq+nq≤mq∧ap+np≤mp)∧(nq≤1000∧np≤1000)∧(S.fF nq fun j=>tq (j+aq))=true∧(S.fF np fun j=>tp (j+ap))=true∧(S.val np fun j=>tp (j+ap))≤S.val nq fun j=>tq (j+aq))
noncomputable abbrev u50_e_11:=S.val (u50_e_2 ap np tp aq nq tq).1 fun j=>S.at' (u50_e_2 ap np tp aq nq tq).2 j
noncomputable abbrev u50_e_12:=decide ((ap+np≤mp∧aq+nq≤mq)∧(np≤1000∧nq≤1000)∧(S.fF np fun j=>tp (j+ap))=true∧(S.fF nq fun j=>tq (j+aq))=true)
def Te50:Prop:=g9 n1 (g9 n2 (g9 n1 (g9 (u50_e_12 ap np mp tp aq nq mq tq) (g9 (u50_e_8 ap np tp aq nq tq) (fC (.agg [.bool (S.fW true (u50_e_11 ap np tp aq nq tq)),.own 8 1 (S.fX (u50_e_11 ap np tp aq nq tq)).length]) (u50_e_5 ap np mp tp aq nq mq tq) 9) False) False) (g9 (u50_e_12 ap np mp tp aq nq mq tq) (g9 (u50_e_8 ap np tp aq nq tq) (fC (.agg [.bool (S.fW false (u50_e_11 ap np tp aq nq tq)),.own 8 1 (S.fX (u50_e_11 ap np tp aq nq tq)).length]) (u50_e_5 ap np mp tp aq nq mq tq) 9) False) False)) (g9 (decide (ap+np≤mp∧np≤1000000∧aq+nq≤mq∧nq≤1000000∧(S.fF np (FS tp ap))=true∧(S.fF nq (FS tq aq))=true)) (g9 (decide (S.fV (S.val np (FS tp ap)) (S.val nq (FS tq aq))≥0)) (g9 n1 (g9 (u50_e_9 ap np mp tp aq nq mq tq) (g9 (u50_e_3 ap np tp aq nq tq) (fC (.agg [.bool (S.fW true (u50_e_0 ap np tp aq nq tq)),.own 9 1 (S.fX (u50_e_0 ap np tp aq nq tq)).length]) (u50_e_6 ap np mp tp aq nq mq tq) 10) False) False) (g9 (u50_e_9 ap np mp tp aq nq mq tq) (g9 (u50_e_3 ap np tp aq nq tq) (fC (.agg [.bool (S.fW false (u50_e_0 ap np tp aq nq tq)),.own 9 1 (S.fX (u50_e_0 ap np tp aq nq tq)).length]) (u50_e_6 ap np mp tp aq nq mq tq) 10) False) False)) (g9 n2 (g9 (u50_e_10 ap np mp tp aq nq mq tq) (g9 (u50_e_4 ap np tp aq nq tq) (fC (.agg [.bool (S.fW true (u50_e_1 ap np tp aq nq tq)),.own 9 1 (S.fX (u50_e_1 ap np tp aq nq tq)).length]) (u50_e_7 ap np mp tp aq nq mq tq) 10) False) False) (g9 (u50_e_10 ap np mp tp aq nq mq tq) (g9 (u50_e_4 ap np tp aq nq tq) (fC (.agg [.bool (S.fW false (u50_e_1 ap np tp aq nq tq)),.own 9 1 (S.fX (u50_e_1 ap np tp aq nq tq)).length]) (u50_e_7 ap np mp tp aq nq mq tq) 10) False) False))) False)) (g9 n2 (g9 (decide (ap+np≤mp∧np≤1000000∧aq+nq≤mq∧nq≤1000000∧(S.fF np (FS tp ap))=true∧(S.fF nq (FS tq aq))=true)) (g9 (decide (S.fV (S.val np (FS tp ap)) (S.val nq (FS tq aq))≥0)) (g9 n1 (g9 (u50_e_9 ap np mp tp aq nq mq tq) (g9 (u50_e_3 ap np tp aq nq tq) (fC (.agg [.bool (S.fW true (u50_e_0 ap np tp aq nq tq)),.own 9 1 (S.fX (u50_e_0 ap np tp aq nq tq)).length]) (u50_e_6 ap np mp tp aq nq mq tq) 10) False) False) (g9 (u50_e_9 ap np mp tp aq nq mq tq) (g9 (u50_e_3 ap np tp aq nq tq) (fC (.agg [.bool (S.fW false (u50_e_0 ap np tp aq nq tq)),.own 9 1 (S.fX (u50_e_0 ap np tp aq nq tq)).length]) (u50_e_6 ap np mp tp aq nq mq tq) 10) False) False)) (g9 n2 (g9 (u50_e_10 ap np mp tp aq nq mq tq) (g9 (u50_e_4 ap np tp aq nq tq) (fC (.agg [.bool (S.fW true (u50_e_1 ap np tp aq nq tq)),.own 9 1 (S.fX (u50_e_1 ap np tp aq nq tq)).length]) (u50_e_7 ap np mp tp aq nq mq tq) 10) False) False) (g9 (u50_e_10 ap np mp tp aq nq mq tq) (g9 (u50_e_4 ap np tp aq nq tq) (fC (.agg [.bool (S.fW false (u50_e_1 ap np tp aq nq tq)),.own 9 1 (S.fX (u50_e_1 ap np tp aq nq tq)).length]) (u50_e_7 ap np mp tp aq nq mq tq) 10) False) False))) False) (g9 n1 (g9 (u50_e_12 ap np mp tp aq nq mq tq) (g9 (u50_e_8 ap np tp aq nq tq) (fC (.agg [.bool (S.fW true (u50_e_11 ap np tp aq nq tq)),.own 8 1 (S.fX (u50_e_11 ap np tp aq nq tq)).length]) (u50_e_5 ap np mp tp aq nq mq tq) 9) False) False) (g9 (u50_e_12 ap np mp tp aq nq mq tq) (g9 (u50_e_8 ap np tp aq nq tq) (fC (.agg [.bool (S.fW false (u50_e_11 ap np tp aq nq tq)),.own 8 1 (S.fX (u50_e_11 ap np tp aq nq tq)).length]) (u50_e_5 ap np mp tp aq nq mq tq) 9) False) False)))
theorem te50:run g9 Tryz.env true (xC g9) true 400 ⟨89,[.cd (zS Tryz.f89).body],yD 0 [.agg [.bool n1,.loose ⟨0,1,ap,0⟩ np],.agg [.bool n2,.loose ⟨1,1,aq,0⟩ nq]],[[],[(0,(false,CB mp tp)),(1,(false,CB mq tq))]],2⟩ (zq 2 [] fA fC)=
 Te50 g9 fC n1 ap np mp tp n2 aq nq mq tq:=by kernel_rfl
noncomputable abbrev J50:Rt50→zQ:=fun r=> [yJ (2+1) ((N50) r)++ [(0,(false,CB mp tp)),(1,(false,CB mq tq))]]
attribute [local irreducible] Int.subNatNat in
theorem a50 {r:Rt50} (h:zX ((q50 n1 ap np mp tp n2 aq nq mq tq)) ((p50 n1 ap np mp tp n2 aq nq mq tq)) r):zn Tryz.prog 89 [.agg [.bool n1,.loose ⟨0,1,ap,0⟩ np],.agg [.bool n2,.loose ⟨1,1,aq,0⟩ nq]] [[(0,(false,CB mp tp)),(1,(false,CB mq tq))]] 2 ((V50) r) ((J50 mp tp mq tq) r) 400∧HB Tryz.prog 89:=by
 refine zf Tryz.envOk Tryz.mixed jz ((I50)) ((V50)) (J50 mp tp mq tq) (fn:=zS Tryz.f89) (ts:= []) (n:=400) rfl (by decide) (by simp) (zV rfl) ?_ ?_ ?_ h
 · intro s; exact s.elim
 · intro fA fC x hS hR h
   refine Holds.eq (te50 cond fA fC n1 ap np mp tp n2 aq nq mq tq) ?_
   unfold Te50
   unfold p50 at h
   refine zA h (fun c0 h=>zA h (fun c1 h=>zJ c0 (zA h (fun c2 h=>zA h (fun c3 h=> ?_) (fun c3 h=> ?_)) (fun c2 h=> ?_))) (fun c1 h=>zA h (fun c2 h=>zA h (fun c3 h=>zJ c0 (zA h (fun c4 h=>zA h (fun c5 h=> ?_) (fun c5 h=> ?_)) (fun c4 h=> ?_))) (fun c3 h=>za c1 (zA h (fun c4 h=>zA h (fun c5 h=> ?_) (fun c5 h=> ?_)) (fun c4 h=> ?_)))) (fun c2 h=> ?_))) (fun c0 h=>zA h (fun c1 h=>zA h (fun c2 h=>zA h (fun c3 h=>za c0 (zA h (fun c4 h=>zA h (fun c5 h=> ?_) (fun c5 h=> ?_)) (fun c4 h=> ?_))) (fun c3 h=>zJ c1 (zA h (fun c4 h=>zA h (fun c5 h=> ?_) (fun c5 h=> ?_)) (fun c4 h=> ?_)))) (fun c2 h=> ?_)) (fun c1 h=>za c0 (zA h (fun c2 h=>zA h (fun c3 h=> ?_) (fun c3 h=> ?_)) (fun c2 h=> ?_))))
   all_goals first
     |exact zF h
     |exact zU hR _ h (fun n=>bif Nat.beq n 3 then 9 else n) rfl rfl rfl (zg ⟨(zu rfl),(zZ (zD rfl) rfl rfl),trivial⟩) rfl (zL (zD rfl) rfl (Nat.le_of_eq rfl) (zO (fun _ _=>rfl) zP) (zB (zC rfl) rfl rfl (zB (zC rfl) rfl rfl zE)))
     |exact zU hR _ h (fun n=>bif Nat.beq n 3 then 8 else n) rfl rfl rfl (zg ⟨(zu rfl),(zZ (zD rfl) rfl rfl),trivial⟩) rfl (zL (zD rfl) rfl (Nat.le_of_eq rfl) (zO (fun _ _=>rfl) zP) (zB (zC rfl) rfl rfl (zB (zC rfl) rfl rfl zE)))
 · intro fA fC x hS hR s h; exact s.elim
end
end Go.Ev
