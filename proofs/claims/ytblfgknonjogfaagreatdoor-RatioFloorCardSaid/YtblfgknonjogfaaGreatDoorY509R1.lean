/-
  The reckoner, 1 of 3: what this statement needs of it.
-/
import GoSem.Claims
import Derived.Calls
import Derived.Orders
import Derived.Below
import Derived.KernelRfl
import Derived.Laws.Sem
import Derived.Laws.World
import Derived.RowKit3
import Derived.Laws.IdiomCopy
import Derived.Laws.Cells
import Derived.Laws.Entries
import Derived.Laws.Build
import Derived.WalkKit
import Derived.ChangeKeysEq
import Derived.Laws.StructEq
import Derived.Laws.Append
import Derived.Laws.MakeOwn
import Derived.Laws.BytesString
import Derived.Test.YtblfgknonjogfaaGreatDoorRows
import Derived.ProofKit
import Derived.WideKeyArgs
import Derived.ChangeSame
import Derived.ChangeMaps5
import Derived.OpenShut
import Derived.Deep.Slices
import Derived.Stop.Joined
import Derived.Test.YtblfgknonjogfaaGreatDoorChecked
set_option linter.unusedVariables false
set_option linter.unusedSimpArgs false
set_option linter.unusedSectionVars false
namespace Go.Ev
structure PA where
 nm:Nat
 st:Nat
 ix:Nat
 off:Nat
inductive PV where
 |unk
 |bool (b:Bool)
 |tf (b:Bool)
 |int (k:IntKind) (n:Int)
 |str (s:ByteArray)
 |ptr (a:PA)
 |nilp
 |nils
 |emp
 |loose (a:PA) (n:Nat)
 |sl (a:PA) (n:Nat)
 |own (nm st n:Nat)
 |agg (cs:List PV)
 |tup (vs:List PV)
 |fn (f:Fn) (first caps:List PV)
 |nilf
 |ifc (t:TypeId) (v:PV)
 |nili
 |zer (b:Bool)
inductive Col where
 |int (k:IntKind) (f:Nat→Int)
 |bool (f:Nat→Bool)
 |str (f:Nat→ByteArray)
 |val (f:Nat→PV)
def zy:Col→Nat→PV
  | .int k f,j=> .int k (f j)
  | .bool f,j=> .bool (f j)
  | .str f,j=> .str (f j)
  | .val f,j=>f j
inductive Blk where
 |dead
 |cols (n:Nat) (cs:List Col)
 |cells (cs:List PV)
 |rows (st n:Nat) (F:Nat→Nat→PV)
 |ints (k:IntKind) (n:Nat) (f:Nat→Int)
abbrev yC:=List (Nat×PV)
abbrev Lvl:=List (Nat×Bool×Blk)
abbrev zQ:=List Lvl
def xi:yC→Nat→PV
  | [],_=> .unk
  |(k,v)::T,t=>match Nat.beq k t with
   |true=>v
   |false=>xi T t
def zp:Lvl→Nat→Option (Bool×Blk)
  | [],_=>none
  |(m,e)::l,n=>match Nat.beq m n with
   |true=>some e
   |false=>zp l n
def hget:zQ→Nat→Option (Bool×Blk)
  | [],_=>none
  |l::r,n=>match zp l n with
   |some e=>some e
   |none=>hget r n
def yl:zQ→Nat→Bool×Blk→zQ
  | [],n,e=> [[(n,e)]]
  |l::r,n,e=>((n,e)::l)::r
def wu (l:Lvl):zQ→zQ
  | []=> [l]
  |m::r=>(l++m)::r
def nth:List PV→Nat→Option PV
  | [],_=>none
  |v::_,0=>some v
  |_::l,n+1=>nth l n
def xU:List PV→Nat→List PV→Option (List PV)
  |l,_,[]=>some l
  | [],_,_::_=>none
  |_::l,0,v::vs=>match xU l 0 vs with
   |some r=>some (v::r)
   |none=>none
  |x::l,n+1,vs=>match xU l n vs with
   |some r=>some (x::r)
   |none=>none
def cut:List PV→Nat→Nat→Option (List PV)
  |_,0,0=>some []
  | [],_,_=>none
  |v::l,0,n+1=>match cut l 0 n with
   |some r=>some (v::r)
   |none=>none
  |_::l,i+1,n=>cut l i n
def ofV:Nat→Value→PV
  |_,.bool b=> .tf b
  |_,.int k n=> .int k n
  |_,.string s=> .str s
  |_,.pointer none=> .nilp
  |_,.slice none 0 0=> .nils
  |_,.nilFunc=> .nilf
  |_,.nilIface=> .nili
  |n+1,.agg cs=> .agg (cs.toList.map (ofV n))
  |_,_=> .unk
inductive TD where
 |other
 |bool
 |int (k:IntKind)
 |string
 |ptr (e:TypeId)
 |slice (e:TypeId)
 |array (n:Nat) (e:TypeId)
 |struct (fs:List (Nat×TypeId))
 |func
structure TyI where
 d:TD
 size:Nat
 bytes:Nat
 zero:Option (List PV)
 eqok:Bool
 known:Bool
def ev (T:yC):Operand→PV
  | .tmp t=>xi T t
  | .const v=>ofV 1 v
  | .global _=> .unk
  | .func f=> .fn (.func f) [] []
def keq:IntKind→IntKind→Bool
  | .i8,.i8| .i16,.i16| .i32,.i32| .i64,.i64| .u8,.u8| .u16,.u16| .u32,.u32| .u64,.u64=>true
  |_,_=>false
def one:PV→Bool
  | .agg _| .tup _| .unk=>false
  |_=>true
def vt:List PV→Bool
  | []=>true
  |v::l=>match one v with
   |true=>vt l
   |false=>false
def uD:PV→Option (List PV)
  | .agg cs=>some cs
  | .tup _| .unk=>none
  |v=>some [v]
def len:List PV→Nat
  | []=>0
  |_::l=>len l+1
structure FnI where
 body:Code
 nt:Nat
 res:List ResultVar
structure Env where
 ty:List TyI
 fs:List (Option FnI)
def y6:List TyI→Nat→Option TyI
  | [],_=>none
  |i::_,0=>some i
  |_::l,n+1=>y6 l n
def xG:List (Option FnI)→Nat→Option FnI
  | [],_=>none
  |i::_,0=>i
  |_::l,n+1=>xG l n
def mH:List (Nat×TypeId)→Nat→Option (Nat×TypeId)
  | [],_=>none
  |i::_,0=>some i
  |_::l,n+1=>mH l n
section
variable (g9:Bool→Prop→Prop→Prop) (E:Env)
def lim (k:IntKind) (n:Int):Bool:=decide (k.min≤n∧n≤k.max)
def gO:Nat→Nat→Nat
  |0,x=>x
  |o+1,x=>(o+1)+x
def pz (x:Nat):Nat→Nat
  |0=>0
  |1=>x
  |n+2=>x*(n+2)
def pos (a:PA):Nat:=match a.st with
 |0=>a.off
 |s+1=>gO a.off (pz a.ix (s+1))
def yB:List Col→Nat
  | []=>0
  |_::l=>yB l+1
def yh:List Col→Nat→Option Col
  | [],_=>none
  |c::_,0=>some c
  |_::l,n+1=>yh l n
def j4:PV→Option Col
  | .int k z=>some (.int k fun _=>z)
  | .bool b=>some (.bool fun _=>b)
  | .tf b=>some (.bool fun _=>b)
  | .str s=>some (.str fun _=>s)
  |v=>match one v with
   |true=>some (.val fun _=>v)
   |false=>none
def wU:List PV→Option (List Col)
  | []=>some []
  |v::vs=>match j4 v,wU vs with
   |some c,some cs=>some (c::cs)
   |_,_=>none
def oU {α:Type} (f:Nat→α) (o:Nat) (x:α):Nat→α:=fun j=>bif Nat.beq j o then x else f j
def k9 (o:Nat):Col→PV→Option Col
  | .int k f,.int k' x=>match keq k k' with
   |true=>some (.int k (oU f o x))
   |false=>none
  | .bool f,.bool x=>some (.bool (oU f o x))
  | .bool f,.tf x=>some (.bool (oU f o x))
  | .str f,.str x=>some (.str (oU f o x))
  | .val f,v=>match one v with
   |true=>some (.val (oU f o v))
   |false=>none
  |_,_=>none
def x6 (o:Nat):List Col→Nat→List PV→Option (List Col)
  |cs,_,[]=>some cs
  | [],_,_::_=>none
  |c::cs,0,v::vs=>match k9 o c v,x6 o cs 0 vs with
   |some d,some ds=>some (d::ds)
   |_,_=>none
  |c::cs,k+1,v::vs=>match x6 o cs k (v::vs) with
   |some ds=>some (c::ds)
   |none=>none
def ldB (b:Blk) (a:PA) (K:PV→Prop):Prop:=match b with
 | .cells cs=>match nth cs (pos a) with
  |some v=>K v
  |none=>False
 | .rows st n F=>match Nat.beq st a.st,Nat.blt a.off st with
  |true,true=>g9 (decide (a.ix<n)) (K (F a.ix a.off)) False
  |_,_=>False
 | .ints k n f=>g9 (decide (pos a<n)) (K (.int k (f (pos a)))) False
 | .cols n cs=>match yh cs a.off,Nat.beq a.st (yB cs) with
  |some c,true=>g9 (decide (a.ix<n)) (K (zy c a.ix)) False
  |_,_=>False
 | .dead=>False
def ld (H:zQ) (a:PA) (K:PV→Prop):Prop:=match hget H a.nm with
 |some (_,b)=>ldB g9 b a K
 |none=>False
def lds (b:Blk) (a:PA):Nat→(List PV→Prop)→Prop
  |0,K=>K []
  |n+1,K=>ldB g9 b a fun v=>lds b ⟨a.nm,a.st,a.ix,a.off+1⟩ n fun vs=>K (v::vs)
def ldn (H:zQ) (a:PA) (n:Nat) (K:List PV→Prop):Prop:=match hget H a.nm with
 |some (_,.cells cs)=>match cut cs (pos a) n with
  |some vs=>K vs
  |none=>False
 |some (_,b)=>lds g9 b a n K
 |none=>False
def upd (f:Nat→Int) (o:Nat) (x:Int):Nat→Int:=fun p=>bif Nat.beq p o then x else f p
def stB (H:zQ) (a:PA) (vs:List PV) (K:zQ→Prop) (b:Blk):Prop:=match b with
 | .cells cs=>match vt vs with
  |true=>match xU cs (pos a) vs with
   |some cs'=>K (yl H a.nm (true,.cells cs'))
   |none=>False
  |false=>False
 | .ints k n f=>match vs with
  | [.int k' x]=>match keq k k' with
   |true=>g9 (decide (pos a<n)) (K (yl H a.nm (true,.ints k n (upd f (pos a) x)))) False
   |false=>False
  |_=>False
 | .cols n cs=>match Nat.beq a.st (yB cs),x6 a.ix cs a.off vs with
  |true,some cs'=>g9 (decide (a.ix<n)) (K (yl H a.nm (true,.cols n cs'))) False
  |_,_=>False
 |_=>False
def stn (H:zQ) (a:PA) (vs:List PV) (K:zQ→Prop):Prop:=match hget H a.nm with
 |some (true,b)=>stB g9 H a vs K b
 |_=>False
def kA:TD→Option Bool
  | .struct _| .array _ _=>some true
  | .other=>none
  |_=>some false
def ldT (i:TyI) (H:zQ) (a:PA) (K:PV→Prop):Prop:=match kA i.d with
 |some true=>ldn g9 H a i.size fun vs=>K (.agg vs)
 |some false=>ld g9 H a K
 |none=>False
def ldv (t:TypeId) (H:zQ) (a:PA) (K:PV→Prop):Prop:=match y6 E.ty t with
 |some i=>ldT g9 i H a K
 |none=>False
def rep (z:List PV):Nat→List PV
  |0=> []
  |n+1=>z++rep z n
def vw (place:Nat→Option (Nat×Nat)):List PV→List (Nat×PV)→Option (List PV)
  |cs,[]=>some cs
  | cs, (i,v)::r=>match place i,uD v with
   | some (off,size),some vs=>match Nat.beq (len vs) size,vt vs,Nat.ble (off+size) (len cs) with
    |true,true,true=>match xU cs off vs with
     |some cs'=>vw place cs' r
     |none=>none
    |_,_,_=>none
   |_,_=>none
def tQ (T:yC):List (Nat×Operand)→List (Nat×PV)
  | []=> []
  |(i,x)::l=>(i,ev T x)::tQ T l
def evs (T:yC):List Operand→List PV
  | []=> []
  |x::l=>ev T x::evs T l
def part (t:TypeId) (cs:List PV) (off:Nat):Option PV:=match y6 E.ty t with
 | some i=>match kA i.d with
  |some true=>match cut cs off i.size with
   |some vs=>some (.agg vs)
   |none=>none
  |some false=>nth cs off
  |none=>none
 |none=>none
def szT (t:TypeId):Option Nat:=match y6 E.ty t with
 |some j=>match j.known with
  |true=>some j.size
  |false=>none
 |none=>none
def mY (eq:TypeId→PV→PV→Option Bool):List (Nat×TypeId)→List PV→List PV→Option Bool
  | [],_,_=>some true
  | (off,t)::l,xs,ys=>match part E t xs off,part E t ys off with
   |some a,some b=>match eq t a b,mY eq l xs ys with
    |some r,some s=>some (r&&s)
    |_,_=>none
   |_,_=>none
def kT (eq:TypeId→PV→PV→Option Bool) (e:TypeId) (sz:Nat):Nat→Nat→List PV→List PV→Option Bool
  |0,_,_,_=>some true
  | n + 1,i,xs,ys=>match part E e xs (i*sz),part E e ys (i*sz) with
   |some a,some b=>match eq e a b,kT eq e sz n (i+1) xs ys with
    |some r,some s=>some (r&&s)
    |_,_=>none
   |_,_=>none
abbrev S.eqS (a b:ByteArray):Bool:=a.toList==b.toList
abbrev S.ltS (a b:ByteArray):Bool:=Op.bytesLess a.toList b.toList
abbrev S.ofB (f:Nat→Int) (n:Nat):ByteArray:=⟨((List.range n).map fun j=>UInt8.ofNat (f j).toNat).toArray⟩
abbrev S.subS (a:ByteArray) (lo hi:Nat):ByteArray:=a.extract lo hi
def eq0 (d:TD) (x y:PV):Option Bool:=match d,x,y with
 | .int _,.int k a,.int k' b=>match keq k k' with
  |true=>some (a==b)
  |false=>none
 | .bool,.bool a,.bool b=>some (a==b)
 | .bool,.tf a,.bool b=>some (a==b)
 | .bool,.bool a,.tf b=>some (a==b)
 | .bool,.tf a,.tf b=>some (a==b)
 | .string,.str a,.str b=>some (S.eqS a b)
 | .slice _,.nils,.nils=>some true
 | .slice _,.nils,.sl _ _=>some false
 | .slice _,.sl _ _,.nils=>some false
 | .slice _,.zer a,.nils=>some (!a)
 | .slice _,.nils,.zer a=>some (!a)
 | .ptr _,.nilp,.nilp=>some true
 | .ptr _,.nilp,.ptr _=>some false
 | .ptr _,.ptr _,.nilp=>some false
 | .func,.nilf,.nilf=>some true
 | .func,.nilf,.fn _ _ _=>some false
 | .func,.fn _ _ _,.nilf=>some false
 |_,_,_=>none
def eqt :Nat→TypeId→PV→PV→Option Bool
  |0,_,_,_=>none
  | d + 1,t,x,y=>match y6 E.ty t with
   |none=>none
   | some i=>match i.d,x,y with
    | .struct fs,.agg xs,.agg ys=>match i.eqok with
     |true=>mY E (eqt d) fs xs ys
     |false=>none
    | .array n e,.agg xs,.agg ys=>match i.eqok,szT E e with
     |true,some sz=>kT E (eqt d) e sz n 0 xs ys
     |_,_=>none
    |d,x,y=>eq0 d x y
def S.andB (k:IntKind) (a b:Int):Int:=k.wrap (BitVec.ofInt k.bits a&&& BitVec.ofInt k.bits b).toNat
def S.orB (k:IntKind) (a b:Int):Int:=k.wrap (BitVec.ofInt k.bits a|||BitVec.ofInt k.bits b).toNat
def S.xorB (k:IntKind) (a b:Int):Int:=k.wrap (BitVec.ofInt k.bits a ^^^ BitVec.ofInt k.bits b).toNat
def S.andNotB (k:IntKind) (a b:Int):Int:=k.wrap (BitVec.ofInt k.bits a&&& ~~~(BitVec.ofInt k.bits b)).toNat
def S.shlB (k:IntKind) (a b:Int):Int:=k.wrap (a*2 ^ (min b.toNat k.bits))
def S.shrB (k:IntKind) (a b:Int):Int:=a.fdiv (2 ^ (min b.toNat k.bits))
def shI (op:BinOp) (k:IntKind) (a b:Int) (K:PV→Prop):Prop:=match op with
 | .shl=>g9 (decide (b<0)) False (K (.int k (S.shlB k a b)))
 | .shr=>g9 (decide (b<0)) False (K (.int k (S.shrB k a b)))
 |_=>False
def io (op:BinOp) (k:IntKind) (a b:Int) (K:PV→Prop):Prop:=match op with
 | .and=>K (.int k (S.andB k a b))
 | .or=>K (.int k (S.orB k a b))
 | .xor=>K (.int k (S.xorB k a b))
 | .andNot=>K (.int k (S.andNotB k a b))
 | .shl=>shI g9 .shl k a b K
 | .shr=>shI g9 .shr k a b K
 | .add=>g9 (lim k (a+b)) (K (.int k (a+b))) False
 | .sub=>g9 (lim k (a-b)) (K (.int k (a-b))) False
 | .mul=>g9 (lim k (a*b)) (K (.int k (a*b))) False
 | .quo=>g9 (decide (b=0)) False (g9 (lim k (a.tdiv b)) (K (.int k (a.tdiv b))) False)
 | .rem=>g9 (decide (b=0)) False (K (.int k (a.tmod b)))
 | .eql=>K (.bool (a==b))
 | .neq=>K (.bool (a != b))
 | .lss=>K (.bool (decide (a<b)))
 | .leq=>K (.bool (decide (a≤b)))
 | .gtr=>K (.bool (decide (a>b)))
 | .geq=>K (.bool (decide (a≥b)))
def gS (op:BinOp) (a b:ByteArray) (K:PV→Prop):Prop:=match op with
 | .eql=>K (.bool (S.eqS a b))
 | .neq=>K (.bool (!(S.eqS a b)))
 | .lss=>K (.bool (S.ltS a b))
 | .gtr=>K (.bool (!(S.ltS a b||S.eqS a b)))
 | .leq=>K (.bool (S.ltS a b||S.eqS a b))
 | .geq=>K (.bool (!(S.ltS a b)))
 | .add=>g9 (decide (((a.size+b.size:Nat):Int)≤9223372036854775807)) (K (.str (a++b))) False
 |_=>False
def gk:PV→Bool
  | .tf _| .ptr _| .nilp| .nils| .sl _ _| .fn _ _ _| .nilf| .zer _=>true
  |_=>false
def known (x y:PV) (b:Bool):PV:=match gk x,gk y with
 |true,true=> .tf b
 |_,_=> .bool b
def gF (op:BinOp) (t:TypeId) (x y:PV) (K:PV→Prop):Prop:=match op with
 | .eql=>match eqt E 5 t x y with
  |some b=>K (known x y b)
  |none=>False
 | .neq=>match eqt E 5 t x y with
  |some b=>K (known x y (!b))
  |none=>False
 |_=>False
def mU (op:BinOp) (n:Nat) (K:PV→Prop):Prop:=match op with
 | .eql=>g9 (decide (0<n)) (K (.tf false)) False
 | .neq=>g9 (decide (0<n)) (K (.tf true)) False
 |_=>False
def nl (op:BinOp) (t:TypeId) (n:Nat) (K:PV→Prop):Prop:=match y6 E.ty t with
 |some i=>match i.d with
  | .slice _=>mU g9 op n K
  |_=>False
 |none=>False
def bin (op:BinOp) (t:TypeId) (x y:PV) (K:PV→Prop):Prop:=match x,y with
 | .loose _ n,.nils=>nl g9 E op t n K
 | .own _ _ n,.nils=>nl g9 E op t n K
 | .nils,.loose _ n=>nl g9 E op t n K
 | .nils,.own _ _ n=>nl g9 E op t n K
 | .int k a,.int k' b=>match keq k k' with
  |false=>shI g9 op k a b K
  |true=>io g9 op k a b K
 | .str a,.str b=>gS g9 op a b K
 |x,y=>gF E op t x y K
def oI (s:ByteArray) (n:Nat):Int:=((s.data.toList.getD n 0).toNat:Int)
def yR (cs:List Col) (j i:Nat):PV:=match yh cs i with
 |some c=>zy c j
 |none=> .unk
def uZ {α:Type} (n:Nat) (f g:Nat→α):Nat→α:=fun j=>bif Nat.blt j n then f j else g (j-n)
def iO (n:Nat):Col→Col→Option Col
  | .int k f,.int k' g=>match keq k k' with
   |true=>some (.int k (uZ n f g))
   |false=>none
  | .bool f,.bool g=>some (.bool (uZ n f g))
  | .str f,.str g=>some (.str (uZ n f g))
  | .val f,.val g=>some (.val (uZ n f g))
  |_,_=>none
def tV (n:Nat):List Col→List Col→Option (List Col)
  | [],[]=>some []
  |c::cs,d::ds=>match iO n c d,tV n cs ds with
   |some e,some es=>some (e::es)
   |_,_=>none
  |_,_=>none
def kL (a:Nat):Col→Col
  | .int k f=> .int k fun j=>f (j+a)
  | .bool f=> .bool fun j=>f (j+a)
  | .str f=> .str fun j=>f (j+a)
  | .val f=> .val fun j=>f (j+a)
def sD (a:Nat):List Col→List Col
  | []=> []
  |c::cs=>kL a c::sD a cs
def y9:PV→Option (PA×Nat)
  | .loose a n| .sl a n=>some (a,n)
  | .own nm st n=>some (⟨nm,st,0,0⟩,n)
  |_=>none
def most:Nat:=1000000
def join (n:Nat) (F G:Nat→Nat→PV):Nat→Nat→PV:=fun j i=>bif Nat.blt j n then F j i else G (j-n) i
def wi (H:zQ) (a:PA) (n:Nat):Option (List PV):=match hget H a.nm with
 |some (_,.cells cs)=>cut cs (pos a) (pz n a.st)
 |_=>none
def pc (cs:List PV) (n:Nat):PV:=match nth cs n with
 |some v=>v
 |none=> .unk
def rS (b:Blk) (a:PA) (n st:Nat) (K:(Nat→Nat→PV)→Prop):Prop:=match b with
 | .rows st' n' F=>match Nat.beq st' st,Nat.beq a.off 0 with
  |true,true=>g9 (decide (a.ix+n≤n')) (K fun j i=>F (j+a.ix) i) False
  |_,_=>False
 | .ints k n' f=>match Nat.beq st 1,Nat.beq a.off 0 with
  |true,true=>g9 (decide (a.ix+n≤n')) (K fun j _=> .int k (f (j+a.ix))) False
  |_,_=>False
 | .cols n' cs=>match Nat.beq (yB cs) st,Nat.beq a.off 0 with
  |true,true=>g9 (decide (a.ix+n≤n')) (K fun j i=>yR cs (j+a.ix) i) False
  |_,_=>False
 | .cells cs=>g9 (decide ((a.ix+n)*a.st+a.off≤len cs)) (K fun j i=>pc cs ((a.ix+j)*a.st+(a.off+i))) False
 | .dead=>False
def uM (H:zQ) (a:PA) (n st:Nat) (K:(Nat→Nat→PV)→Prop):Prop:=match Nat.beq a.st st,hget H a.nm with
 |true,some (_,b)=>rS g9 b a n st K
 |_,_=>False
def lP (H:zQ) (st:Nat):PV→Option (Option Nat×Nat)
  | .nils| .emp=>some (none,0)
  | .own nm st' n=>match Nat.beq st' st,hget H nm with
   |true,some (true,_)=>some (some nm,n)
   |_,_=>none
  |_=>none
def kill (H:zQ):Option Nat→zQ
  |none=>H
  |some nm=>yl H nm (false,.dead)
def qf (H:zQ) (st:Nat) (o:Option Nat) (n:Nat):Option (List PV):=match o with
 |none=>some []
 |some nm=>wi H ⟨nm,st,0,0⟩ n
def ui (H:zQ) (st:Nat) (a:PA) (m:Nat):Option (List PV):=match Nat.beq a.st st with
 |true=>wi H a m
 |false=>none
def jM (H:zQ) (fr st:Nat) (o:Option Nat) (n:Nat) (a:PA) (m:Nat) (K:PV→zQ→Nat→Prop):Prop:=
 uM g9 H a m st fun G=>match o with
  |none=>K (.own fr st (n+m)) (yl H fr (true,.rows st (n+m) G)) (fr+1)
  |some nm=>uM g9 H ⟨nm,st,0,0⟩ n st fun F=>
   K (.own fr st (n+m)) (yl (kill H o) fr (true,.rows st (n+m) (join n F G))) (fr+1)
def kC (cs:List PV) (st:Nat):Nat→Nat→Option (List Col)
  |_,0=>none
  |p,1=>match cut cs p st with
   |some vs=>wU vs
   |none=>none
  | p,m+2=>match cut cs p st,kC cs st (p+st) (m+1) with
   |some vs,some ds=>match wU vs with
    |some c=>tV 1 c ds
    |none=>none
   |_,_=>none
def mW (H:zQ) (st:Nat) (a:PA) (m:Nat):Option (Bool×List Col):=match Nat.beq a.st st,hget H a.nm with
 |true,some (_,.cols m' ds)=>match Nat.beq (yB ds) st,Nat.beq a.off 0 with
  |true,true=>some (decide (a.ix+m≤m'),sD a.ix ds)
  |_,_=>none
 |true,some (_,.cells cs)=>match kC cs st (pos a) m with
  |some ds=>some (true,ds)
  |none=>none
 |_,_=>none
def iP (H :zQ) (st:Nat) (o:Option Nat) (n:Nat):Option (Bool×Option (List Col)):=match o with
 |none=>some (true,none)
 | some nm=>match hget H nm with
  |some (_,.cols n' cs)=>match Nat.beq (yB cs) st with
   |true=>some (decide (n≤n'),some cs)
   |false=>none
  | some (_,.cells cs)=>match n with
   |0=>some (true,none)
   | 1 =>match cut cs 0 st with
    |some vs=>match wU vs with
     |some ds=>some (true,some ds)
     |none=>none
    |none=>none
   |_=>none
  |_=>none
def l7 (n:Nat):Option (List Col)→List Col→Option (List Col)
  |none,ds=>some ds
  |some cs,ds=>tV n cs ds
def iM (H:zQ) (fr st:Nat) (o:Option Nat) (n:Nat) (a:PA) (m:Nat) (K:PV→zQ→Nat→Prop):Prop:=match iP H st o n,mW H st a m with
 |some (b,oc),some (c,ds)=>match l7 n oc ds with
  |some es=>g9 b (g9 c (K (.own fr st (n+m)) (yl (kill H o) fr (true,.cols (n+m) es)) (fr+1)) False) False
  |none=>jM g9 H fr st o n a m K
 |_,_=>jM g9 H fr st o n a m K
def gf (H:zQ) (fr st:Nat) (o:Option Nat) (n:Nat) (a:PA) (m:Nat) (K:PV→zQ→Nat→Prop):Prop:=
 match qf H st o n,ui H st a m with
 |some l,some r=>K (.own fr st (n+m)) (yl (kill H o) fr (true,.cells (l++r))) (fr+1)
 |_,_=>iM g9 H fr st o n a m K
def app (H:zQ) (fr st:Nat) (s x:PV) (K:PV→zQ→Nat→Prop):Prop:=match lP H st s with
 |none=>False
 | some (o,n)=>match x with
  | .nils| .emp| .zer _=>K s H fr
  |_=>match y9 x with
   |none=>False
   |some (a,m)=>g9 (decide (n+m≤most)) (gf g9 H fr st o n a m K) False
def rP {α:Type} (p n:Nat) (f g:Nat→α):Nat→α:=fun j=>bif Nat.ble p j then (bif Nat.blt j (p+n) then g (j-p) else f j) else f j
def gN (p n:Nat):Col→Col→Option Col
  | .int k f,.int k' g=>match keq k k' with
   |true=>some (.int k (rP p n f g))
   |false=>none
  | .bool f,.bool g=>some (.bool (rP p n f g))
  | .str f,.str g=>some (.str (rP p n f g))
  | .val f,.val g=>some (.val (rP p n f g))
  |_,_=>none
def sx (p n:Nat):List Col→List Col→Option (List Col)
  | [],[]=>some []
  |c::cs,d::ds=>match gN p n c d,sx p n cs ds with
   |some e,some es=>some (e::es)
   |_,_=>none
  |_,_=>none
def i3 (H:zQ) (fr st:Nat) (d s:PA) (m k:Nat) (K:PV→zQ→Nat→Prop):Prop:=match Nat.beq d.st st,Nat.beq d.off 0,hget H d.nm with
 | true,true,some (true,.cols n' cs)=>match mW H st s m,Nat.beq (yB cs) st with
  |some (b,ds),true=>match sx d.ix k cs ds with
   |some es=>g9 (decide (d.ix+k≤n')) (g9 b (K (.int .i64 k) (yl H d.nm (true,.cols n' es)) fr) False) False
   |none=>False
  |_,_=>False
 |_,_,_=>False
def iR (H:zQ) (fr st:Nat) (d s:PA) (m k:Nat) (K:PV→zQ→Nat→Prop):Prop:=match hget H d.nm with
 | some (true,.cells cs)=>match Nat.beq d.st st,ui H st s k with
  |true,some r=>match xU cs (pos d) r,vt r with
   |some cs',true=>K (.int .i64 k) (yl H d.nm (true,.cells cs')) fr
   |_,_=>False
  |_,_=>False
 |_=>i3 g9 H fr st d s m k K
def rf:PV→Option (Option (PA×Nat))
  | .nils| .emp| .zer _=>some none
  |v=>match y9 v with
   |some x=>some (some x)
   |none=>none
def cpy (H:zQ) (fr st:Nat) (d s:PV) (K:PV→zQ→Nat→Prop):Prop:=match rf d,rf s with
 |some none,some _=>K (.int .i64 0) H fr
 |some _,some none=>K (.int .i64 0) H fr
 |some (some (a,n)),some (some (b,m))=>iR g9 H fr st a b m (min n m) K
 |_,_=>False
def im (H:zQ) (fr st:Nat) (z:List PV) (s x:PV) (K:PV→zQ→Nat→Prop):Prop:=match s,x with
 | .nils,.int _ n| .emp,.int _ n=>match wU z with
  |some cs=>g9 (decide (0≤n∧n≤(most:Int))) (K (.own fr st n.toNat) (yl H fr (true,.cols n.toNat cs)) (fr+1)) False
  |none=>False
 |_,_=>False
def gW:List PV→Option PV
  | [.int k a]=>some (.int k a)
  | [.int k a,.int k' b]=>match keq k k' with|true=>some (.int k (min a b))|false=>none
  | [.int k a,.int k' b,.int k'' c]=>match keq k k',keq k k'' with|true,true=>some (.int k (min (min a b) c))|_,_=>none
  |_=>none
def gY:List PV→Option PV
  | [.int k a]=>some (.int k a)
  | [.int k a,.int k' b]=>match keq k k' with|true=>some (.int k (max a b))|false=>none
  | [.int k a,.int k' b,.int k'' c]=>match keq k k',keq k k'' with|true,true=>some (.int k (max (max a b) c))|_,_=>none
  |_=>none
def lenOf (d:TD) (x:PV):Option Int:=match d,x with
 | .string,.str s=>some s.size
 | .array n _,_=>some n
 | .slice _,.nils=>some 0
 | .slice _,.emp=>some 0
 | .slice _,.zer _=>some 0
 | .slice _,.loose _ n=>some n
 | .slice _,.sl _ n=>some n
 | .slice _,.own _ _ n=>some n
 |_,_=>none
def lU (d:TD) (x:PV):Option Int:=match d,x with
 | .slice _,.nils=>some 0
 |_,_=>none
def sa (T:yC):Option Operand→Option (Option Int)
  |none=>some none
  |some x=>match ev T x with
   | .int _ n=>some (some n)
   |_=>none
def wide:IntKind→IntKind→Bool
  | .i8,.i8| .i8,.i16| .i8,.i32| .i8,.i64| .i16,.i16| .i16,.i32| .i16,.i64| .i32,.i32| .i32,.i64| .i64,.i64=>true
  | .u8,.u8| .u8,.u16| .u8,.u32| .u8,.u64| .u8,.i16| .u8,.i32| .u8,.i64| .u16,.u16| .u16,.u32| .u16,.u64| .u16,.i32| .u16,.i64=>true
  | .u32,.u32| .u32,.u64| .u32,.i64| .u64,.u64=>true
  |_,_=>false
abbrev Kon:=PV→zQ→Nat→Prop
def kh (H:zQ) (fr:Nat) (e:TypeId) (K:Kon):Prop:=match y6 E.ty e with
 |some i=>match i.zero with
  |some cs=>K (.ptr ⟨fr,0,0,0⟩) (yl H fr (true,.cells cs)) (fr+1)
  |none=>False
 |none=>False
def gn (H:zQ) (fr:Nat) (v:PV) (K:Kon):Prop:=match uD v with
 |some cs=>match vt cs with
  |true=>K (.ptr ⟨fr,0,0,0⟩) (yl H fr (true,.cells cs)) (fr+1)
  |false=>False
 |none=>False
def u6 (fs:List (Nat×TypeId)) (i:Nat):Option (Nat×Nat):=match mH fs i with
 |some (off,t)=>match szT E t with
  |some n=>some (off,n)
  |none=>none
 |none=>none
def uk:List (Nat×TypeId)→Bool
  | []=>true
  | (_,t)::l=>match y6 E.ty t with
   |some i=>match i.known with
    |true=>uk l
    |false=>false
   |none=>false
def oH (H :zQ) (fr:Nat) (t:TypeId) (ps:List (Nat×PV)) (K:Kon):Prop:=match y6 E.ty t with
 |none=>False
 | some i=>match i.zero with
  |none=>False
  | some z=>match i.d with
   | .struct fs=>match uk E fs,vw (u6 E fs) z ps with
    |true,some cs=>K (.agg cs) H fr
    |_,_=>False
   | .array _ e=>match szT E e with
    |some n=>match vw (fun i=>some (i*n,n)) z ps with
     |some cs=>K (.agg cs) H fr
     |_=>False
    |none=>False
   |_=>False
def rR (t:TypeId):Option (TypeId×TyI):=match y6 E.ty t with
 | some i=>match i.d with
  | .slice e=>match y6 E.ty e with
   |some j=>some (e,j)
   |none=>none
  |_=>none
 |none=>none
def vG (H :zQ) (fr:Nat) (t:TypeId) (n:Nat) (ps:List (Nat×PV)) (K:Kon):Prop:=match rR E t with
 |none=>False
 | some (_,j)=>match j.zero with
  |none=>False
  | some z=>match Nat.beq (len z) j.size,Nat.blt 0 j.size,Nat.blt (n*j.size) 16777217 with
   | true,true,true=>match vw (fun i=>some (i*j.size,j.size)) (rep z n) ps with
    |some cs=>match vt cs with
     |true=>K (.own fr j.size n) (yl H fr (true,.cells cs)) (fr+1)
     |false=>False
    |none=>False
   |_,_,_=>False
def kX (H:zQ) (fr:Nat) (t:TypeId) (a x:PV) (K:Kon):Prop:=match a,uD x,szT E t with
 | .ptr p,some cs,some n=>match Nat.beq (len cs) n with
  |true=>stn g9 H p cs fun H'=>K .unk H' fr
  |false=>False
 |_,_,_=>False
def kc (H:zQ) (fr:Nat) (e:TypeId) (s:ByteArray) (K:Kon):Prop:=match y6 E.ty e with
 |some y=>match y.d with
  | .int .u8=>K (.own fr 1 s.size) (yl H fr (true,.cols s.size [.int .u8 fun j=>oI s j])) (fr+1)
  |_=>False
 |none=>False
def ml (H :zQ) (fr:Nat) (e:TypeId) (v:PV) (K:Kon):Prop:=match y6 E.ty e with
 | some y=>match y.d with
  | .int .u8=>match v with
   | .nils| .emp=>K (.str (S.ofB (fun _=>0) 0)) H fr
   | v =>match y9 v with
    |some (a,n)=>match mW H 1 a n with
     |some (b,[.int .u8 f])=>g9 b (K (.str (S.ofB f n)) H fr) False
     |_=>False
    |none=>False
  |_=>False
 |none=>False
def u9 (H:zQ) (fr:Nat) (src dst:TypeId) (x:PV) (K:Kon):Prop:=match y6 E.ty src,y6 E.ty dst with
 | some i,some j=>match i.d,j.d,x with
  | .int _,.int k,.int k' n=>match wide k' k with
   |true=>g9 (lim k n) (K (.int k n) H fr) False
   |false=>K (.int k (k.wrap n)) H fr
  | .string,.string,.str s=>K (.str s) H fr
  |_,_,_=>False
 |_,_=>False
def sk (H:zQ) (fr:Nat) (src dst:TypeId) (x:PV) (K:Kon):Prop:=match y6 E.ty src,y6 E.ty dst with
 |some i,some j=>match i.d,j.d,x with
  | .string,.slice e,.str s=>kc E H fr e s K
  | .slice e,.string,v=>ml g9 E H fr e v K
  |_,_,_=>u9 g9 E H fr src dst x K
 |_,_=>False
def kY (sy:Bool) (H:zQ) (fr n sz:Nat) (z:List PV) (K:Kon):Prop:=match sy with
 |false=>K (.own fr sz n) (yl H fr (true,.cells (rep z n))) (fr+1)
 |true=>match wU z with
  |some cs=>K (.own fr sz n) (yl H fr (true,.cols n cs)) (fr+1)
  |none=>K (.own fr sz n) (yl H fr (true,.rows sz n fun _ i=>pc z i)) (fr+1)
def kH (sy:Bool) (H:zQ) (fr:Nat) (t:TypeId) (l c:PV) (K:Kon):Prop:=match rR E t,l,c with
 | some (_,j),.int .i64 n,.int .i64 m=>match j.zero with
  |none=>False
  |some z=>match Nat.beq (len z) j.size,Nat.blt 0 j.size,Nat.blt j.bytes 4097 with
   |true,true,true=>g9 (decide (0≤n∧n≤m∧m≤(most:Int))) (kY sy H fr n.toNat j.size z K) False
   |_,_,_=>False
 |_,_,_=>False
def tm (H:zQ) (fr:Nat) (e:TypeId) (v:PV) (lo hi:Option Int) (K:Kon):Prop:=match y9 v,szT E e with
 | some (a,n),some sz=>match Nat.beq a.st sz with
  | true=>g9 (decide (0≤lo.getD 0∧lo.getD 0≤hi.getD n∧hi.getD n≤n))
      (K (.loose ⟨a.nm,a.st,(lo.getD 0).toNat+a.ix,a.off⟩ ((hi.getD n).toNat-(lo.getD 0).toNat)) H fr) False
  |false=>False
 |_,_=>False
def qX (H:zQ) (fr:Nat) (e:TypeId) (nm st n:Nat) (hi:Option Int) (K:Kon):Prop:=match szT E e with
 |some sz=>match Nat.beq st sz with
  |true=>g9 (decide (0≤hi.getD n∧hi.getD n≤n)) (K (.own nm st (hi.getD n).toNat) H fr) False
  |false=>False
 |none=>False
def ru (H:zQ) (fr:Nat) (t:TypeId) (v:PV) (lo hi:Option Int) (K:Kon):Prop:=match y6 E.ty t with
 |none=>False
 | some i=>match i.d,v with
  | .string,.str s=>g9 (decide (0≤lo.getD 0∧lo.getD 0≤hi.getD s.size∧hi.getD s.size≤s.size))
      (K (.str (S.subS s (lo.getD 0).toNat (hi.getD s.size).toNat)) H fr) False
  | .array n e,.ptr a=>match szT E e with
   |some sz=>g9 (decide (0≤lo.getD 0∧lo.getD 0≤hi.getD n∧hi.getD n≤n))
     (K (.loose ⟨a.nm,sz,(lo.getD 0).toNat,pos a⟩ ((hi.getD n).toNat-(lo.getD 0).toNat)) H fr) False
   |none=>False
  | .slice e,.nils=>match szT E e with
   |some _=>g9 (decide (lo.getD 0=0∧hi.getD 0=0)) (K .nils H fr) False
   |none=>False
  | .slice e,.emp=>match szT E e with
   |some _=>g9 (decide (lo.getD 0=0∧hi.getD 0=0)) (K .emp H fr) False
   |none=>False
  | .slice e,.own nm st n=>match lo with
   |none=>qX g9 E H fr e nm st n hi K
   |some l=>tm g9 E H fr e (.own nm st n) (some l) hi K
  | .slice e,v=>tm g9 E H fr e v lo hi K
  |_,_=>False
def qS (H :zQ) (fr:Nat) (t:TypeId) (v:PV) (lo:Option Int) (h c:Int) (K:Kon):Prop:=match y6 E.ty t,lo with
 | some i,none=>match i.d with
  | .slice e=>match szT E e with
   | some _=>match v with
    | .nils=>g9 (decide (h=0∧c=0)) (K .nils H fr) False
    | .emp=>g9 (decide (h=0∧c=0)) (K .emp H fr) False
    |v=>match y9 v with
     |some _=>g9 (decide (h=0∧c=0)) (K .emp H fr) False
     |none=>False
   |none=>False
  |_=>False
 |_,_=>False
def pr (T:yC) (H:zQ) (fr:Nat) (t:TypeId) (x:Operand) (lo hi mx:Option Operand) (K:Kon):Prop:=match sa T lo,sa T hi,mx with
 |some lo,some hi,none=>ru g9 E H fr t (ev T x) lo hi K
 |some lo,some (some h),some m=>match ev T m with
  | .int _ c=>qS g9 E H fr t (ev T x) lo h c K
  |_=>False
 |_,_,_=>False
def uA (H:zQ) (fr:Nat) (s:TypeId) (v:PV) (f:Nat) (K:Kon):Prop:=match v,y6 E.ty s with
 | .ptr a,some i=>match i.d with
  | .struct fs=>match u6 E fs f with
   |some (off,_+1)=>K (.ptr ⟨a.nm,a.st,a.ix,off+a.off⟩) H fr
   |_=>False
  |_=>False
 |_,_=>False
def p8 (H:zQ) (fr:Nat) (s:TypeId) (v:PV) (f:Nat) (K:Kon):Prop:=match v,y6 E.ty s with
 | .agg cs,some i=>match i.d with
  | .struct fs=>match mH fs f with
   |some (off,t)=>match part E t cs off with
    |some v=>K v H fr
    |none=>False
   |none=>False
  |_=>False
 |_,_=>False
def uE (H:zQ) (fr:Nat) (t:TypeId) (x ix:PV) (K:Kon):Prop:=match y6 E.ty t,ix with
 | some ti,.int _ i=>match ti.d with
  | .array n e=>match x,szT E e with
   | .ptr a,some sz=>g9 (decide (0≤i∧i<n)) (K (.ptr ⟨a.nm,a.st,a.ix,pz i.toNat sz+a.off⟩) H fr) False
   |_,_=>False
  | .slice e=>match y9 x,szT E e with
   |some (a,n),some sz=>match Nat.beq a.st sz with
    |true=>g9 (decide (0≤i∧i<n)) (K (.ptr ⟨a.nm,a.st,i.toNat+a.ix,a.off⟩) H fr) False
    |false=>False
   |_,_=>False
  |_=>False
 |_,_=>False
def p7 (H :zQ) (fr:Nat) (t:TypeId) (x ix:PV) (K:Kon):Prop:=match y6 E.ty t,x,ix with
 | some ti,.agg cs,.int _ i=>match ti.d with
  | .array n e=>match szT E e with
   | some sz=>g9 (decide (0≤i∧i<n)) (match part E e cs (i.toNat*sz) with
    |some v=>K v H fr
    |none=>False) False
   |none=>False
  |_=>False
 |some ti,.str s,.int _ i=>match ti.d with
  | .string=>g9 (decide (0≤i∧i<s.size)) (K (.int .u8 (oI s i.toNat)) H fr) False
  |_=>False
 |_,_,_=>False
def pi (T : yC) (H:zQ) (fr:Nat) (b:Builtin) (args:List Operand) (ts:List TypeId) (K:Kon):Prop:=match b with
 | .len=>match args,ts with
  | [x],t::_=>match y6 E.ty t with
   |some i=>match lenOf i.d (ev T x) with
    |some n=>K (.int .i64 n) H fr
    |none=>False
   |none=>False
  |_,_=>False
 | .min=>match gW (evs T args) with
  |some v=>K v H fr
  |none=>False
 | .max=>match gY (evs T args) with
  |some v=>K v H fr
  |none=>False
 | .append => match args,ts with
  | [s, x], [t,u]=>match rR E t with
   | some (_,j)=>match Nat.blt 0 j.size,Nat.blt j.bytes 4097,j.zero with
    | true, true,some z=>match Nat.beq (len z) j.size with
     | true=>match Nat.beq t u with
      |true=>app g9 H fr j.size (ev T s) (ev T x) K
      | false=>match y6 E.ty u with
       |some i=>match i.d with
        | .int _=>im g9 H fr j.size z (ev T s) (ev T x) K
        |_=>False
       |none=>False
     |false=>False
    |_,_,_=>False
   |none=>False
  |_,_=>False
 | .copy=>match args,ts with
  | [d,s],t::_=>match rR E t with
   |some (_,j)=>match j.zero with
    |some _=>cpy g9 H fr j.size (ev T d) (ev T s) K
    |none=>False
   |none=>False
  |_,_=>False
 | .cap=>match args,ts with
  | [x],t::_=>match y6 E.ty t with
   |some i=>match lU i.d (ev T x) with
    |some n=>K (.int .i64 n) H fr
    |none=>False
   |none=>False
  |_,_=>False
 |_=>False
def js (T:yC) (H:zQ) (fr:Nat) (c a b:Operand) (K:Kon):Prop:=match ev T c with
 | .bool t=>g9 t (K (ev T a) H fr) (K (ev T b) H fr)
 | .tf t=>match t with
  |true=>K (ev T a) H fr
  |false=>K (ev T b) H fr
 |_=>False
def iH (H:zQ) (fr:Nat) (t:TypeId) (v:PV) (K:Kon):Prop:=match v with
 | .ptr p=>ldv g9 E t H p fun v=>K v H fr
 |_=>False
def gz (H:zQ) (fr:Nat) (v:PV) (K:Kon):Prop:=match v with
 | .ptr a=>K (.ptr a) H fr
 | .fn (.func f) a b=>K (.fn (.func f) a b) H fr
 |_=>False
def oUn (H:zQ) (fr:Nat) (op:UnOp) (v:PV) (K:Kon):Prop:=match op,v with
 | .neg,.int .u64 n=>K (.int .u64 (IntKind.u64.wrap (-n))) H fr
 | .neg,.int k n=>g9 (lim k (-n)) (K (.int k (-n)) H fr) False
 | .not,.bool b=>K (.bool (!b)) H fr
 | .not,.tf b=>K (.tf (!b)) H fr
 |_,_=>False
def sT (H:zQ) (fr:Nat) (v:PV) (i:Nat) (K:Kon):Prop:=match v with
 | .tup vs=>match nth vs i with
  |some v=>K v H fr
  |none=>False
 |_=>False
abbrev xN:=FuncId→List PV→zQ→Nat→Kon→Prop
def j8 (X:xN) (T:yC) (H:zQ) (fr:Nat) (c:Callee) (args:List Operand) (ts:List TypeId) (K:Kon):Prop:=match c with
 | .builtin b=>pi g9 E T H fr b args ts K
 | .value f=>match ev T f with
  | .fn (.func g) a b=>X g (a++evs T args++b) H fr K
  |_=>False
 | .invoke _ _=>False
def ir (sy:Bool) (X:xN) (T:yC) (H:zQ) (fr:Nat) (o:Op) (K:Kon):Prop:=
 match o with
 | .move x=>K (ev T x) H fr
 | .assign x=>K (ev T x) H fr
 | .pick c a b=>js g9 T H fr c a b K
 | .alloc e=>kh E H fr e K
 | .box _ x=>gn H fr (ev T x) K
 | .build t ps=>oH E H fr t (tQ T ps.toList) K
 | .buildSlice t n ps=>vG E H fr t n (tQ T ps.toList) K
 | .load t a=>iH g9 E H fr t (ev T a) K
 | .store t a x=>kX g9 E H fr t (ev T a) (ev T x) K
 | .nilCheck x=>gz H fr (ev T x) K
 | .binOp op t x y _=>bin g9 E op t (ev T x) (ev T y) fun v=>K v H fr
 | .unOp op _ x=>oUn g9 H fr op (ev T x) K
 | .convert src dst x=>sk g9 E H fr src dst (ev T x) K
 | .makeFunc f a b=>K (.fn f (evs T a.toList) (evs T b.toList)) H fr
 | .makeSlice t l c=>kH g9 E sy H fr t (ev T l) (ev T c) K
 | .slice t x lo hi mx=>pr g9 E T H fr t x lo hi mx K
 | .fieldAddr s x i=>uA E H fr s (ev T x) i K
 | .field s x i=>p8 E H fr s (ev T x) i K
 | .indexAddr t x ix=>uE g9 E H fr t (ev T x) (ev T ix) K
 | .index t x ix=>p7 g9 E H fr t (ev T x) (ev T ix) K
 | .extract x i=>sT H fr (ev T x) i K
 | .call c=>j8 g9 E X T H fr c.callee c.args.toList c.argTypes.toList K
 |_=>False
def spl (v:PV) (K:PV→Prop):Prop:=match v with
 | .bool b=>g9 b (K (.tf true)) (K (.tf false))
 |v=>K v
def opx (sy:Bool) (X:xN) (T:yC) (H:zQ) (fr:Nat) (o:Op) (K:Kon):Prop:=
 ir g9 E sy X T H fr o fun v H' fr'=>spl g9 v fun v=>K v H' fr'
def dryB:Builtin→Bool
  | .len| .min| .max=>true
  |_=>false
def dry:Op→Bool
  | .load .. | .store .. =>false
  | .call c=>match c.callee with
   | .builtin b=>dryB b
   |_=>false
  |_=>true
inductive It where
 |cd (c:Code)
 |ib (id:Nat)
 |il (c:Code)
 |sc (c:Code)
 |rg (all rest:List Oper)
structure Cfg where
 fn:FuncId
 todo:List It
 T:yC
 H:zQ
 fr:Nat
inductive rC where
 |ret (v:PV) (H:zQ) (fr:Nat)
 |stop (k:Nat) (c:Cfg)
def rX (id:Nat):List It→Option (List It)
  | []=>none
  | .ib id'::k=>match Nat.beq id' id with
   |true=>some k
   |false=>rX id k
  |_::k=>rX id k
def mD (T:yC) (H:zQ):List ResultVar→(List PV→Prop)→Prop
  | [],K=>K []
  | .tmp t::l,K=>mD T H l fun vs=>K (xi T t::vs)
  | .cell a t::l,K=>match xi T a with
   | .ptr p=>ldv g9 E t H p fun v=>mD T H l fun vs=>K (v::vs)
   |_=>False
def gr:List PV→PV
  | [v]=>v
  |vs=> .tup vs
def fin (c:Cfg) (K:rC→Prop):Prop:=match xG E.fs c.fn with
 |some fn=>mD g9 E c.T c.H fn.res fun vs=>K (.ret (gr vs) c.H c.fr)
 |none=>False
def oF:List Oper→Nat→Option Oper
  | [],_=>none
  |o::_,0=>some o
  |_::l,n+1=>oF l n
def tset (f:FuncId) (T:yC) (d:Option Tmp) (v:PV) (K:yC→Prop):Prop:=match d with
 |none=>K T
 | some d=>match xG E.fs f with
  |some fn=>match Nat.blt d fn.nt with
   |true=>K ((d,v)::T)
   |false=>False
  |none=>False
structure tH where
 dst:Option Tmp
 v:PV
 l:Lvl
 dry:Bool
 writes:Bool
 view:zQ
 see:List Nat
def zx (ms:List Nat):List Edge→Nat
  | []=>0
  |e::l=>match Region.binds .any e with
   |true=>Nat.lor (Nat.lor (Nat.shiftLeft 1 e.on) (ms.getD e.on 0)) (zx ms l)
   |false=>zx ms l
def ze (m i:Nat):Bool:=Nat.beq (Nat.mod (Nat.shiftRight m i) 2) 1
def wG (m:Nat) (T:yC):List tH→Nat→yC
  | [],_=>T
  |d::ds,k=>match ze m (k-1),d.dst with
   |true,some t=>(t,d.v)::wG m T ds (k-1)
   |_,_=>wG m T ds (k-1)
def xz (m:Nat):List tH→Nat→Lvl
  | [],_=> []
  |d::ds,k=>match ze m (k-1) with
   |true=>d.l++xz m ds (k-1)
   |false=>xz m ds (k-1)
def lW (n:Nat):List Nat→List Nat
  | []=> [n]
  |m::l=>match Nat.beq m n with
   |true=>m::l
   |false=>m::lW n l
mutual
def pnm:PV→List Nat→List Nat
  | .ptr a,l=>lW a.nm l
  | .loose a _,l=>lW a.nm l
  | .sl a _,l=>lW a.nm l
  | .own nm _ _,l=>lW nm l
  | .agg cs,l=>pnms cs l
  | .tup cs,l=>pnms cs l
  | .fn _ a b,l=>pnms a (pnms b l)
  | .ifc _ v,l=>pnm v l
  | .unk,l| .bool _,l| .tf _,l| .int _ _,l| .str _,l| .nilp,l| .nils,l| .emp,l| .nilf,l| .nili,l| .zer _,l=>l
def pnms:List PV→List Nat→List Nat
  | [],l=>l
  |v::vs,l=>pnm v (pnms vs l)
end
def bnm:Blk→List Nat→List Nat
  | .cells cs,l=>pnms cs l
  |_,l=>l
def oJ (H:zQ):List Nat→List Nat→List Nat
  | [],l=>l
  |n::ns,l=>match hget H n with
   |some (_,b)=>bnm b (oJ H ns l)
   |none=>oJ H ns l
def qA (H:zQ):Nat→List Nat→List Nat
  |0,l=>l
  |k+1,l=>qA H k (oJ H l l)
def oL:Nat→List Nat
  |0=> []
  |n+1=>n::oL n
def tS (H:zQ):List Nat→Lvl
  | []=> []
  |n::l=>match hget H n with
   |some e=>(n,e)::tS H l
   |none=>tS H l
def gu:Op→Bool
  | .call c=>match c.callee with
   | .builtin _=>false
   |_=>true
  |_=>false
def uU (T:yC) (l:Lvl) (H:zQ) (o:Op):List Nat:=match gu o with
 |true=>qA (l::H) 3 (pnms (evs T o.operands.toList) [])
 |false=>pnms (evs T o.operands.toList) []
def tlD (dr:Bool) (see:List Nat) (l:Lvl) (H:zQ):zQ:=match dr with
 |true=> []
 |false=> [tS (l::H) see]
def mQ (T:yC):List tH→yC
  | []=>T
  |d::ds=>match d.dst with
   |some t=>(t,d.v)::mQ T ds
   |none=>mQ T ds
def jn:List tH→Lvl
  | []=> []
  |d::ds=>d.l++jn ds
def tU (fr:Nat):Lvl→Bool
  | []=>false
  |(n,_)::l=>match Nat.blt n fr with
   |true=>true
   |false=>tU fr l
def xR (V:zQ):Lvl→Bool
  | []=>true
  |(n,_)::l=>match hget V n with
   |some _=>false
   |none=>xR V l
def wV (r s:tH):Bool:=
 ((r.dry&& !r.writes)||(s.dry&& !s.writes)|| !(r.writes||s.writes))||(xR s.view r.l&&xR r.view s.l&&xR [s.l] r.l&&xR [r.l] s.l)
def lV (o:Oper) (ops:List Oper) (r d:tH) (k:Nat):Bool:=
 wV r d&&match oF ops k with
  |some o'=>Oper.apart ops.toArray o' o
  |none=>false
def vW (o:Oper) (m:Nat) (ops:List Oper) (r:tH):List tH→Nat→Bool
  | [],_=>true
  | d ::ds,k=>match ze m (k-1) with
   |true=>vW o m ops r ds (k-1)
   |false=>match lV o ops r d (k-1) with
    |true=>vW o m ops r ds (k-1)
    |false=>false
def ip:Option (Nat×Bool)→Nat→Bool
  |none,_=>true
  |some (j,_),m=>ze m j
def fits (f:FuncId):Option Tmp→Bool
  |none=>true
  |some d=>match xG E.fs f with
   |some fn=>Nat.blt d fn.nt
   |none=>false
def uK (k:Nat):List Edge→Bool
  | []=>true
  |e::l=>match Region.binds .any e with
   |true=>Nat.blt e.on k&&uK k l
   |false=>uK k l
def vh (g :Option (Nat×Bool)) (ops:List Oper) (T:yC) (yes no:Prop):Prop:=match g with
 |none=>yes
 | some (j,want)=>match oF ops j with
  | some oj=>match oj.dst with
   | some tj=>match xi T tj with
    | .bool b=>g9 (b==want) yes no
    | .tf b=>match b,want with
     |true,true=>yes
     |false,false=>yes
     |true,false=>no
     |false,true=>no
    | .tup _=>no
    |_=>False
   |none=>False
  |none=>False
def sK (sy :Bool) (X:xN) (f:FuncId) (T:yC) (H:zQ) (all:List Oper):List Oper→List Nat→List tH→Nat→Nat→(yC→zQ→Nat→Prop)→Prop
  | [],_,ds,_,fr,K=>K (mQ T ds) (wu (jn ds) H) fr
  | o :: rest,ms,ds,k,fr,K=>
   match ip o.guard (zx ms o.after.toList),fits E f o.dst,uK k o.after.toList with
   | true, true,true=>
    vh g9 o.guard all (wG (zx ms o.after.toList) T ds k)
      (opx g9 E sy X (wG (zx ms o.after.toList) T ds k) ([]::tlD (dry o.op) (uU (wG (zx ms o.after.toList) T ds k) (xz (zx ms o.after.toList) ds k) H o.op) (xz (zx ms o.after.toList) ds k) H) fr o.op fun v H' fr'=>match H' with
       |l::_=>match vW o (zx ms o.after.toList) all ⟨o.dst,v,l,dry o.op,tU fr l,tlD (dry o.op) (uU (wG (zx ms o.after.toList) T ds k) (xz (zx ms o.after.toList) ds k) H o.op) (xz (zx ms o.after.toList) ds k) H,(uU (wG (zx ms o.after.toList) T ds k) (xz (zx ms o.after.toList) ds k) H o.op)⟩ ds k with
        |true=>sK sy X f T H all rest (ms++ [zx ms o.after.toList]) (⟨o.dst,v,l,dry o.op,tU fr l,tlD (dry o.op) (uU (wG (zx ms o.after.toList) T ds k) (xz (zx ms o.after.toList) ds k) H o.op) (xz (zx ms o.after.toList) ds k) H,(uU (wG (zx ms o.after.toList) T ds k) (xz (zx ms o.after.toList) ds k) H o.op)⟩::ds) (k+1) fr' K
        |false=>False
       | []=>False)
      (match vW o (zx ms o.after.toList) all ⟨o.dst,.tup [],[],true,false,[],[]⟩ ds k with
       |true=>sK sy X f T H all rest (ms++ [zx ms o.after.toList]) (⟨o.dst,.tup [],[],true,false,[],[]⟩::ds) (k+1) fr K
       |false=>False)
   |_,_,_=>False
def yD:Nat→List PV→yC
  |_,[]=> []
  |n,v::l=>(n,v)::yD (n+1) l
abbrev Ext:=FuncId→List PV→zQ→Nat→Kon→Prop→Prop
abbrev ka:=Cfg→(rC→Prop)→Prop
def enter (self:ka) (f:FuncId) (args:List PV) (H:zQ) (fr:Nat) (K:Kon):Prop:=match xG E.fs f with
 |some fn=>self ⟨f,[.cd fn.body],yD 0 args,[]::H,fr⟩ fun l=>match l with
  | .ret v (l::H') fr'=>K v (wu l H') fr'
  |_=>False
 |none=>False
def qp (X:Ext) (self:ka):xN:=fun f args H fr K=>X f args H fr K (enter E self f args H fr K)
def mR (self:ka) (Y:xN) (sy:Bool) (c:Cfg) (all rest:List Oper) (k:List It) (K:rC→Prop):Prop:=match rest with
 | []=>self ⟨c.fn,k,c.T,c.H,c.fr⟩ K
 | o ::rest=>vh g9 o.guard all c.T
     (opx g9 E sy Y c.T c.H c.fr o.op fun v H' fr'=>tset E c.fn c.T o.dst v fun T'=>self ⟨c.fn,.rg all rest::k,T',H',fr'⟩ K)
     (tset E c.fn c.T o.dst (.tup []) fun T'=>self ⟨c.fn,.rg all rest::k,T',c.H,c.fr⟩ K)
def mj (self:ka) (Y:xN) (sy stop:Bool) (c:Cfg) (cd:Code) (k:List It) (K:rC→Prop):Prop:=match cd with
 | .skip=>self ⟨c.fn,k,c.T,c.H,c.fr⟩ K
 | .label _=>self ⟨c.fn,k,c.T,c.H,c.fr⟩ K
 | .seq a b=>self ⟨c.fn,.cd a:: .cd b::k,c.T,c.H,c.fr⟩ K
 | .cond x a b=>match ev c.T x with
  | .bool t=>g9 t (self ⟨c.fn,.cd a::k,c.T,c.H,c.fr⟩ K) (self ⟨c.fn,.cd b::k,c.T,c.H,c.fr⟩ K)
  | .tf t=>match t with
   |true=>self ⟨c.fn,.cd a::k,c.T,c.H,c.fr⟩ K
   |false=>self ⟨c.fn,.cd b::k,c.T,c.H,c.fr⟩ K
  |_=>False
 | .block id b=>self ⟨c.fn,.cd b:: .ib id::k,c.T,c.H,c.fr⟩ K
 | .scope b=>self ⟨c.fn,.cd b:: .sc b::k,c.T,c.H,c.fr⟩ K
 | .loop b=>match stop with
  |true=>K (.stop 0 ⟨c.fn,.cd b:: .il b::k,c.T,c.H,c.fr⟩)
  |false=>self ⟨c.fn,.cd b:: .il b::k,c.T,c.H,c.fr⟩ K
 | .exit id=>match rX id k with
  |some k'=>self ⟨c.fn,k',c.T,c.H,c.fr⟩ K
  |none=>False
 | .ret=>fin g9 E c K
 | .region _ ops d=>match d with
  |false=>self ⟨c.fn,.rg ops.toList ops.toList::k,c.T,c.H,c.fr⟩ K
  |true=>sK g9 E sy Y c.fn c.T c.H ops.toList ops.toList [] [] 0 c.fr fun T' H' fr'=>self ⟨c.fn,k,T',H',fr'⟩ K
 |_=>False
def run (sy:Bool) (X:Ext):Bool→Nat→Cfg→(rC→Prop)→Prop
  |_,0,_,_=>False
  | stop,n+1,c,K=>match c.todo with
   | []=>fin g9 E c K
   | .ib _::k=>run sy X stop n ⟨c.fn,k,c.T,c.H,c.fr⟩ K
   | .sc _::k=>run sy X stop n ⟨c.fn,k,c.T,c.H,c.fr⟩ K
   | .il b::k=>match stop with
    |true=>K (.stop 1 ⟨c.fn,.cd b:: .il b::k,c.T,c.H,c.fr⟩)
    |false=>run sy X stop n ⟨c.fn,.cd b:: .il b::k,c.T,c.H,c.fr⟩ K
   | .rg all rest::k=>mR g9 E (run sy X stop n) (qp E X (run sy X false n)) sy c all rest k K
   | .cd cd::k=>mj g9 E (run sy X stop n) (qp E X (run sy X false n)) sy stop c cd k K
end
def mkD (P:Program) (t:TypeId):TD:=match P.underlying t with
 |some .bool=> .bool
 |some (.int k)=> .int k
 |some .string=> .string
 |some (.pointer e)=> .ptr e
 |some (.slice e)=> .slice e
 |some (.array n e)=> .array n e
 |some (.struct fs)=> .struct (fs.toList.map fun f=>(f.offset,f.type))
 |some (.func _ _ _)=> .func
 |_=> .other
def uF (P:Program) (t:TypeId):Bool:=match P.underlying t with
 |some (.struct fs)=>fs.toList.all fun f=>f.name != "_"
 |_=>true
def mkZ (i:TypeInfo):Option (List PV):=match i.zero with
 | some v=>match uD (ofV 1 v) with
  |some cs=>match vt cs with
   |true=>some cs
   |false=>none
  |none=>none
 |none=>none
def yt (P:Program) (t:TypeId):TyI:=match P.info? t with
 |some i=>⟨mkD P t,i.size,i.bytes,mkZ i,!P.stoodInHeld t&& !P.eqGuardType P.depth t&&uF P t,true⟩
 |none=>⟨.other,0,0,none,false,false⟩
def zS (F:Func):FnI:=⟨F.body.getD .skip,F.ntmps,F.results.toList⟩
end Go.Ev
namespace Go.Ev
open Go.RowKit
structure RB where
 blk:Nat
 base:Nat
 cap:Nat
abbrev Sg:=Nat→Option RB
def PA.at (rb:RB) (a:PA):Addr:=⟨rb.blk,rb.base+pos a,none⟩
mutual
inductive VR (σ:Sg):PV→Value→Prop
  |unk (v:Value):VR σ .unk v
  |bool (b:Bool):VR σ (.bool b) (.bool b)
  |tf (b:Bool):VR σ (.tf b) (.bool b)
  |int (k:IntKind) (n:Int):VR σ (.int k n) (.int k n)
  |str (s:ByteArray):VR σ (.str s) (.string s)
  |ptr (a:PA) (rb:RB) (h:σ a.nm=some rb):VR σ (.ptr a) (.pointer (some (a.at rb)))
  |nilp:VR σ .nilp (.pointer none)
  |nils:VR σ .nils (.slice none 0 0)
  |emp (A:Option Addr):VR σ .emp (.slice A 0 0)
  |loose (a:PA) (n:Nat) (A:Option Addr) (c:Nat) (hc:n≤c) (h:0<n→ ∃ rb,σ a.nm=some rb∧A=some (a.at rb)):VR σ (.loose a n) (.slice A n c)
  |sl (a:PA) (n:Nat) (rb:RB) (c:Nat) (hc:n≤c) (h:σ a.nm=some rb):VR σ (.sl a n) (.slice (some (a.at rb)) n c)
  |own0 (nm st:Nat) (A:Option Addr):VR σ (.own nm st 0) (.slice A 0 0)
  |own (nm st n:Nat) (rb:RB) (c:Nat) (h:σ nm=some rb) (h0:rb.base=0) (hc:n≤c) (hr:c*st≤rb.cap):VR σ (.own nm st n) (.slice (some ⟨rb.blk,0,none⟩) n c)
  |agg (cs:List PV) (vs:Array Value) (h:VRs σ cs vs.toList):VR σ (.agg cs) (.agg vs)
  |tup (cs:List PV) (vs:Array Value) (h:VRs σ cs vs.toList):VR σ (.tup cs) (.tuple vs)
  |fn (f:Fn) (a b:List PV) (va vb:Array Value) (ha:VRs σ a va.toList) (hb:VRs σ b vb.toList):VR σ (.fn f a b) (.func f va vb)
  |nilf:VR σ .nilf .nilFunc
  |ifc (t:TypeId) (v:PV) (u:Value) (h:VR σ v u):VR σ (.ifc t v) (.iface t u)
  |nili:VR σ .nili .nilIface
  |zer (b:Bool) (A:Option Addr) (c:Nat) (h:A.isSome=b):VR σ (.zer b) (.slice A 0 c)
inductive VRs (σ:Sg):List PV→List Value→Prop
  |nil:VRs σ [] []
  |cons (v:PV) (u:Value) (l:List PV) (m:List Value) (h:VR σ v u) (hl:VRs σ l m):VRs σ (v::l) (u::m)
end
def Mono (σ τ:Sg):Prop:= ∀ n r,σ n=some r→τ n=some r
mutual
theorem VR.mono {σ τ:Sg} (m:Mono σ τ): ∀ {v u},VR σ v u→VR τ v u
  |_,_,.unk v=> .unk v
  |_,_,.bool b=> .bool b
  |_,_,.tf b=> .tf b
  |_,_,.int k n=> .int k n
  |_,_,.str s=> .str s
  |_,_,.ptr a rb h=> .ptr a rb (m _ _ h)
  |_,_,.nilp=> .nilp
  |_,_,.nils=> .nils
  |_,_,.emp A=> .emp A
  |_,_,.loose a n A c hc h=> .loose a n A c hc fun h0=>let ⟨rb,h1,h2⟩:=h h0; ⟨rb,m _ _ h1,h2⟩
  |_,_,.sl a n rb c hc h=> .sl a n rb c hc (m _ _ h)
  |_,_,.own0 nm st A=> .own0 nm st A
  |_,_,.own nm st n rb c h h0 hc hr=> .own nm st n rb c (m _ _ h) h0 hc hr
  |_,_,.agg cs vs h=> .agg cs vs (VRs.mono m h)
  |_,_,.tup cs vs h=> .tup cs vs (VRs.mono m h)
  |_,_,.fn f a b va vb ha hb=> .fn f a b va vb (VRs.mono m ha) (VRs.mono m hb)
  |_,_,.nilf=> .nilf
  |_,_,.ifc t v u h=> .ifc t v u (VR.mono m h)
  |_,_,.nili=> .nili
  |_,_,.zer b A c h=> .zer b A c h
theorem VRs.mono {σ τ:Sg} (m:Mono σ τ): ∀ {v u},VRs σ v u→VRs τ v u
  |_,_,.nil=> .nil
  |_,_,.cons v u l k h hl=> .cons v u l k (VR.mono m h) (VRs.mono m hl)
end
theorem VRs.length {σ:Sg}: ∀ {cs:List PV} {vs:List Value},VRs σ cs vs→vs.length=len cs
  |_,_,.nil=>rfl
  |_,_,.cons _ _ _ _ _ hl=>by simp [len,VRs.length hl]
theorem VRs.get {σ:Sg}: ∀ {cs:List PV} {vs:List Value},VRs σ cs vs→ ∀ {i v},nth cs i=some v→ ∃ u,vs[i]? =some u∧VR σ v u
  |_,_,.nil,i,v,h=>by simp [nth] at h
  |_,_,.cons w u l m h hl,0,v,e=>by simp only [nth,Option.some.injEq] at e; subst e; exact ⟨u,rfl,h⟩
  |_,_,.cons w u l m h hl,i+1,v,e=>by simp only [nth] at e; obtain ⟨u',h1,h2⟩:=hl.get e; exact ⟨u',by simpa using h1,h2⟩
theorem VRs.append {σ:Sg}: ∀ {a b:List PV} {u v:List Value},VRs σ a u→VRs σ b v→VRs σ (a++b) (u++v)
  |_,_,_,_,.nil,h=>h
  |_,_,_,_,.cons w u l m h hl,k=> .cons _ _ _ _ h (hl.append k)
theorem pU {σ:Sg} {v:PV} {u:Value} (h:VR σ v u) (h1:one v=true):u.oneCell'=true:=by
 cases h<;>first|rfl|simp [one] at h1
theorem wC {σ:Sg}: ∀ {cs:List PV} {vs:List Value},VRs σ cs vs→vt cs=true→ ∀ u ∈ vs,u.oneCell'=true
  |_,_,.nil,_=>by simp
  | _,_,.cons w u l m h hl,h1=>by
   simp only [vt] at h1
   cases hw:one w<;>rw [hw] at h1
   · cases h1
   · intro x hx
     rcases List.mem_cons.1 hx with rfl|hx
     · exact pU h hw
     · exact wC hl h1 x hx
def VR1 (σ:Sg) (v:PV) (u:Value):Prop:=VR σ v u∧u.oneCell'=true
theorem VR1.mono {σ τ:Sg} (m:Mono σ τ) {v:PV} {u:Value} (h:VR1 σ v u):VR1 τ v u:=⟨h.1.mono m,h.2⟩
def BlkR (σ:Sg) (w:World) (rb:RB):Blk→Prop
  | .dead=>True
  | .cells cs=> ∀ i v,nth cs i=some v→ ∃ u,w.cell? ⟨rb.blk,rb.base+i,none⟩=some u∧VR1 σ v u
  | .rows st n F=> ∀ j i,j<n→i<st→ ∃ u,w.cell? ⟨rb.blk,rb.base+pos ⟨0,st,j,i⟩,none⟩=some u∧VR1 σ (F j i) u
  | .ints k n f=> ∀ o,o<n→w.cell? ⟨rb.blk,rb.base+o,none⟩=some (.int k (f o))
  | .cols n cs=> ∀ j i c,j<n→yh cs i=some c→ ∃ u,w.cell? ⟨rb.blk,rb.base+(j*yB cs+i),none⟩=some u∧VR1 σ (zy c j) u
def EntR (σ:Sg) (w:World) (n:Nat) (e:Bool×Blk):Prop:=e.2≠ .dead→ ∀ rb,σ n=some rb→
 rb.blk<w.heap.size∧BlkR σ w rb e.2∧(e.1=true→rb.base=0∧(∀ o,(w.cell? ⟨rb.blk,o,none⟩).isSome=true→w.frozen? ⟨rb.blk,o,none⟩=false)∧ ∀ o,o<rb.cap→ ∃ u,w.cell? ⟨rb.blk,o,none⟩=some u)
structure Sim (σ:Sg) (w:World) (H:zQ):Prop where
 ent: ∀ n e,hget H n=some e→EntR σ w n e
 dist: ∀ n m b e,hget H n=some (true,b)→hget H m=some e→b≠ .dead→e.2≠ .dead→n≠m→ ∀ r s,σ n=some r→σ m=some s→r.blk≠s.blk
def OwnB (σ:Sg) (H:zQ) (k:Nat):Prop:= ∃ n b rb,hget H n=some (true,b)∧b≠ .dead∧σ n=some rb∧rb.blk=k
structure Frm (w w':World) (A B:Nat→Prop):Prop where
 os:w'.os=w.os
 tape:w'.tape=w.tape
 output:w'.output=w.output
 size:w.heap.size≤w'.heap.size
 old: ∀ k,k<w.heap.size→ ¬ A k→w'.heap[k]? =w.heap[k]?
 own: ∀ k,B k→w.heap.size≤k∨A k
structure Out (σ:Sg) (w:World) (H:zQ) (fr:Nat) (v:PV) (H':zQ) (fr':Nat) (σ':Sg) (w':World) (v':Value):Prop where
 v:VR σ' v v'
 sim:Sim σ' w' H'
 mon:Mono σ σ'
 ext: ∀ n,n<fr∨fr'≤n→σ' n=σ n
 frm:Frm w w' (OwnB σ H) (OwnB σ' H')
def NoneIn (σ:Sg) (fr fr':Nat):Prop:= ∀ n,fr≤n→n<fr'→σ n=none
theorem yM (l m:Lvl) (n:Nat):zp (l++m) n=match zp l n with|some e=>some e|none=>zp m n:=by
 induction l with
 |nil=>rfl
 |cons p l ih=>
  obtain ⟨k,e⟩:=p
  simp only [List.cons_append,zp]
  cases Nat.beq k n
  · exact ih
  · rfl
theorem xt (H:zQ) (n:Nat) (e:Bool×Blk):hget (yl H n e) n=some e:=by
 cases H<;>simp [yl,hget,zp]
theorem zi (H:zQ) (n m:Nat) (e:Bool×Blk) (h:n≠m):hget (yl H n e) m=hget H m:=by
 have:Nat.beq n m=false:=by cases hb:Nat.beq n m; rfl; exact absurd (Nat.eq_of_beq_eq_true hb) h
 cases H<;>simp [yl,hget,zp,this]
structure Grow (H H':zQ) (fr fr':Nat):Prop where
 le:fr≤fr'
 lvl: ∃ l:Lvl,(∀ h t,H=h::t→H'=(l++h)::t)∧ ∀ p ∈ l,p.1<fr'∧(p.2.1=true∨p.2.2= .dead)
 dom: ∀ n e,hget H' n=some e→(∃ e',hget H n=some e')∨(fr≤n∧n<fr')
theorem Grow.refl (H:zQ) (fr:Nat):Grow H H fr fr:=⟨Nat.le_refl _,⟨[],fun _ _ h=>h,by simp⟩,fun _ e h=> .inl ⟨e,h⟩⟩
theorem Grow.trans {A B C:zQ} {a b c:Nat} (h:Grow A B a b) (k:Grow B C b c):Grow A C a c:=by
 obtain ⟨h1,⟨l,h2,h3⟩,h4⟩:=h
 obtain ⟨k1,⟨m,k2,k3⟩,k4⟩:=k
 refine ⟨Nat.le_trans h1 k1,⟨m++l,fun g t e=> ?_,fun p hp=> ?_⟩,fun n e hn=> ?_⟩
 · rw [k2 _ _ (h2 g t e),List.append_assoc]
 · rcases List.mem_append.1 hp with hp|hp
   · exact k3 p hp
   · exact ⟨Nat.lt_of_lt_of_le (h3 p hp).1 k1,(h3 p hp).2⟩
 · rcases k4 n e hn with ⟨e',he⟩|h
   · rcases h4 n e' he with h|h
     · exact .inl h
     · exact .inr ⟨h.1,by omega⟩
   · exact .inr ⟨by omega,h.2⟩
theorem Grow.put (H:zQ) (n:Nat) (b:Blk) (w:Bool) (fr fr':Nat) (h:fr≤fr') (hn:n<fr') (hw:w=true∨b= .dead) (hd:fr≤n∨ ∃ e,hget H n=some e):Grow H (yl H n (w,b)) fr fr':=by
 refine ⟨h,⟨[(n,(w,b))],fun g t e=>by subst e; rfl,fun p hp=> ?_⟩,fun m e hm=> ?_⟩
 · simp only [List.mem_singleton] at hp
   subst hp
   exact ⟨hn,hw⟩
 · by_cases h1:n=m
   · subst h1
     exact hd.elim (fun h=> .inr ⟨h,hn⟩) .inl
   · rw [zi _ _ _ _ h1] at hm
     exact .inl ⟨e,hm⟩
theorem wk (l:Lvl) (h:Lvl) (t:zQ) (n:Nat):hget ((l++h)::t) n=match zp l n with|some e=>some e|none=>hget (h::t) n:=by
 simp only [hget,yM]
 cases zp l n<;>rfl
theorem Frm.refl (w:World) (A:Nat→Prop):Frm w w A A:=⟨rfl,rfl,rfl,Nat.le_refl _,fun _ _ _=>rfl,fun _ h=> .inr h⟩
theorem Frm.trans {a b c:World} {A B C:Nat→Prop} (h:Frm a b A B) (k:Frm b c B C):Frm a c A C where
 os:=k.os.trans h.os
 tape:=k.tape.trans h.tape
 output:=k.output.trans h.output
 size:=Nat.le_trans h.size k.size
 old i hi hA:=(k.old i (Nat.lt_of_lt_of_le hi h.size) fun hB=>by
  rcases h.own i hB with h1|h1
  · omega
  · exact hA h1).trans (h.old i hi hA)
 own i hi:=by
  rcases k.own i hi with h1|h1
  · exact .inl (Nat.le_trans h.size h1)
  · exact h.own i h1
theorem Frm.mono {a b:World} {A A' B B':Nat→Prop} (h:Frm a b A B) (hA: ∀ k,A k→A' k) (hB: ∀ k,B' k→B k):Frm a b A' B':=
 ⟨h.os,h.tape,h.output,h.size,fun i hi hn=>h.old i hi fun ha=>hn (hA i ha),fun i hi=>(h.own i (hB i hi)).imp id (hA i)⟩
theorem Frm.drew {a b:World} {A B:Nat→Prop} (h:Frm a b A B):Frm a b.drew A B:=⟨h.os,h.tape,h.output,h.size,h.old,h.own⟩
theorem Mono.refl (σ:Sg):Mono σ σ:=fun _ _ h=>h
theorem Mono.trans {a b c:Sg} (h:Mono a b) (k:Mono b c):Mono a c:=fun n r e=>k n r (h n r e)
theorem BlkR.keep {σ σ':Sg} {w w':World} {rb:RB} {b:Blk} (h:BlkR σ w rb b) (m:Mono σ σ') (e:w'.heap[rb.blk]? =w.heap[rb.blk]?):BlkR σ' w' rb b:=by
 have ce: ∀ o,w'.cell? ⟨rb.blk,o,none⟩=w.cell? ⟨rb.blk,o,none⟩:=fun o=>World.cell?_of_block (a:=⟨rb.blk,o,none⟩) e
 cases b with
 |dead=>trivial
 |cells cs=>exact fun i v hv=>let ⟨u,h1,h2⟩:=h i v hv; ⟨u,(ce _).trans h1,h2.mono m⟩
 |rows st n F=>exact fun j i hj hi=>let ⟨u,h1,h2⟩:=h j i hj hi; ⟨u,(ce _).trans h1,h2.mono m⟩
 |ints k n f=>exact fun o ho=>(ce _).trans (h o ho)
 |cols n cs=>exact fun j i c hj hi=>let ⟨u,h1,h2⟩:=h j i c hj hi; ⟨u,(ce _).trans h1,h2.mono m⟩
theorem EntR.keep {σ σ':Sg} {w w':World} {n:Nat} {e:Bool×Blk} (h:EntR σ w n e) (m:Mono σ σ') (hn:σ' n=σ n) (hs:w.heap.size≤w'.heap.size)
    (k: ∀ rb,σ n=some rb→rb.blk<w.heap.size→w'.heap[rb.blk]? =w.heap[rb.blk]?):EntR σ' w' n e:=by
  intro hd rb hrb
  rw [hn] at hrb
  obtain ⟨h1,h2,h3⟩:=h hd rb hrb
  have kb:=k rb hrb h1
  refine ⟨Nat.lt_of_lt_of_le h1 hs,h2.keep m kb,fun hw=> ?_⟩
  obtain ⟨h4,h5,h6⟩:=h3 hw
  exact ⟨h4,fun o hc=>(World.frozen?_of_block (a:=⟨rb.blk,o,none⟩) kb).trans (h5 o (by rw [← World.cell?_of_block (a:=⟨rb.blk,o,none⟩) kb]; exact hc)),fun o ho=>let ⟨u,hu⟩:=h6 o ho; ⟨u,(World.cell?_of_block (a:=⟨rb.blk,o,none⟩) kb).trans hu⟩⟩
def vr (σ:Sg) (n:Nat) (rb:RB):Sg:=fun m=>if m=n then some rb else σ m
theorem xZ {σ:Sg} {n:Nat} {rb:RB} (h:σ n=none):Mono σ (vr σ n rb):=fun m r e=>by
 unfold vr
 split
 · rename_i hm; subst hm; rw [h] at e; cases e
 · exact e
theorem yY (σ:Sg) (n:Nat) (rb:RB):vr σ n rb n=some rb:=by simp [vr]
theorem yk {σ:Sg} {n m:Nat} {rb:RB} (h:m≠n):vr σ n rb m=σ m:=by simp [vr,h]
theorem Sim.new {σ:Sg} {w w':World} {H:zQ} {n:Nat} {b:Blk} {rb:RB} (h:Sim σ w H) (hn:σ n=none) (hs:w.heap.size≤w'.heap.size)
    (hk: ∀ m e r,hget H m=some e→e.2≠ .dead→σ m=some r→r.blk≠rb.blk∧(r.blk<w.heap.size→w'.heap[r.blk]? =w.heap[r.blk]?))
    (hb:EntR (vr σ n rb) w' n (true,b)):Sim (vr σ n rb) w' (yl H n (true,b)):=by
  constructor
  · intro m e hm
    by_cases e1:n=m
    · subst e1
      rw [xt] at hm
      cases hm
      exact hb
    · rw [zi _ _ _ _ e1] at hm
      intro hd
      exact (h.ent m e hm).keep (xZ hn) (yk fun x=>e1 x.symm) hs (fun r hr hl=>(hk m e r hm hd hr).2 hl) hd
  · intro m k b' e hm hke hb' he hne r s hr hsk
    by_cases e1:n=m
    · subst e1
      rw [yY] at hr
      cases hr
      rw [zi _ _ _ _ hne] at hke
      rw [yk fun x=>hne x.symm] at hsk
      exact fun x=>(hk k e s hke he hsk).1 x.symm
    · rw [zi _ _ _ _ e1] at hm
      rw [yk fun x=>e1 x.symm] at hr
      by_cases e2:n=k
      · subst e2
        rw [yY] at hsk
        cases hsk
        exact (hk m (true,b') r hm hb' hr).1
      · rw [zi _ _ _ _ e2] at hke
        rw [yk fun x=>e2 x.symm] at hsk
        exact h.dist m k b' e hm hke hb' he hne r s hr hsk
theorem Sim.drew {σ:Sg} {w:World} {H:zQ} (h:Sim σ w H):Sim σ w.drew H:=
 ⟨fun n e hn=>(h.ent n e hn).keep (Mono.refl _) rfl (Nat.le_refl _) fun _ _ _=>rfl,h.dist⟩
theorem Sim.congr {σ:Sg} {w:World} {H H':zQ} (h:Sim σ w H) (e: ∀ n,hget H' n=hget H n):Sim σ w H':=
 ⟨fun n b hn=>h.ent n b ((e n).symm.trans hn),fun n m b k hn hm=>h.dist n m b k ((e n).symm.trans hn) ((e m).symm.trans hm)⟩
theorem OwnB.congr {σ:Sg} {H H':zQ} (e: ∀ n,hget H' n=hget H n) {k:Nat} (h:OwnB σ H' k):OwnB σ H k:=
 let ⟨n,b,rb,h1,h2⟩:=h; ⟨n,b,rb,(e n).symm.trans h1,h2⟩
theorem xg (w:World) (cs:Array Value) (t:TypeId) (i:Nat):(w.alloc (.cells cs t)).cell? ⟨w.heap.size,i,none⟩=cs[i]? :=World.cell?_alloc_new w cs t i
theorem we (w:World) (o:Obj) (k:Nat) (h:k<w.heap.size):(w.alloc o).heap[k]? =w.heap[k]? :=by
 show (w.heap.push o)[k]? =_
 rw [Array.getElem?_push,if_neg (by omega)]
theorem tk {σ:Sg} {w:World} {H:zQ} {fr:Nat} {b:Blk} {v:PV} {v':Value} (vs:Array Value) (t:TypeId) (cap:Nat) (h:Sim σ w H) (hn:NoneIn σ fr (fr+1)) (hc:cap≤vs.size)
    (hb:BlkR (vr σ fr ⟨w.heap.size,0,cap⟩) (w.alloc (.cells vs t)) ⟨w.heap.size,0,cap⟩ b)
    (hv:VR (vr σ fr ⟨w.heap.size,0,cap⟩) v v'):
    Out σ w H fr v (yl H fr (true,b)) (fr+1) (vr σ fr ⟨w.heap.size,0,cap⟩) (w.alloc (.cells vs t)) v':=by
  have h0:σ fr=none:=hn fr (Nat.le_refl _) (by omega)
  refine ⟨hv,?_,xZ h0,fun n hn=>yk (by omega),?_⟩
  · refine h.new h0 (by simp) (fun m e r hm hd' hr=>⟨?_,fun hl=>we _ _ _ hl⟩) fun _ rb hrb=> ?_
    · have:=(h.ent m e hm hd' r hr).1
      simp only
      omega
    · rw [yY] at hrb
      cases hrb
      refine ⟨by simp,hb,fun _=>⟨rfl,fun o _=>World.frozen?_alloc_new w vs t o,fun o ho=> ?_⟩⟩
      have:o<vs.size:=Nat.lt_of_lt_of_le ho hc
      exact ⟨vs[o],by rw [xg]; simp [this]⟩
  · refine ⟨rfl,rfl,rfl,by simp,fun k hk _=>we _ _ _ hk,fun k hk=> ?_⟩
    obtain ⟨n,b',rb,h1,h2,h3,h4⟩:=hk
    by_cases e1:fr=n
    · subst e1
      rw [yY] at h3
      cases h3
      exact .inl (Nat.le_of_eq h4)
    · rw [zi _ _ _ _ e1] at h1
      rw [yk fun x=>e1 x.symm] at h3
      exact .inr ⟨n,b',rb,h1,h2,h3,h4⟩
theorem Out.same {σ:Sg} {w:World} {H:zQ} {fr:Nat} {v:PV} {v':Value} (h:Sim σ w H) (hv:VR σ v v'):Out σ w H fr v H fr σ w v':=
 ⟨hv,h,Mono.refl _,fun _ _=>rfl,Frm.refl _ _⟩
end Go.Ev
namespace Go.Ev
open Go.RowKit
structure xa (P:Program) (E:Env):Prop where
 ty: ∀ t i,y6 E.ty t=some i→i=yt P t
 fs: ∀ f fn,xG E.fs f=some fn→ ∃ F,P.funcs[f]? =some F∧F.body=some fn.body∧F.ntmps=fn.nt∧F.results.toList=fn.res∧(F.name== "runtime.NumGoroutine")=false
theorem zz {b:Bool} {x:Prop} (h:cond b x False):b=true∧x:=by
 cases b
 · exact h.elim
 · exact ⟨rfl,h⟩
theorem ry {b:Bool} {x:Prop} (h:cond b False x):b=false∧x:=by
 cases b
 · exact ⟨rfl,h⟩
 · exact h.elim
section
variable {P:Program}
theorem yv {t:TypeId} (h:(yt P t).d≠ .other): ∃ I,P.info? t=some I∧(yt P t).size=I.size∧(yt P t).bytes=I.bytes∧(yt P t).zero=mkZ I∧(yt P t).d=mkD P t:=by
 unfold yt at*
 cases hi:P.info? t with
 |none=>rw [hi] at h; exact absurd rfl h
 |some I=>exact ⟨I,rfl,rfl,rfl,rfl,rfl⟩
theorem wE {t:TypeId} {z:List PV} (h:(yt P t).zero=some z): ∃ I,P.info? t=some I∧(yt P t).size=I.size∧(yt P t).bytes=I.bytes∧mkZ I=some z∧(yt P t).d=mkD P t:=by
 unfold yt at*
 cases hi:P.info? t with
 |none=>rw [hi] at h; cases h
 |some I=>rw [hi] at h; exact ⟨I,rfl,rfl,rfl,h,rfl⟩
theorem vn {t:TypeId} {k:IntKind} (h:mkD P t= .int k):P.underlying t=some (.int k):=by
 unfold mkD at h
 split at h<;>simp_all
theorem y8 {t:TypeId} (h:mkD P t= .string):P.underlying t=some .string:=by
 unfold mkD at h
 split at h<;>simp_all
theorem uo {t:TypeId} (h:mkD P t= .bool):P.underlying t=some .bool:=by
 unfold mkD at h
 split at h<;>simp_all
theorem jZ {t e:TypeId} (h:mkD P t= .ptr e):P.underlying t=some (.pointer e):=by
 unfold mkD at h
 split at h<;>simp_all
theorem ye {t e:TypeId} (h:mkD P t= .slice e):P.underlying t=some (.slice e):=by
 unfold mkD at h
 split at h<;>simp_all
theorem wD {t e:TypeId} {n:Nat} (h:mkD P t= .array n e):P.underlying t=some (.array n e):=by
 unfold mkD at h
 split at h<;>simp_all
theorem wv {t:TypeId} {fs:List (Nat×TypeId)} (h:mkD P t= .struct fs): ∃ gs,P.underlying t=some (.struct gs)∧fs=gs.toList.map fun f=>(f.offset,f.type):=by
 unfold mkD at h
 split at h<;>simp_all
theorem kg {t:TypeId} (h:mkD P t= .func): ∃ a b c,P.underlying t=some (.func a b c):=by
 unfold mkD at h
 split at h<;>simp_all
theorem vT (w:World) {t:TypeId} {b:Bool} (h:kA (yt P t).d=some b):(isAgg t).run P w= .ok b w:=by
 obtain ⟨I,hi,-,-,-,hd⟩:=yv (P:=P) (t:=t) (by intro e; rw [e] at h; cases h)
 rw [hd] at h
 have: ∃ d,P.underlying t=some d∧(match d with| .struct _| .array _ _=>true|_=>false)=b:=by
  unfold mkD kA at h
  cases hu:P.underlying t with
  |none=>rw [hu] at h; cases h
  |some d=>rw [hu] at h; cases d<;>simp_all
 obtain ⟨d,hu,hb⟩:=this
 subst hb
 cases d<;>simp [isAgg,run_underlying hu]
theorem yL (w:World) {t:TypeId} {I:TypeInfo} (h:P.info? t=some I):(sizeOf t).run P w= .ok I.size w:=by
 simp [sizeOf,typeInfo,h]
theorem jB (o x:Nat):gO o x=o+x:=by cases o<;>simp [gO]
theorem vP (x:Nat): ∀ n,pz x n=x*n
  |0=>by simp [pz]
  |1=>by simp [pz]
  |n+2=>rfl
theorem z9 (a:PA):pos a=a.off+a.ix*a.st:=by
 unfold pos
 split
 · rename_i h; rw [h]; simp
 · rename_i h; rw [h,jB,vP]
theorem wd (b o k:Nat):(⟨b,o,none⟩:Addr).add k=⟨b,o+k,none⟩:=by unfold Addr.add; split<;>simp_all
theorem v7 (rb:RB) (a:PA) (k:Nat):(a.at rb).add k=⟨rb.blk,rb.base+(pos a+k),none⟩:=by
 unfold PA.at
 rw [wd]
 simp only [Nat.add_assoc]
theorem ll {b:Blk} {a:PA} {K:PV→Prop} (h:ldB cond b a K):b≠ .dead∧ ∃ v,K v∧ ∀ σ w rb,BlkR σ w rb b→ ∃ u,w.cell? (a.at rb)=some u∧VR σ v u:=by
 cases b with
 |dead=>exact h.elim
 |cells cs=>
  simp only [ldB] at h
  cases hn:nth cs (pos a) with
  |none=>rw [hn] at h; exact h.elim
  |some v=>rw [hn] at h; exact ⟨by simp,v,h,fun σ w rb hb=>let ⟨u,h1,h2⟩:=hb _ _ hn; ⟨u,h1,h2.1⟩⟩
 |rows st n F=>
  simp only [ldB] at h
  cases h1:Nat.beq st a.st<;>cases h2:Nat.blt a.off st<;>rw [h1,h2] at h<;>try exact h.elim
  obtain ⟨h3,hk⟩:=zz h
  refine ⟨by simp,_,hk,fun σ w rb hb=> ?_⟩
  have e1:=Nat.eq_of_beq_eq_true h1
  have e2:a.off<st:=by simpa [Nat.blt_eq] using h2
  obtain ⟨u,this,hv⟩:=hb a.ix a.off (by simpa using h3) e2
  refine ⟨u,?_,hv.1⟩
  unfold PA.at
  rw [z9] at*
  simpa [e1] using this
 |ints k n f=>
  simp only [ldB] at h
  obtain ⟨h3,hk⟩:=zz h
  exact ⟨by simp,_,hk,fun σ w rb hb=>⟨_,hb _ (by simpa using h3),.int _ _⟩⟩
 | cols n cs=>
  simp only [ldB] at h
  split at h
  · rename_i c hc h1
    obtain ⟨h3,hk⟩:=zz h
    have e1:=Nat.eq_of_beq_eq_true h1
    refine ⟨by simp,_,hk,fun σ w rb hb=> ?_⟩
    obtain ⟨u,h4,h5⟩:=hb a.ix a.off c (by simpa using h3) hc
    refine ⟨u,?_,h5.1⟩
    unfold PA.at
    rw [z9,e1,Nat.add_comm a.off]
    exact h4
  · exact h.elim
theorem g5 {H:zQ} {a:PA} {K:PV→Prop} (h:ld cond H a K): ∃ v,K v∧ ∀ σ w rb,Sim σ w H→σ a.nm=some rb→ ∃ u,w.cell? (a.at rb)=some u∧VR σ v u:=by
 unfold ld at h
 cases hh:hget H a.nm with
 |none=>rw [hh] at h; exact h.elim
 |some e=>
  obtain ⟨wr,b⟩:=e
  rw [hh] at h
  obtain ⟨hd,v,hk,hv⟩:=ll h
  exact ⟨v,hk,fun σ w rb hs hr=>hv σ w rb (hs.ent _ _ hh hd rb hr).2.1⟩
theorem lZ {b:Blk}: ∀ {n:Nat} {a:PA} {K:List PV→Prop},lds cond b a n K→(n=0∨b≠ .dead)∧ ∃ vs,K vs∧len vs=n∧ ∀ σ w rb,BlkR σ w rb b→ ∃ us:List Value,VRs σ vs us∧us.length=n∧ ∀ j u,us[j]? =some u→w.cell? ⟨rb.blk,rb.base+(pos a+j),none⟩=some u
  |0,a,K,h=>⟨.inl rfl,[],h,rfl,fun σ w rb _=>⟨[],.nil,rfl,by simp⟩⟩
  | n +1,a,K,h=>by
   simp only [lds] at h
   obtain ⟨hd,v,hk,hv⟩:=ll h
   obtain ⟨_,vs,hk2,hl,hvs⟩:=lZ hk
   refine ⟨.inr hd,v::vs,hk2,by simp [len,hl],fun σ w rb hb=> ?_⟩
   obtain ⟨u,hu,hvu⟩:=hv σ w rb hb
   obtain ⟨us,h1,h2,h3⟩:=hvs σ w rb hb
   refine ⟨u::us,.cons _ _ _ _ hvu h1,by simp [h2],fun j x hx=> ?_⟩
   cases j with
   |zero=>simp at hx; subst hx; exact hu
   |succ j=>
    simp at hx
    have:=h3 j x hx
    rw [z9] at*
    simp only at this
    rw [← this]
    congr 2
    omega
theorem xB: ∀ {cs:List PV} {i n:Nat} {vs:List PV},cut cs i n=some vs→len vs=n∧ ∀ j,j<n→ ∃ v,nth cs (i+j)=some v∧nth vs j=some v
  | [],0,0,vs,h=>by simp [cut] at h; subst h; exact ⟨rfl,by simp⟩
  | [],0,n+1,vs,h=>by simp [cut] at h
  | [],i+1,n,vs,h=>by simp [cut] at h
  |v::l,0,0,vs,h=>by simp [cut] at h; subst h; exact ⟨rfl,by simp⟩
  | v ::l,0,n+1,vs,h=>by
   simp only [cut] at h
   cases hc:cut l 0 n with
   |none=>rw [hc] at h; cases h
   | some r=>
    rw [hc] at h
    cases h
    obtain ⟨h1,h2⟩:=xB hc
    refine ⟨by simp [len,h1],fun j hj=> ?_⟩
    cases j with
    |zero=>exact ⟨v,rfl,rfl⟩
    |succ j=>
     obtain ⟨x,h3,h4⟩:=h2 j (by omega)
     exact ⟨x,by simpa [nth] using h3,by simpa [nth] using h4⟩
  |v::l,i+1,n,vs,h=>by
   simp only [cut] at h
   obtain ⟨h1,h2⟩:=xB h
   refine ⟨h1,fun j hj=> ?_⟩
   obtain ⟨x,h3,h4⟩:=h2 j hj
   exact ⟨x,by rw [show i+1+j=(i+j)+1 by omega]; exact h3,h4⟩
theorem sw {σ:Sg}: ∀ (vs:List PV) (us:List Value),len vs=us.length→(∀ j v,nth vs j=some v→ ∃ u,us[j]? =some u∧VR σ v u)→VRs σ vs us
  | [],[],_,_=> .nil
  | [],u::us,h,_=>by simp [len] at h
  |v::vs,[],h,_=>by simp [len] at h
  |v::vs,u::us,h,k=>by
   obtain ⟨x,h1,h2⟩:=k 0 v rfl
   simp at h1
   subst h1
   exact .cons _ _ _ _ h2 (sw vs us (by simpa [len] using h) fun j w hw=>by simpa using k (j+1) w hw)
theorem tA: ∀ {cs:List PV} {i:Nat} {v:PV},nth cs i=some v→i<len cs
  | [],i,v,h=>by simp [nth] at h
  |_::l,0,v,h=>by simp [len]
  |_::l,i+1,v,h=>by simp only [nth] at h; have:=tA h; simp [len]; omega
theorem ig {H:zQ} {a:PA} {n:Nat} {K:List PV→Prop} (h:ldn cond H a n K): ∃ vs,K vs∧len vs=n∧ ∀ σ w rb,Sim σ w H→σ a.nm=some rb→ ∃ us:List Value,VRs σ vs us∧us.length=n∧ ∀ j u,us[j]? =some u→w.cell? ((a.at rb).add j)=some u:=by
 unfold ldn at h
 cases hh:hget H a.nm with
 |none=>rw [hh] at h; exact h.elim
 | some e=>
  obtain ⟨wr,b⟩:=e
  rw [hh] at h
  have gen:lds cond b a n K→ ∃ vs,K vs∧len vs=n∧ ∀ σ w rb,Sim σ w H→σ a.nm=some rb→ ∃ us:List Value,VRs σ vs us∧us.length=n∧ ∀ j u,us[j]? =some u→w.cell? ((a.at rb).add j)=some u:=fun h=>by
   obtain ⟨hd,vs,hk,hl,hv⟩:=lZ h
   refine ⟨vs,hk,hl,fun σ w rb hs hr=> ?_⟩
   rcases hd with rfl|hd
   · cases vs with
     |nil=>exact ⟨[],.nil,rfl,by simp⟩
     |cons=>simp [len] at hl
   · obtain ⟨us,h1,h2,h3⟩:=hv σ w rb (hs.ent _ _ hh hd rb hr).2.1
     exact ⟨us,h1,h2,fun j u hu=>by rw [v7]; exact h3 j u hu⟩
  cases b with
  | cells cs=>
   simp only at h
   cases hc:cut cs (pos a) n with
   |none=>rw [hc] at h; exact h.elim
   | some vs=>
    rw [hc] at h
    obtain ⟨h1,h2⟩:=xB hc
    refine ⟨vs,h,h1,fun σ w rb hs hr=> ?_⟩
    have hb:BlkR σ w rb (.cells cs):=(hs.ent _ _ hh (by simp) rb hr).2.1
    let us:List Value:=(List.range n).map fun j=>(w.cell? ⟨rb.blk,rb.base+(pos a+j),none⟩).getD undef
    have hus: ∀ j,j<n→ ∃ v u,nth vs j=some v∧us[j]? =some u∧VR σ v u∧w.cell? ⟨rb.blk,rb.base+(pos a+j),none⟩=some u:=fun j hj=>by
     obtain ⟨v,h3,h4⟩:=h2 j hj
     obtain ⟨u,hu,hvu⟩:=hb _ _ h3
     exact ⟨v,u,h4,by simp [us,hj,hu],hvu.1,hu⟩
    refine ⟨us,sw _ _ (by simp [us,h1]) fun j v hv=> ?_,by simp [us],fun j u hu=> ?_⟩
    · obtain ⟨v',u,e1,e2,e3,e4⟩:=hus j (by have:=tA hv; omega)
      rw [hv] at e1
      cases e1
      exact ⟨u,e2,e3⟩
    · have hj:j<n:=by have:=(List.getElem?_eq_some_iff.1 hu).1; simpa [us] using this
      obtain ⟨v',u',e1,e2,e3,e4⟩:=hus j hj
      rw [hu] at e2
      cases e2
      rw [v7]
      exact e4
  |rows st m F=>exact gen h
  |ints k m f=>exact gen h
  |cols m cs=>exact gen h
  |dead=>exact gen h
variable {E:Env} (ok:xa P E)
include ok
theorem mn {t:TypeId} {H:zQ} {a:PA} {K:PV→Prop} (h:ldv cond E t H a K): ∃ v,K v∧ ∀ σ w rb,Sim σ w H→σ a.nm=some rb→ ∃ u,(loadVar t (a.at rb)).run P w= .ok u w∧VR σ v u:=by
 unfold ldv at h
 cases ht:y6 E.ty t with
 |none=>rw [ht] at h; exact h.elim
 | some i=>
  rw [ht] at h
  have e:=ok.ty t i ht
  subst e
  unfold ldT at h
  dsimp only at h
  cases ha:kA (yt P t).d with
  |none=>rw [ha] at h; exact h.elim
  | some b=>
   rw [ha] at h
   cases b with
   |true=>
    obtain ⟨I,hi,hsz,-,-,-⟩:=yv (P:=P) (t:=t) (by intro e; rw [e] at ha; cases ha)
    obtain ⟨vs,hk,hl,hv⟩:=ig h
    refine ⟨.agg vs,hk,fun σ w rb hs hr=> ?_⟩
    obtain ⟨us,h1,h2,h3⟩:=hv σ w rb hs hr
    refine ⟨.agg us.toArray,?_,.agg _ _ (by simpa using h1)⟩
    have hl:=run_loadCells_list (P:=P) w (a.at rb) us h3
    rw [h2,hsz] at hl
    simp [loadVar,vT w ha,yL w hi,hl]
   |false=>
    obtain ⟨v,hk,hv⟩:=g5 h
    refine ⟨v,hk,fun σ w rb hs hr=> ?_⟩
    obtain ⟨u,hu,hvu⟩:=hv σ w rb hs hr
    exact ⟨u,by simp [loadVar,vT w ha,hu],hvu⟩
end
end Go.Ev
namespace Go.Ev
open Go.RowKit
theorem vf {σ:Sg} {v:PV} {u:Value} {cs:List PV} (h:VR σ v u) (hc:uD v=some cs):VRs σ cs u.cells.toList:=by
 cases h<;>simp only [uD,Option.some.injEq,reduceCtorEq] at hc<;>subst hc<;>first
   |assumption
   |exact .cons _ _ _ _ (by constructor<;>assumption) .nil
   |exact .cons _ _ _ _ (.own _ _ _ _ _ ‹_› ‹_› ‹_› ‹_›) .nil
theorem xY: ∀ {cs:List PV} {i:Nat} {vs r:List PV},xU cs i vs=some r→len r=len cs∧(vs= []∨i+len vs≤len cs)∧ ∀ j,nth r j=if i≤j∧j<i+len vs then nth vs (j-i) else nth cs j
  | [],i,[],r,h=>by simp [xU] at h; subst h; exact ⟨rfl,.inl rfl,fun j=>by rw [if_neg (by simp only [len]; omega)]⟩
  | [],i,v::vs,r,h=>by simp [xU] at h
  |x::l,0,[],r,h=>by simp [xU] at h; subst h; exact ⟨rfl,.inl rfl,fun j=>by rw [if_neg (by simp only [len]; omega)]⟩
  |x::l,i+1,[],r,h=>by simp [xU] at h; subst h; exact ⟨rfl,.inl rfl,fun j=>by rw [if_neg (by simp only [len]; omega)]⟩
  | x :: l,0,v::vs,r,h=>by
   simp only [xU] at h
   cases hs:xU l 0 vs with
   |none=>rw [hs] at h; cases h
   | some q=>
    rw [hs] at h
    cases h
    obtain ⟨h1,h2,h3⟩:=xY hs
    refine ⟨by simp [len,h1],.inr ?_,fun j=> ?_⟩
    · rcases h2 with rfl|h2
      · simp [len]
      · simp only [len] at*; omega
    · cases j with
      |zero=>simp [nth,len]
      |succ j=>
       have:=h3 j
       simp only [nth,this,len,Nat.zero_le,true_and,Nat.zero_add,Nat.sub_zero,Nat.add_lt_add_iff_right]
  | x :: l,i+1,v::vs,r,h=>by
   simp only [xU] at h
   cases hs:xU l i (v::vs) with
   |none=>rw [hs] at h; cases h
   | some q=>
    rw [hs] at h
    cases h
    obtain ⟨h1,h2,h3⟩:=xY hs
    refine ⟨by simp [len,h1],.inr ?_,fun j=> ?_⟩
    · rcases h2 with h2|h2
      · cases h2
      · simp only [len] at*; omega
    · cases j with
      |zero=>rw [if_neg (by omega)]; rfl
      |succ j=>
       have:=h3 j
       simp only [nth,this]
       by_cases hc:i≤j∧j<i+len (v::vs)
       · rw [if_pos hc,if_pos (by omega),show j+1-(i+1)=j-i by omega]
       · rw [if_neg hc,if_neg (by omega)]
theorem wM: ∀ {cs:List PV} {i:Nat},i<len cs→ ∃ v,nth cs i=some v
  | [],i,h=>by simp [len] at h
  |v::l,0,h=>⟨v,rfl⟩
  |_::l,i+1,h=>wM (cs:=l) (by simp [len] at h; omega)
theorem Sim.upd {σ:Sg} {w w':World} {H:zQ} {n:Nat} {b0 b:Blk} {rb:RB} (h:Sim σ w H) (hg:hget H n=some (true,b0)) (hd0:b0≠ .dead) (hr:σ n=some rb)
    (hs:w.heap.size≤w'.heap.size) (hk: ∀ k,k≠rb.blk→k<w.heap.size→w'.heap[k]? =w.heap[k]?) (hb:EntR σ w' n (true,b)):Sim σ w' (yl H n (true,b)):=by
  constructor
  · intro m e hm
    by_cases e1:n=m
    · subst e1
      rw [xt] at hm
      cases hm
      exact hb
    · rw [zi _ _ _ _ e1] at hm
      intro hd
      exact (h.ent m e hm).keep (Mono.refl _) rfl hs (fun r hr' hl=>hk _ (fun x=>h.dist n m b0 e hg hm hd0 hd e1 rb r hr hr' x.symm) hl) hd
  · intro m k b' e hm hke hb' he hne r s hr' hsk
    by_cases e1:n=m
    · subst e1
      rw [zi _ _ _ _ hne] at hke
      exact h.dist n k b0 e hg hke hd0 he hne r s hr' hsk
    · rw [zi _ _ _ _ e1] at hm
      by_cases e2:n=k
      · subst e2
        exact h.dist m n b' (true,b0) hm hg hb' hd0 hne r s hr' hsk
      · rw [zi _ _ _ _ e2] at hke
        exact h.dist m k b' e hm hke hb' he hne r s hr' hsk
theorem yz (b:Nat): ∀ (vs:List Value) (o:Nat) (w:World) (k:Nat),k≠b→(w.setCells b o vs).heap[k]? =w.heap[k]?
  | [],_,_,_,_=>rfl
  |v::r,o,w,k,h=>by rw [World.setCells,yz b r _ _ k h,Below.heap_setCell _ _ _ _ h]
theorem yV (b:Nat): ∀ (vs:List Value) (o:Nat) (w:World),(w.setCells b o vs).heap.size=w.heap.size
  | [],_,_=>rfl
  |v::r,o,w=>by rw [World.setCells,yV b r]; simp
theorem yf (b:Nat): ∀ (vs:List Value) (o:Nat) (w:World),(w.setCells b o vs).os=w.os∧(w.setCells b o vs).tape=w.tape∧(w.setCells b o vs).output=w.output
  | [],_,_=>⟨rfl,rfl,rfl⟩
  |_::r,o,_=>yf b r (o+1) _
theorem tx {σ:Sg} {w w':World} {H:zQ} {n fr:Nat} {b0 b:Blk} {rb:RB} {v:PV} {u:Value} (h:Sim σ w H) (hg:hget H n=some (true,b0)) (hd0:b0≠ .dead) (hr:σ n=some rb)
    (hst:w'.os=w.os∧w'.tape=w.tape∧w'.output=w.output) (hs:w'.heap.size=w.heap.size) (hk: ∀ k,k≠rb.blk→w'.heap[k]? =w.heap[k]?) (hb:EntR σ w' n (true,b)) (hv:VR σ v u):
    Out σ w H fr v (yl H n (true,b)) fr σ w' u:=by
  refine ⟨hv,h.upd hg hd0 hr (Nat.le_of_eq hs.symm) (fun k hk' _=>hk k hk') hb,Mono.refl _,fun _ _=>rfl,hst.1,hst.2.1,hst.2.2,Nat.le_of_eq hs.symm,fun k _ hk'=>hk k fun e=>hk' ⟨n,b0,rb,hg,hd0,hr,e.symm⟩,fun k hk'=> ?_⟩
  obtain ⟨m,b',r,h1,h2,h3,h4⟩:=hk'
  by_cases e1:n=m
  · subst e1
    exact .inr ⟨n,b0,r,hg,hd0,h3,h4⟩
  · rw [zi _ _ _ _ e1] at h1
    exact .inr ⟨m,b',r,h1,h2,h3,h4⟩
theorem wx {w:World} {b o q:Nat} {us:List Value} (hc: ∀ j,j<us.length→(w.cell? ⟨b,o+j,none⟩).isSome=true) (h:((w.setCells b o us).cell? ⟨b,q,none⟩).isSome=true):(w.cell? ⟨b,q,none⟩).isSome=true:=by
 by_cases hin:o≤q∧q<o+us.length
 · have:=hc (q-o) (by omega)
   rwa [show o+(q-o)=q by omega] at this
 · rwa [World.cell?_setCells_out b us o w _ (fun _ _=>by simp only; omega)] at h
theorem x7 {σ:Sg} {w:World} {n:Nat} {b0 b:Blk} {rb:RB} {o:Nat} {us:List Value} (h:EntR σ w n (true,b0)) (hd0:b0≠ .dead) (hr:σ n=some rb)
    (hc: ∀ j,j<us.length→(w.cell? ⟨rb.blk,o+j,none⟩).isSome=true) (hb:BlkR σ (w.setCells rb.blk o us) rb b):EntR σ (w.setCells rb.blk o us) n (true,b):=by
  intro _ r hr'
  rw [hr] at hr'
  cases hr'
  obtain ⟨h1,h2,h3⟩:=h hd0 rb hr
  obtain ⟨h4,h5,h6⟩:=h3 rfl
  refine ⟨by rw [yV]; exact h1,hb,fun _=>⟨h4,fun q hs=>by rw [World.frozen?_setCells]; exact h5 q (wx hc hs),fun q hq=> ?_⟩⟩
  by_cases hin:o≤q∧q<o+us.length
  · have:=World.cell?_setCells_in rb.blk us o w hc (q-o) (by omega)
    rw [show o+(q-o)=q by omega] at this
    exact ⟨_,this⟩
  · rw [World.cell?_setCells_out rb.blk us o w _ (fun _ _=>by simp only; omega)]
    exact h6 q hq
theorem wN: ∀ {cs:List Col} {i:Nat} {c:Col},yh cs i=some c→i<yB cs
  | [],i,c,h=>by simp [yh] at h
  |_::l,0,c,h=>by simp [yB]
  |_::l,i+1,c,h=>by simp only [yh] at h; have:=wN h; simp [yB]; omega
theorem xc: ∀ {cs:List Col} {i:Nat},i<yB cs→ ∃ c,yh cs i=some c
  | [],i,h=>by simp [yB] at h
  |c::l,0,h=>⟨c,rfl⟩
  |_::l,i+1,h=>xc (cs:=l) (by simp [yB] at h; omega)
theorem qQ {k k':IntKind} (h:keq k k'=true):k=k':=by cases k<;>cases k'<;>first|rfl|cases h
theorem xu {α:Type} (f:Nat→α) (o:Nat) (x:α) (j:Nat):oU f o x j=if j=o then x else f j:=by
 unfold oU
 by_cases h:j=o
 · subst h; simp
 · have:Nat.beq j o=false:=by cases hb:Nat.beq j o; rfl; exact absurd (Nat.eq_of_beq_eq_true hb) h
   simp [this,h]
theorem jQ {σ:Sg} {o:Nat} {c d:Col} {v:PV} (h:k9 o c v=some d):(∀ j,j≠o→zy d j=zy c j)∧ ∀ u,VR1 σ v u→VR1 σ (zy d o) u:=by
 unfold k9 at h
 split at h
 · split at h
   · rename_i hk
     cases qQ hk
     cases h
     exact ⟨fun j hj=>by simp only [zy,xu,hj,if_false],fun u hu=>by simpa only [zy,xu,if_true] using hu⟩
   · cases h
 · cases h
   exact ⟨fun j hj=>by simp only [zy,xu,hj,if_false],fun u hu=>by simpa only [zy,xu,if_true] using hu⟩
 · cases h
   exact ⟨fun j hj=>by simp only [zy,xu,hj,if_false],fun u hu=>by
    simp only [zy,xu,if_true]
    have:=hu.1
    cases this
    exact ⟨.bool _,hu.2⟩⟩
 · cases h
   exact ⟨fun j hj=>by simp only [zy,xu,hj,if_false],fun u hu=>by simpa only [zy,xu,if_true] using hu⟩
 · split at h
   · cases h
     exact ⟨fun j hj=>by simp only [zy,xu,hj,if_false],fun u hu=>by simpa only [zy,xu,if_true] using hu⟩
   · cases h
 · cases h
theorem sX {σ:Sg} {o:Nat}: ∀ {cs ds:List Col} {k:Nat} {vs:List PV},x6 o cs k vs=some ds→yB ds=yB cs∧(vs= []∨k+len vs≤yB cs)∧ ∀ i d,yh ds i=some d→ ∃ c,yh cs i=some c∧(∀ j,j≠o→zy d j=zy c j)∧(if k≤i∧i<k+len vs then ∃ v,nth vs (i-k)=some v∧ ∀ u,VR1 σ v u→VR1 σ (zy d o) u else d=c)
  |cs,ds,k,[],h=>by
   have e:ds=cs:=by cases cs<;>cases k<;>simp [x6] at h<;>first|exact h|exact h.symm
   subst e
   refine ⟨rfl,.inl rfl,fun i d hd=>⟨d,hd,fun _ _=>rfl,?_⟩⟩
   rw [if_neg (by have:len []=0:=rfl; omega)]
  | [],ds,k,v::vs,h=>by simp [x6] at h
  | c :: cs,ds,0,v::vs,h=>by
   simp only [x6] at h
   split at h
   · rename_i d0 ds0 h1 h2
     cases h
     obtain ⟨q1,q2,q3⟩:=sX (σ:=σ) h2
     obtain ⟨p1,p2⟩:=jQ (σ:=σ) h1
     refine ⟨by simp [yB,q1],.inr ?_,fun i d hd=> ?_⟩
     · rcases q2 with rfl|q2
       · simp [len,yB]
       · simp [len,yB]; omega
     · cases i with
       |zero=>
        simp only [yh,Option.some.injEq] at hd
        subst hd
        refine ⟨c,rfl,p1,?_⟩
        rw [if_pos (by simp [len])]
        exact ⟨v,rfl,p2⟩
       | succ i=>
        simp only [yh] at hd
        obtain ⟨c',r1,r2,r3⟩:=q3 i d hd
        refine ⟨c',r1,r2,?_⟩
        by_cases hi:0≤i∧i<0+len vs
        · rw [if_pos hi] at r3
          rw [if_pos (by simp [len]; omega)]
          exact r3
        · rw [if_neg hi] at r3
          rw [if_neg (by simp [len]; omega)]
          exact r3
   · cases h
  | c :: cs,ds,k+1,v::vs,h=>by
   simp only [x6] at h
   split at h
   · rename_i ds0 h2
     cases h
     obtain ⟨q1,q2,q3⟩:=sX (σ:=σ) h2
     refine ⟨by simp [yB,q1],.inr ?_,fun i d hd=> ?_⟩
     · rcases q2 with q2|q2
       · cases q2
       · simp [yB]; omega
     · cases i with
       |zero=>
        simp only [yh,Option.some.injEq] at hd
        subst hd
        refine ⟨c,rfl,fun _ _=>rfl,?_⟩
        rw [if_neg (by omega)]
       | succ i=>
        simp only [yh] at hd
        obtain ⟨c',r1,r2,r3⟩:=q3 i d hd
        refine ⟨c',r1,r2,?_⟩
        by_cases hi:k≤i∧i<k+len (v::vs)
        · rw [if_pos hi] at r3
          rw [if_pos (by omega),show i+1-(k+1)=i-k by omega]
          exact r3
        · rw [if_neg hi] at r3
          rw [if_neg (by omega)]
          exact r3
   · cases h
section
variable {P:Program}
theorem xP {w:World} {rb:RB} {a:PA} {us:List Value} (h0:rb.base=0) (hc: ∀ j,j<us.length→(w.cell? ⟨rb.blk,pos a+j,none⟩).isSome=true) (hf: ∀ o,(w.cell? ⟨rb.blk,o,none⟩).isSome=true→w.frozen? ⟨rb.blk,o,none⟩=false) (h1: ∀ u ∈ us,u.oneCell'=true):
    (storeCells (a.at rb) us).run P w= .ok () (w.setCells rb.blk (pos a) us):=by
  have:=run_storeCells_cells (P:=P) rb.blk (pos a) us 0 w (by simpa using hc) (fun j hj=>hf _ (by simpa using hc j hj)) h1
  unfold PA.at
  rw [h0,Nat.zero_add]
  simpa using this
theorem iY {H : zQ} {a : PA} {vs:List PV} {K:zQ→Prop} (fr:Nat) (h:stn cond H a vs K): ∃ b,K (yl H a.nm (true,b))∧(∃ e,hget H a.nm=some e)∧ ∀ σ w rb us,Sim σ w H→σ a.nm=some rb→VRs σ vs us→
 ∃ w',(storeCells (a.at rb) us).run P w= .ok () w'∧Out σ w H fr .unk (yl H a.nm (true,b)) fr σ w' undef:=by
 unfold stn at h
 cases hh:hget H a.nm with
 |none=>rw [hh] at h; exact h.elim
 | some e =>
  obtain ⟨wr,b0⟩:=e
  rw [hh] at h
  cases wr with
  |false=>exact h.elim
  | true =>
   simp only at h
   cases b0 with
   |dead=>exact h.elim
   |rows st n F=>exact h.elim
   | cells cs=>
    simp only [stB] at h
    cases h1:vt vs<;>rw [h1] at h
    · exact h.elim
    · simp only at h
      cases h2:xU cs (pos a) vs with
      |none=>rw [h2] at h; exact h.elim
      | some cs'=>
       rw [h2] at h
       refine ⟨_,h,⟨_,rfl⟩,fun σ w rb us hs hr hv=> ?_⟩
       have hd0:Blk.cells cs≠ .dead:=by simp
       obtain ⟨e1,e2,e3⟩:=hs.ent _ _ hh hd0 rb hr
       obtain ⟨e4,e5,e6⟩:=e3 rfl
       obtain ⟨s1,s2,s3⟩:=xY h2
       have hl:=hv.length
       have hc: ∀ j,j<us.length→(w.cell? ⟨rb.blk,pos a+j,none⟩).isSome=true:=fun j hj=>by
        have:pos a+j<len cs:=by
         rcases s2 with rfl|s2
         · simp [len] at hl; subst hl; simp at hj
         · omega
        obtain ⟨v,hv'⟩:=wM this
        obtain ⟨u,hu,_⟩:=e2 _ _ hv'
        rw [e4,Nat.zero_add] at hu
        simp [hu]
       refine ⟨_,xP e4 hc e5 (wC hv h1),?_⟩
       refine tx hs hh hd0 hr (yf _ _ _ _) (yV _ _ _ _) (fun k hk=>yz _ _ _ _ _ hk) ?_ (.unk _)
       refine x7 (hs.ent _ _ hh) hd0 hr hc fun i v hi=> ?_
       have hi2:=s3 i
       rw [hi] at hi2
       rw [e4,Nat.zero_add]
       by_cases hin:pos a≤i∧i<pos a+len vs
       · rw [if_pos hin] at hi2
         obtain ⟨u,hu,hvu⟩:=hv.get hi2.symm
         have hlt:i-pos a<us.length:=by omega
         have:=World.cell?_setCells_in rb.blk us (pos a) w hc (i-pos a) hlt
         rw [show pos a+(i-pos a)=i by omega] at this
         rw [List.getElem?_eq_getElem hlt] at hu
         cases hu
         exact ⟨_,this,hvu,wC hv h1 _ (List.getElem_mem hlt)⟩
       · rw [if_neg hin] at hi2
         rw [World.cell?_setCells_out rb.blk us (pos a) w _ (fun _ _=>by simp only; omega)]
         have:=e2 _ _ hi2.symm
         rwa [e4,Nat.zero_add] at this
   | ints k n f=>
    simp only [stB] at h
    match vs,h with
    | [.int k' x],h=>
     simp only at h
     cases h1:keq k k'<;>rw [h1] at h
     · exact h.elim
     · simp only at h
       obtain ⟨h2,hk⟩:=zz h
       have h2:pos a<n:=by simpa using h2
       have hkk:k=k':=by cases k<;>cases k'<;>simp_all [keq]
       subst hkk
       refine ⟨_,hk,⟨_,rfl⟩,fun σ w rb us hs hr hv=> ?_⟩
       have hd0:Blk.ints k n f≠ .dead:=by simp
       obtain ⟨e1,e2,e3⟩:=hs.ent _ _ hh hd0 rb hr
       obtain ⟨e4,e5,e6⟩:=e3 rfl
       cases hv with
       |cons _ u _ m hvu hl=>
       cases hl
       cases hvu
       have hc: ∀ j,j< [Value.int k x].length→(w.cell? ⟨rb.blk,pos a+j,none⟩).isSome=true:=fun j hj=>by
        have:j=0:=by simp at hj; exact hj
        subst this
        have:=e2 _ h2
        rw [e4,Nat.zero_add] at this
        simp [this]
       refine ⟨_,xP e4 hc e5 (by simp [Value.oneCell']),?_⟩
       refine tx hs hh hd0 hr (yf _ _ _ _) (yV _ _ _ _) (fun k hk=>yz _ _ _ _ _ hk) ?_ (.unk _)
       refine x7 (hs.ent _ _ hh) hd0 hr hc fun o ho=> ?_
       rw [e4,Nat.zero_add]
       by_cases hin:o=pos a
       · subst hin
         have:=World.cell?_setCells_in rb.blk [Value.int k x] (pos a) w hc 0 (by simp)
         simpa [upd] using this
       · rw [World.cell?_setCells_out rb.blk _ (pos a) w _ (fun _ _=>by simp; omega)]
         have hb:Nat.beq o (pos a)=false:=by cases hb:Nat.beq o (pos a); rfl; exact absurd (Nat.eq_of_beq_eq_true hb) hin
         have:=e2 _ ho
         rw [e4,Nat.zero_add] at this
         simpa [upd,hb] using this
    | [],h=>exact h.elim
    | [.unk],h| [.bool _],h| [.tf _],h| [.str _],h| [.ptr _],h| [.nilp],h| [.nils],h| [.emp],h| [.loose _ _],h| [.sl _ _],h| [.own _ _ _],h| [.agg _],h| [.tup _],h| [.fn _ _ _],h| [.nilf],h| [.ifc _ _],h| [.nili],h| [.zer _],h=>exact h.elim
    |x::_::_,h=>cases x<;>exact h.elim
   | cols n cs =>
    simp only [stB] at h
    cases h1:Nat.beq a.st (yB cs)<;>rw [h1] at h
    · exact h.elim
    · cases h2 : x6 a.ix cs a.off vs with
      |none=>rw [h2] at h; exact h.elim
      | some cs' =>
       rw [h2] at h
       obtain ⟨h3,hk⟩:=zz h
       have h3:a.ix<n:=by simpa using h3
       have e1:=Nat.eq_of_beq_eq_true h1
       refine ⟨_,hk,⟨_,rfl⟩,fun σ w rb us hs hr hv=> ?_⟩
       have hd0:Blk.cols n cs≠ .dead:=by simp
       obtain ⟨f1,f2,f3⟩:=hs.ent _ _ hh hd0 rb hr
       obtain ⟨e4,e5,e6⟩:=f3 rfl
       obtain ⟨q1,q2,q3⟩:=sX (σ:=σ) h2
       have hl:=hv.length
       have hpos:pos a=a.ix*yB cs+a.off:=by rw [z9,e1,Nat.add_comm]
       have hcell: ∀ j i,j<n→i<yB cs→ ∃ c u,yh cs i=some c∧w.cell? ⟨rb.blk,j*yB cs+i,none⟩=some u∧VR1 σ (zy c j) u:=fun j i hj hi=>by
        obtain ⟨c,hc⟩:=xc hi
        obtain ⟨u,h4,h5⟩:=f2 j i c hj hc
        rw [e4,Nat.zero_add] at h4
        exact ⟨c,u,hc,h4,h5⟩
       have hc: ∀ j,j<us.length→(w.cell? ⟨rb.blk,pos a+j,none⟩).isSome=true:=fun j hj=>by
        have:a.off+j<yB cs:=by
         rcases q2 with rfl|q2
         · simp [len] at hl; subst hl; simp at hj
         · omega
        obtain ⟨c,u,_,h4,_⟩:=hcell a.ix (a.off+j) h3 this
        rw [hpos,Nat.add_assoc,h4]
        rfl
       have hones : ∀ u ∈ us,u.oneCell'=true:=by
        have gen : ∀ (vs:List PV) (us:List Value) (k:Nat) (cs cs':List Col),x6 a.ix cs k vs=some cs'→VRs σ vs us→ ∀ u ∈ us,u.oneCell'=true:=by
         intro vs
         induction vs with
         |nil=>intro us k cs cs' _ hv u hu; cases hv; cases hu
         | cons v vs ih=>
          intro us k cs cs' hU hv u hu
          cases hv with
          |cons _ x _ m hvx hvl=>
          have step: ∀ (k:Nat) (cs cs':List Col),x6 a.ix cs k (v::vs)=some cs'→one v=true∧ ∃ cs2 cs3,x6 a.ix cs2 0 vs=some cs3:=by
           intro k
           induction k with
           | zero=>
            intro cs cs' hU
            cases cs with
            |nil=>simp [x6] at hU
            | cons c cs=>
             simp only [x6] at hU
             split at hU
             · rename_i d ds h6 h7
               refine ⟨?_,_,_,h7⟩
               unfold k9 at h6
               split at h6<;>first|rfl|(split at h6<;>first|assumption|cases h6)|cases h6
             · cases hU
           | succ k ihk=>
            intro cs cs' hU
            cases cs with
            |nil=>simp [x6] at hU
            |cons c cs=>
             simp only [x6] at hU
             split at hU
             · rename_i ds h7; exact ihk _ _ h7
             · cases hU
          obtain ⟨s1,cs2,cs3,s2⟩:=step k cs cs' hU
          rcases List.mem_cons.1 hu with rfl|hu
          · exact pU hvx s1
          · exact ih m 0 cs2 cs3 s2 hvl u hu
        exact gen vs us a.off cs cs' h2 hv
       refine ⟨_,xP e4 hc e5 hones,?_⟩
       refine tx hs hh hd0 hr (yf _ _ _ _) (yV _ _ _ _) (fun k hk=>yz _ _ _ _ _ hk) ?_ (.unk _)
       refine x7 (hs.ent _ _ hh) hd0 hr hc fun j i d hj hd=> ?_
       rw [q1,e4,Nat.zero_add]
       have hi:i<yB cs:=by have:=wN hd; omega
       obtain ⟨c,r1,r2,r3⟩:=q3 i d hd
       by_cases hin:j=a.ix∧a.off≤i∧i<a.off+len vs
       · obtain ⟨rfl,h5,h6⟩:=hin
         rw [if_pos ⟨h5,h6⟩] at r3
         obtain ⟨v,hv1,hv2⟩:=r3
         obtain ⟨u,hu,hvu⟩:=hv.get hv1
         have hlt:i-a.off<us.length:=by omega
         have:=World.cell?_setCells_in rb.blk us (pos a) w hc (i-a.off) hlt
         rw [show pos a+(i-a.off)=a.ix*yB cs+i by omega] at this
         rw [List.getElem?_eq_getElem hlt] at hu
         cases hu
         exact ⟨_,this,hv2 _ ⟨hvu,hones _ (List.getElem_mem hlt)⟩⟩
       · have hne: ∀ q,q<us.length→j*yB cs+i≠pos a+q:=fun q hq e=>by
          rw [hpos] at e
          have h7:a.off+q<yB cs:=by
           rcases q2 with rfl|q2
           · simp [len] at hl; subst hl; simp at hq
           · omega
          have h8:j=a.ix:=by
           have e2:(j*yB cs+i) / yB cs=(a.ix*yB cs+(a.off+q)) / yB cs:=by rw [e,Nat.add_assoc]
           rw [Nat.mul_comm,Nat.mul_add_div (by omega),Nat.div_eq_of_lt hi,Nat.mul_comm,Nat.mul_add_div (by omega),Nat.div_eq_of_lt h7] at e2
           omega
          subst h8
          exact hin ⟨rfl,by omega,by omega⟩
         rw [World.cell?_setCells_out rb.blk us (pos a) w _ (fun _ _=>by
          simp only
          rcases Nat.lt_or_ge (j*yB cs+i) (pos a) with h9|h9
          · exact .inl h9
          · exact .inr (Nat.le_of_not_lt fun hlt=>hne (j*yB cs+i-pos a) (by omega) (by omega)))]
         have hold:zy d j=zy c j∨d=c:=by
          by_cases hji:j=a.ix
          · right
            rw [if_neg (fun hh=>hin ⟨hji,hh⟩)] at r3
            exact r3
          · exact .inl (r2 j hji)
         have e2:zy d j=zy c j:=by rcases hold with h|h; exact h; rw [h]
         rw [e2]
         have:=f2 j i c hj r1
         rwa [e4,Nat.zero_add] at this
theorem p5 (σ:Sg): ∀ (n:Nat) (v:Value),VR σ (ofV n v) v:=by
 intro n
 induction n with
 |zero=>intro v; unfold ofV; split<;>first|(cases ‹0=_+1›)|constructor
 | succ n ih=>
  intro v
  unfold ofV
  split <;>first
    | (rename_i m cs hm; obtain rfl:n=m:=by omega
       exact .agg _ _ (by
        generalize cs.toList=l
        induction l with
        |nil=>exact .nil
        |cons x l ihl=>exact .cons _ _ _ _ (ih x) ihl))
    |constructor
theorem ux {I:TypeInfo} {z:List PV} (h:mkZ I=some z): ∃ v,I.zero=some v∧vt z=true∧ ∀ σ,VRs σ z v.cells.toList:=by
 unfold mkZ at h
 cases hz:I.zero with
 |none=>rw [hz] at h; cases h
 | some v=>
  rw [hz] at h
  simp only at h
  cases hp:uD (ofV 1 v) with
  |none=>rw [hp] at h; cases h
  | some cs=>
   rw [hp] at h
   simp only at h
   cases ho:vt cs<;>rw [ho] at h
   · cases h
   · cases h
     exact ⟨v,rfl,ho,fun σ=>vf (p5 σ 1 v) hp⟩
theorem rN {σ:Sg} {w:World} {cs:List PV} {vs:Array Value} {t:TypeId} {cap:Nat} (h:VRs σ cs vs.toList) (ho:vt cs=true):BlkR σ (w.alloc (.cells vs t)) ⟨w.heap.size,0,cap⟩ (.cells cs):=by
 intro i v hi
 obtain ⟨u,h1,h2⟩:=h.get hi
 exact ⟨u,by rw [Nat.zero_add,xg]; simpa using h1,h2,wC h ho u (List.mem_of_getElem? h1)⟩
theorem rO {σ:Sg} {w:World} {H:zQ} {fr:Nat} {cs:List PV} {v:Value} (t:TypeId) (hs:Sim σ w H) (hn:NoneIn σ fr (fr+1)) (h:VRs σ cs v.cells.toList) (ho:vt cs=true):
    (newVar t v).run P w= .ok ⟨w.heap.size,0,none⟩ (w.alloc (.cells v.cells t))∧ ∃ σ',Out σ w H fr (.ptr ⟨fr,0,0,0⟩) (yl H fr (true,.cells cs)) (fr+1) σ' (w.alloc (.cells v.cells t)) (.pointer (some ⟨w.heap.size,0,none⟩)):=by
  refine ⟨by simp [newVar,newRow],_,tk v.cells t v.cells.size hs hn (Nat.le_refl _) (rN (h.mono (xZ (hn fr (Nat.le_refl _) (by omega)))) ho) ?_⟩
  have:=VR.ptr (σ:=vr σ fr ⟨w.heap.size,0,v.cells.size⟩) ⟨fr,0,0,0⟩ ⟨w.heap.size,0,v.cells.size⟩ (yY _ _ _)
  simpa [PA.at,pos] using this
end
end Go.Ev
namespace Go.Ev
open Go.RowKit
theorem pP (off:Nat): ∀ (l:List Value) (k:Nat) (arr:Array Value),((l.zipIdx k).foldl (fun cs (p:Value×Nat)=>cs.setIfInBounds (off+p.2) p.1) arr).size=arr.size∧
 ∀ i,((l.zipIdx k).foldl (fun cs (p:Value×Nat)=>cs.setIfInBounds (off+p.2) p.1) arr)[i]? =if off+k≤i∧i<off+k+l.length∧i<arr.size then l[i-(off+k)]? else arr[i]?
 | [],k,arr=>⟨rfl,fun i=>by rw [if_neg (by simp; omega)]; rfl⟩
 | v :: l,k,arr=>by
  simp only [List.zipIdx_cons,List.foldl_cons]
  obtain ⟨h1,h2⟩:=pP off l (k+1) (arr.setIfInBounds (off+k) v)
  refine ⟨by rw [h1]; simp,fun i=> ?_⟩
  rw [h2 i]
  simp only [Array.size_setIfInBounds,List.length_cons]
  by_cases hc:off+(k+1)≤i∧i<off+(k+1)+l.length∧i<arr.size
  · rw [if_pos hc,if_pos (by omega)]
    rw [show i-(off+k)=(i-(off+(k+1)))+1 by omega]
    simp
  · rw [if_neg hc]
    by_cases e:i=off+k
    · subst e
      by_cases hb:off+k<arr.size
      · rw [if_pos (by omega)]
        simp [hb]
      · rw [if_neg (by omega)]
        simp [hb]
    · rw [if_neg (by omega),Array.getElem?_setIfInBounds_ne (fun x=>e x.symm)]
inductive PRs (σ:Sg):List (Nat×PV)→List (Nat×Value)→Prop
  |nil:PRs σ [] []
  |cons (i:Nat) (v:PV) (u:Value) (l:List (Nat×PV)) (m:List (Nat×Value)) (h:VR σ v u) (hl:PRs σ l m):PRs σ ((i,v)::l) ((i,u)::m)
theorem tl {σ :Sg} {place:Nat→Option (Nat×Nat)}: ∀ {l:List (Nat×PV)} {m:List (Nat×Value)} {cs cs':List PV} {arr:Array Value},PRs σ l m→VRs σ cs arr.toList→vw place cs l=some cs'→
 ∃ arr',Instr.fill place arr m=some arr'∧VRs σ cs' arr'.toList
 |_,_,cs,cs',arr,.nil,hc,h=>by simp [vw] at h; subst h; exact ⟨arr,rfl,hc⟩
 | _, _, cs, cs',arr,.cons i v u l m hv hl,hc,h=>by
  unfold vw at h
  split at h
  · rename_i off size vs hp hpc
    split at h
    · rename_i h1 h2 h0
      split at h
      · rename_i cs1 h3
        have hvs:=vf hv hpc
        have hlv:=hvs.length
        have hlc:=hc.length
        have hsz:u.cells.size=size:=by
         have:=Nat.eq_of_beq_eq_true h1
         rw [← this,← hlv]
         rfl
        obtain ⟨s1,s2,s3⟩:=xY h3
        obtain ⟨g1,g2⟩:=pP off u.cells.toList 0 arr
        have e1:u.cells.toList.length=len vs:=hlv
        have e2:arr.size=len cs:=hlc
        have hbig: ¬ off+u.cells.size>arr.size:=by
         have:=Nat.le_of_ble_eq_true h0
         omega
        have hfold:(u.cells.zipIdx.foldl (fun cs (p:Value×Nat)=>cs.setIfInBounds (off+p.2) p.1) arr)=((u.cells.toList.zipIdx 0).foldl (fun cs (p:Value×Nat)=>cs.setIfInBounds (off+p.2) p.1) arr):=by
         rw [← Array.foldl_toList,Array.toList_zipIdx]
        have hc1:VRs σ cs1 ((u.cells.toList.zipIdx 0).foldl (fun cs (p:Value×Nat)=>cs.setIfInBounds (off+p.2) p.1) arr).toList:=by
         refine sw _ _ (by rw [s1,← hlc]; simpa using g1.symm) fun j x hx=> ?_
         have e3:=s3 j
         rw [hx] at e3
         simp only [Array.getElem?_toList,g2,Nat.add_zero]
         by_cases hin:off≤j∧j<off+len vs
         · rw [if_pos hin] at e3
           rw [if_pos (by have:=tA hx; omega)]
           simpa using hvs.get e3.symm
         · rw [if_neg hin] at e3
           rw [if_neg (by omega)]
           have:=hc.get e3.symm
           simpa using this
        obtain ⟨arr',q1,q2⟩:=tl hl hc1 h
        refine ⟨arr',?_,q2⟩
        simp only [Instr.fill,hp]
        rw [if_neg (by simp [hsz]; omega)]
        rw [← q1,← hfold]
      · cases h
    · cases h
  · cases h
theorem sF {σ:Sg} {T:yC} {ρ:Operand→Value}: ∀ (l:List (Nat×Operand)),(∀ p ∈ l,VR σ (ev T p.2) (ρ p.2))→PRs σ (tQ T l) (l.map fun (i,x)=>(i,ρ x))
  | [],_=> .nil
  |(i,x)::l,h=> .cons _ _ _ _ _ (h (i,x) (by simp)) (sF l fun p hp=>h p (by simp [hp]))
theorem tE {σ:Sg} {T:yC} {ρ:Operand→Value}: ∀ (l:List Operand),(∀ x ∈ l,VR σ (ev T x) (ρ x))→VRs σ (evs T l) (l.map ρ)
  | [],_=> .nil
  |x::l,h=> .cons _ _ _ _ (h x (by simp)) (tE l fun p hp=>h p (by simp [hp]))
theorem po {σ:Sg} {z:List PV} {vs:List Value} (h:VRs σ z vs): ∀ n,VRs σ (rep z n) (List.replicate n vs).flatten
  |0=> .nil
  |n+1=>by
   simp only [rep,List.replicate_succ,List.flatten_cons]
   exact h.append (po h n)
theorem rk (z:Array Value) (n:Nat) (hz:0<z.size):((Array.range (n*z.size)).map (z[· % z.size]!)).toList=(List.replicate n z.toList).flatten:=by
 induction n with
 |zero=>simp
 | succ n ih=>
  rw [List.replicate_succ']
  simp only [List.flatten_append,List.flatten_cons,List.flatten_nil,List.append_nil]
  rw [← ih]
  apply List.ext_getElem?
  intro j
  have hs:(n+1)*z.size=n*z.size+z.size:=by rw [Nat.add_mul,Nat.one_mul]
  by_cases hj:j<n*z.size
  · rw [List.getElem?_append_left (by simpa using hj)]
    simp [hj,show j<(n+1)*z.size by omega]
  · rw [List.getElem?_append_right (by simpa using hj)]
    by_cases hk:j<(n+1)*z.size
    · have hm:j % z.size=j-n*z.size:=by
       have e:j=(j-n*z.size)+n*z.size:=by omega
       conv=>lhs; rw [e]
       rw [Nat.add_mul_mod_self_right,Nat.mod_eq_of_lt (by omega)]
      simp [hk,hm]
      rw [getElem!_pos z (j-n*z.size) (by omega)]
      simp [show j-n*z.size<z.size by omega]
    · simp [hk]
      omega
section
variable {P:Program}
theorem pS {α β:Type} (f:α→Sem β) (g:α→β) (w:World): ∀ (l:List α),(∀ x ∈ l,(f x).run P w= .ok (g x) w)→(l.mapM f).run P w= .ok (l.map g) w
  | [],_=>rfl
  |x::l,h=>by
   rw [List.mapM_cons]
   simp [h x (by simp),pS f g w l fun y hy=>h y (by simp [hy])]
variable {E:Env} (ok:xa P E)
include ok
theorem pZ {t:TypeId} {i:TyI} (h:y6 E.ty t=some i) (hk:i.known=true): ∃ I,P.info? t=some I∧i.size=I.size:=by
 have e:=ok.ty t i h
 subst e
 unfold yt at*
 cases hi:P.info? t with
 |none=>rw [hi] at hk; cases hk
 |some I=>rw [hi] at hk; exact ⟨I,rfl,rfl⟩
theorem xm {t:TypeId} {n:Nat} (h:szT E t=some n): ∃ I,P.info? t=some I∧I.size=n:=by
 unfold szT at h
 split at h
 · rename_i j hj
   split at h
   · rename_i hk
     obtain ⟨I,h1,h2⟩:=pZ ok hj hk
     cases h
     exact ⟨I,h1,h2.symm⟩
   · cases h
 · cases h
theorem tP: ∀ {l:List (Nat×TypeId)},uk E l=true→ ∀ p ∈ l,∃ i I,y6 E.ty p.2=some i∧P.info? p.2=some I∧i.size=I.size
  | [],_,p,hp=>by simp at hp
  | (o, t)::l,h,p,hp=>by
   simp only [uk] at h
   split at h
   · rename_i i hi
     split at h
     · rename_i hk
       rcases List.mem_cons.1 hp with rfl|hp
       · obtain ⟨I,h1,h2⟩:=pZ ok hi hk
         exact ⟨i,I,hi,h1,h2⟩
       · exact tP h p hp
     · cases h
   · cases h
omit ok in
theorem uQ: ∀ (fs:List (Nat×TypeId)) (i:Nat),mH fs i=fs[i]?
  | [],i=>by simp [mH]
  |f::l,0=>rfl
  |f::l,i+1=>by simp only [mH]; simpa using uQ l i
theorem nv {H:zQ} {fr:Nat} {t:TypeId} {ps:List (Nat×PV)} {K:Kon} (h:oH E H fr t ps K): ∃ v,K v H fr∧ ∀ σ w (qs:Array (Nat×Value)),PRs σ ps qs.toList→ ∃ u,(Instr.build t qs).run P w= .ok u w∧VR σ v u:=by
 unfold oH at h
 split at h
 · exact h.elim
 rename_i i hi
 split at h
 · exact h.elim
 rename_i z hz
 have e:=ok.ty t i hi
 subst e
 obtain ⟨I,hI,-,-,hzI,hd⟩:=wE hz
 obtain ⟨zv,hzv,hz1,hz2⟩:=ux hzI
 split at h
 · rename_i fs hfs
   split at h
   · rename_i cs hk hcs
     rw [hd] at hfs
     obtain ⟨gs,hu,rfl⟩:=wv hfs
     refine ⟨_,h,fun σ w qs hq=> ?_⟩
     have hall:=tP ok hk
     have hrun:(gs.mapM fun f=>(do pure (f.offset,← sizeOf f.type):Sem (Nat×Nat))).run P w= .ok (gs.map fun f=>(f.offset,P.cellsOf f.type)) w:=by
      rw [Array.mapM_eq_mapM_toList]
      simp only [Sem.run_map]
      rw [pS _ (fun f=>(f.offset,P.cellsOf f.type)) w gs.toList fun f hf=>by
       obtain ⟨j,J,h1,h2,h3⟩:=hall (f.offset,f.type) (by simp; exact ⟨f,by simpa using hf,rfl,rfl⟩)
       simp [yL w h2,Program.cellsOf,h2]]
      simp only [Result.andThen_ok]
      congr 1
      apply Array.ext'
      simp
     have hpl:u6 E (gs.toList.map fun f=>(f.offset,f.type))=fun i=>(gs.map fun f=>(f.offset,P.cellsOf f.type))[i]? :=by
      funext i
      unfold u6
      rw [uQ]
      cases hg:gs.toList[i]? with
      |none=>simp at hg; simp [hg]
      | some f=>
       have hm:f ∈ gs.toList:=List.mem_of_getElem? hg
       obtain ⟨j,J,h1,h2,h3⟩:=hall (f.offset,f.type) (by simp; exact ⟨f,by simpa using hm,rfl,rfl⟩)
       have hs:szT E f.type=some J.size:=by
        unfold szT
        rw [h1]
        have e:=ok.ty _ _ h1
        subst e
        unfold yt at*
        rw [h2]
       simp only [List.getElem?_map,hg,Option.map_some,hs]
       simp at hg
       simp [hg,Program.cellsOf,h2]
     rw [hpl] at hcs
     obtain ⟨arr,q1,q2⟩:=tl hq (hz2 σ) hcs
     refine ⟨.agg arr,?_,.agg _ _ q2⟩
     have hz0:(zeroValue t).run P w= .ok zv w:=by simp [zeroValue,typeInfo,hI,hzv]
     simp only [Instr.build,Sem.run_bind,hz0,run_underlying hu,hrun,Result.andThen_ok]
     rw [q1]
     rfl
   · exact h.elim
 · rename_i n e hfs
   split at h
   · rename_i j hj
     split at h
     · rename_i cs hcs
       rw [hd] at hfs
       have hu:=wD hfs
       refine ⟨_,h,fun σ w qs hq=> ?_⟩
       obtain ⟨J,hJ,hsz⟩:=xm ok hj
       rw [← hsz] at hcs
       obtain ⟨arr,q1,q2⟩:=tl hq (hz2 σ) hcs
       refine ⟨.agg arr,?_,.agg _ _ q2⟩
       have hz0:(zeroValue t).run P w= .ok zv w:=by simp [zeroValue,typeInfo,hI,hzv]
       simp only [Instr.build,Sem.run_bind,hz0,run_underlying hu,yL w hJ,Result.andThen_ok]
       rw [q1]
       rfl
     · exact h.elim
   · exact h.elim
 · exact h.elim
end
end Go.Ev
namespace Go.Ev
open Go.RowKit
section
variable {P:Program} {E:Env} (ok:xa P E)
include ok
theorem vS {σ:Sg} {w:World} {t:TypeId} {cs:List PV} {arr:Array Value} {off:Nat} {v:PV} (hc:VRs σ cs arr.toList) (h:part E t cs off=some v): ∃ u,(Go.part t arr off).run P w= .ok u w∧VR σ v u:=by
 unfold part at h
 split at h
 · rename_i i hi
   have e:=ok.ty t i hi
   subst e
   split at h
   · rename_i ha
     split at h
     · rename_i vs hv
       cases h
       obtain ⟨I,hI,hsz,-,-,-⟩:=yv (P:=P) (t:=t) (by intro e; rw [e] at ha; cases ha)
       obtain ⟨h1,h2⟩:=xB hv
       refine ⟨.agg (arr.extract off (off+I.size)),by simp [Go.part,vT w ha,yL w hI],.agg _ _ ?_⟩
       have hl:=hc.length
       have hl':arr.size=len cs:=hl
       rw [hsz] at h1
       have hroom:off+I.size≤arr.size∨I.size=0:=by
        by_cases h0:I.size=0
        · exact .inr h0
        · obtain ⟨x,h3,_⟩:=h2 (I.size-1) (by omega)
          have:=tA h3
          omega
       refine sw _ _ (by simp; omega) fun j x hx=> ?_
       have hj:=tA hx
       obtain ⟨y,h3,h4⟩:=h2 j (by omega)
       rw [hx] at h4
       cases h4
       obtain ⟨u,h5,h6⟩:=hc.get h3
       refine ⟨u,?_,h6⟩
       simp only [Array.getElem?_toList] at h5 ⊢
       rw [Array.getElem?_extract]
       rw [if_pos (by omega)]
       exact h5
     · cases h
   · rename_i ha
     obtain ⟨u,h1,h2⟩:=hc.get h
     refine ⟨u,?_,h2⟩
     simp only [Array.getElem?_toList] at h1
     simp [Go.part,vT w ha,h1]
   · cases h
 · cases h
theorem nf {H:zQ} {fr:Nat} {s:TypeId} {v:PV} {f:Nat} {K:Kon} (h:p8 E H fr s v f K): ∃ r,K r H fr∧ ∀ σ w u,VR σ v u→ ∃ x,(Instr.field s u f).run P w= .ok x w∧VR σ r x:=by
 unfold p8 at h
 split at h
 · rename_i cs i hi
   have e:=ok.ty s i hi
   subst e
   split at h
   · rename_i fs hfs
     split at h
     · rename_i off t hn
       split at h
       · rename_i r hr
         obtain ⟨I,hI,-,-,-,hd⟩:=yv (P:=P) (t:=s) (by intro e; rw [e] at hfs; cases hfs)
         rw [hd] at hfs
         obtain ⟨gs,hu,rfl⟩:=wv hfs
         refine ⟨r,h,fun σ w u hv=> ?_⟩
         cases hv with
         |agg _ vs hvs=>
         obtain ⟨x,h1,h2⟩:=vS ok (w:=w) hvs hr
         refine ⟨x,?_,h2⟩
         rw [uQ] at hn
         simp only [List.getElem?_map,Option.map_eq_some_iff,Prod.mk.injEq] at hn
         obtain ⟨g,hg,e1,e2⟩:=hn
         simp only [Array.getElem?_toList] at hg
         simp [Instr.field,run_underlying hu,hg,asAgg,e1,e2,h1]
       · exact h.elim
     · exact h.elim
   · exact h.elim
 · exact h.elim
omit ok in
theorem pb {H:zQ} {fr:Nat} {v:PV} {i:Nat} {K:Kon} (h:sT H fr v i K): ∃ r,K r H fr∧ ∀ σ w u,VR σ v u→ ∃ x,(Instr.extract u i).run P w= .ok x w∧VR σ r x:=by
 unfold sT at h
 split at h
 · split at h
   · rename_i vs v hv
     refine ⟨_,h,fun σ w u hu=> ?_⟩
     cases hu with
     |tup _ us hus=>
     obtain ⟨x,h1,h2⟩:=hus.get hv
     refine ⟨x,?_,h2⟩
     simp only [Array.getElem?_toList] at h1
     simp [Instr.extract,h1]
   · exact h.elim
 · exact h.elim
theorem mM {fs:List (Nat×TypeId)} {i off n:Nat} (h:u6 E fs i=some (off,n)): ∃ t I,fs[i]? =some (off,t)∧P.info? t=some I∧I.size=n:=by
 unfold u6 at h
 split at h
 · rename_i o t hn
   split at h
   · rename_i m hj
     simp only [Option.some.injEq,Prod.mk.injEq] at h
     obtain ⟨rfl,rfl⟩:=h
     rw [uQ] at hn
     obtain ⟨I,h1,h2⟩:=xm ok hj
     exact ⟨t,I,hn,h1,h2⟩
   · cases h
 · cases h
theorem s9 {H:zQ} {fr:Nat} {s:TypeId} {v:PV} {f:Nat} {K:Kon} (h:uA E H fr s v f K): ∃ r,K r H fr∧ ∀ σ w u,VR σ v u→ ∃ x,(Instr.fieldAt s u f).run P w= .ok x w∧VR σ r x:=by
 unfold uA at h
 split at h
 · rename_i a i hi
   have e:=ok.ty s i hi
   subst e
   split at h
   · rename_i fs hfs
     split at h
     · rename_i off n hn
       obtain ⟨I,hI,-,-,-,hd⟩:=yv (P:=P) (t:=s) (by intro e; rw [e] at hfs; cases hfs)
       rw [hd] at hfs
       obtain ⟨gs,hu,rfl⟩:=wv hfs
       obtain ⟨t,J,h1,h2,h3⟩:=mM ok hn
       refine ⟨_,h,fun σ w u hv=> ?_⟩
       cases hv with
       |ptr _ rb hr=>
       refine ⟨.pointer (some ((⟨a.nm,a.st,a.ix,off+a.off⟩:PA).at rb)),?_,.ptr _ rb hr⟩
       simp only [List.getElem?_map,Option.map_eq_some_iff,Prod.mk.injEq] at h1
       obtain ⟨g,hg,e1,e2⟩:=h1
       simp only [Array.getElem?_toList] at hg
       subst e2
       simp only [Instr.fieldAt,Sem.run_bind,run_underlying hu,Result.andThen_ok,hg,Instr.sureAddr,Sem.run_pure,fieldPlace,yL w h2,h3]
       simp [PA.at,wd,z9,e1,Nat.add_comm,Nat.add_left_comm,Nat.add_assoc]
     · exact h.elim
   · exact h.elim
 · exact h.elim
omit ok in
theorem wO {σ:Sg} {v:PV} {u:Value} {a:PA} {n:Nat} (h:y9 v=some (a,n)) (hv:VR σ v u): ∃ A c,u= .slice A n c∧n≤c∧(0<n→ ∃ rb,σ a.nm=some rb∧A=some (a.at rb)):=by
 cases hv<;>simp only [y9,Option.some.injEq,Prod.mk.injEq,reduceCtorEq] at h
 case loose b m A c hc hk=>obtain ⟨rfl,rfl⟩:=h; exact ⟨A,c,rfl,hc,hk⟩
 case sl b m rb c hc hk=>obtain ⟨rfl,rfl⟩:=h; exact ⟨_,c,rfl,hc,fun _=>⟨rb,hk,rfl⟩⟩
 case own0 nm st A=>obtain ⟨rfl,rfl⟩:=h; exact ⟨A,0,rfl,Nat.le_refl _,fun h=>absurd h (by omega)⟩
 case own nm st m rb c hr h0 hc hk=>
  obtain ⟨rfl,rfl⟩:=h
  refine ⟨_,c,rfl,hc,fun _=>⟨rb,hr,?_⟩⟩
  simp [PA.at,h0,z9]
theorem rA {H:zQ} {fr:Nat} {t:TypeId} {x ix:PV} {K:Kon} (h:uE cond E H fr t x ix K): ∃ r,K r H fr∧ ∀ σ w u iu,VR σ x u→VR σ ix iu→ ∃ y,(Instr.indexAt t u iu).run P w= .ok y w∧VR σ r y:=by
 unfold uE at h
 split at h
 · rename_i ti k i hti
   have e:=ok.ty t ti hti
   subst e
   split at h
   · rename_i n e hd0
     split at h
     · rename_i a sz hj
       obtain ⟨hc,h⟩:=zz h
       have hc:0≤i∧i<n:=by simpa using hc
       obtain ⟨I,hI,-,-,-,hd⟩:=yv (P:=P) (t:=t) (by intro e; rw [e] at hd0; cases hd0)
       rw [hd] at hd0
       have hu:=wD hd0
       obtain ⟨J,hJ,hsz⟩:=xm ok hj
       refine ⟨_,h,fun σ w u iu hx hi=> ?_⟩
       cases hi
       cases hx with
       |ptr _ rb hr=>
       refine ⟨.pointer (some ((⟨a.nm,a.st,a.ix,pz i.toNat sz+a.off⟩:PA).at rb)),?_,.ptr _ rb hr⟩
       simp only [Instr.indexAt,asIntOf,Sem.run_bind,run_underlying hu,Result.andThen_ok,Instr.sureAddr,Sem.run_pure,pure_bind]
       simp only [hc,and_self,if_true,Sem.run_bind,yL w hJ,Result.andThen_ok,Sem.run_pure,hsz]
       simp [PA.at,wd,z9,vP,Nat.add_comm,Nat.add_left_comm,Nat.add_assoc]
     · exact h.elim
   · rename_i e hd0
     split at h
     · rename_i a n sz hs hj
       split at h
       · rename_i hst
         obtain ⟨hc,h⟩:=zz h
         have hc:0≤i∧i<n:=by simpa using hc
         have hst:=Nat.eq_of_beq_eq_true hst
         obtain ⟨I,hI,-,-,-,hd⟩:=yv (P:=P) (t:=t) (by intro e; rw [e] at hd0; cases hd0)
         rw [hd] at hd0
         have hu:=ye hd0
         obtain ⟨J,hJ,hsz⟩:=xm ok hj
         refine ⟨_,h,fun σ w u iu hx hi=> ?_⟩
         cases hi
         obtain ⟨A,c,rfl,hnc,hA⟩:=wO hs hx
         obtain ⟨rb,hr,rfl⟩:=hA (by omega)
         refine ⟨.pointer (some ((⟨a.nm,a.st,i.toNat+a.ix,a.off⟩:PA).at rb)),?_,.ptr _ rb hr⟩
         simp only [Instr.indexAt,asIntOf,Sem.run_bind,run_underlying hu,Result.andThen_ok,Sem.run_pure,pure_bind]
         simp only [hc,and_self,if_true,Sem.run_bind,yL w hJ,Result.andThen_ok,Sem.run_pure,hsz,← hst]
         simp [PA.at,wd,z9,Nat.add_mul,Nat.add_comm,Nat.add_left_comm,Nat.add_assoc]
       · exact h.elim
     · exact h.elim
   · exact h.elim
 · exact h.elim
theorem mI {H:zQ} {fr:Nat} {t:TypeId} {x ix:PV} {K:Kon} (h:p7 cond E H fr t x ix K): ∃ r,K r H fr∧ ∀ σ w u iu,VR σ x u→VR σ ix iu→ ∃ y,(Instr.index t u iu).run P w= .ok y w∧VR σ r y:=by
 unfold p7 at h
 split at h
 · rename_i ti cs k i hti
   have e:=ok.ty t ti hti
   subst e
   split at h
   · rename_i n e hd0
     split at h
     · rename_i sz hj
       obtain ⟨hc,h⟩:=zz h
       have hc:0≤i∧i<n:=by simpa using hc
       split at h
       · rename_i v hv
         obtain ⟨I,hI,-,-,-,hd⟩:=yv (P:=P) (t:=t) (by intro e; rw [e] at hd0; cases hd0)
         rw [hd] at hd0
         have hu:=wD hd0
         obtain ⟨J,hJ,hsz⟩:=xm ok hj
         refine ⟨v,h,fun σ w u iu hx hi=> ?_⟩
         cases hi
         cases hx with
         |agg _ vs hvs=>
         obtain ⟨y,h1,h2⟩:=vS ok (w:=w) hvs hv
         refine ⟨y,?_,h2⟩
         simp only [Instr.index,asIntOf,Sem.run_bind,run_underlying hu,Result.andThen_ok,Sem.run_pure,pure_bind]
         simp only [hc,and_self,if_true,Sem.run_bind,yL w hJ,Result.andThen_ok,hsz,h1]
       · exact h.elim
     · exact h.elim
   · exact h.elim
 · rename_i ti s k i hti
   have e:=ok.ty t ti hti
   subst e
   split at h
   · rename_i hd0
     obtain ⟨hc,h⟩:=zz h
     have hc:0≤i∧i<s.size:=by simpa using hc
     obtain ⟨I,hI,-,-,-,hd⟩:=yv (P:=P) (t:=t) (by intro e; rw [e] at hd0; cases hd0)
     rw [hd] at hd0
     have hu:=y8 hd0
     refine ⟨_,h,fun σ w u iu hx hi=> ?_⟩
     cases hi
     cases hx
     have hlt:i.toNat<s.size:=by omega
     refine ⟨_,?_,.int _ _⟩
     simp only [Instr.index,asIntOf,Sem.run_bind,run_underlying hu,Result.andThen_ok,Sem.run_pure,pure_bind]
     have e1:s[i.toNat]? =some s[i.toNat]:=getElem?_pos s i.toNat hlt
     have e2:s.data.toList.getD i.toNat 0=s[i.toNat]:=by
      have hl:i.toNat<s.data.toList.length:=hlt
      rw [List.getD_eq_getElem?_getD,List.getElem?_eq_getElem hl]
      rfl
     simp [hc,e1,oI,e2]
     rfl
   · exact h.elim
 · exact h.elim
end
end Go.Ev
namespace Go.Ev
open Go.RowKit
section
variable {P:Program}
theorem wJ {k k':IntKind} (h:keq k k'=true):k=k':=by cases k<;>cases k'<;>first|rfl|cases h
theorem jk (k:IntKind) (n:Int) (h:k.min≤n∧n≤k.max):k.wrap n=n:=by
 cases k
 · exact IntWalk.i8_in n (by simpa [IntKind.min,IntKind.max,IntKind.signed,IntKind.bits] using h)
 · exact IntWalk.i16_in n (by simpa [IntKind.min,IntKind.max,IntKind.signed,IntKind.bits] using h)
 · exact IntWalk.i32_in n (by simpa [IntKind.min,IntKind.max,IntKind.signed,IntKind.bits] using h)
 · exact IntWalk.i64_in n (by simpa [IntKind.min,IntKind.max,IntKind.signed,IntKind.bits] using h)
 · exact IntWalk.u8_in n (by simpa [IntKind.min,IntKind.max,IntKind.signed,IntKind.bits] using h)
 · exact IntWalk.u16_in n (by simpa [IntKind.min,IntKind.max,IntKind.signed,IntKind.bits] using h)
 · exact IntWalk.u32_in n (by simpa [IntKind.min,IntKind.max,IntKind.signed,IntKind.bits] using h)
 · exact IntWalk.u64_in n (by simpa [IntKind.min,IntKind.max,IntKind.signed,IntKind.bits] using h)
theorem wc {k:IntKind} {n:Int} (h:lim k n=true):k.wrap n=n:=jk k n (by simpa [lim] using h)
theorem xr {w:World} {k:IntKind} {n:Int} {y:Nat} {c:BoundsCode} (h:0≤n∧n≤y):(Instr.sliceBound (.int k n) y c).run P w= .ok n.toNat w:=by
 simp [Instr.sliceBound,asIntOf,h]
theorem xo {w:World} (isS:Bool) (n c:Nat) (lo hi:Option Value) (l h:Option Int) (hl: ∀ v,lo=some v→ ∃ k m,l=some m∧v= .int k m) (hl0:lo=none→l=none) (hh: ∀ v,hi=some v→ ∃ k m,h=some m∧v= .int k m) (hh0:hi=none→h=none)
    (hc:n≤c) (b:0≤l.getD 0∧l.getD 0≤h.getD n∧h.getD n≤n):(Instr.sliceBounds isS n c lo hi none).run P w= .ok ((l.getD 0).toNat,(h.getD n).toNat,c) w:=by
  cases hi with
  | none=>
   have e:=hh0 rfl
   subst e
   simp only [Option.getD_none] at b
   cases lo with
   |none=>
    have e:=hl0 rfl
    subst e
    simp [Instr.sliceBounds]
   |some v=>
    obtain ⟨k,m,rfl,rfl⟩:=hl v rfl
    simp only [Option.getD_some] at b
    simp [Instr.sliceBounds,xr (P:=P) (w:=w) (k:=k) (n:=m) (y:=n) (by omega)]
  | some v=>
   obtain ⟨k,m,rfl,rfl⟩:=hh v rfl
   simp only [Option.getD_some] at b
   cases lo with
   |none=>
    have e:=hl0 rfl
    subst e
    simp only [Option.getD_none] at b
    simp [Instr.sliceBounds,xr (P:=P) (w:=w) (k:=k) (n:=m) (y:=c) (by omega)]
   |some v=>
    obtain ⟨k',m',rfl,rfl⟩:=hl v rfl
    simp only [Option.getD_some] at b
    simp [Instr.sliceBounds,xr (P:=P) (w:=w) (k:=k) (n:=m) (y:=c) (by omega),xr (P:=P) (w:=w) (k:=k') (n:=m') (y:=m.toNat) (by omega)]
theorem vO {σ:Sg} {T:yC} {ρ:Operand→Value} {o:Option Operand} {l:Option Int} (h:sa T o=some l) (hρ: ∀ x,o=some x→VR σ (ev T x) (ρ x)):
    (∀ v,o.map ρ=some v→ ∃ k m,l=some m∧v= .int k m)∧(o.map ρ=none→l=none):=by
  cases o with
  |none=>simp [sa] at h; subst h; simp
  |some x=>
   have hv:=hρ x rfl
   simp only [sa] at h
   cases hx:ev T x<;>rw [hx] at h<;>try (cases h; done)
   rename_i k n
   simp only [Option.some.injEq] at h
   subst h
   rw [hx] at hv
   generalize hu:ρ x=u at hv
   cases hv
   exact ⟨fun v hv=>⟨k,n,rfl,by simpa [hu] using hv.symm⟩,by simp⟩
variable {E:Env} (ok:xa P E)
include ok
theorem sW {H:zQ} {fr:Nat} {t e:TypeId} {x:PV} {l h:Option Int} {K:Kon} (hu:P.underlying t=some (.slice e)) (hk:tm cond E H fr e x l h K): ∃ r,K r H fr∧ ∀ σ w u lo hi,VR σ x u→(∀ v,lo=some v→ ∃ k m,l=some m∧v= .int k m)→(lo=none→l=none)→(∀ v,hi=some v→ ∃ k m,h=some m∧v= .int k m)→(hi=none→h=none)→
 ∃ y,(Instr.sliceAt t u lo hi none).run P w= .ok y w∧VR σ r y:=by
 unfold tm at hk
 split at hk
 · rename_i a n sz hs hj
   split at hk
   · rename_i hst
     obtain ⟨hb,hk⟩:=zz hk
     have hb:0≤l.getD 0∧l.getD 0≤h.getD n∧h.getD n≤n:=by simpa using hb
     have hst:=Nat.eq_of_beq_eq_true hst
     obtain ⟨J,hJ,hsz⟩:=xm ok hj
     refine ⟨_,hk,fun σ w u lo hi hx h1 h2 h3 h4=> ?_⟩
     obtain ⟨A,c,rfl,hnc,hA⟩:=wO hs hx
     refine ⟨.slice (if c=(l.getD 0).toNat then A else A.map (·.add ((l.getD 0).toNat*J.size))) ((h.getD n).toNat-(l.getD 0).toNat) (c-(l.getD 0).toNat),?_,.loose _ _ _ _ (by omega) fun h0=> ?_⟩
     · simp [Instr.sliceAt,Instr.slice,run_underlying hu,xo true n c lo hi l h h1 h2 h3 h4 hnc hb,yL w hJ]
     · obtain ⟨rb,hr,rfl⟩:=hA (by omega)
       refine ⟨rb,hr,?_⟩
       rw [if_neg (by omega),hsz,← hst]
       simp [PA.at,wd,z9,Nat.add_mul,Nat.add_comm,Nat.add_left_comm,Nat.add_assoc]
   · exact hk.elim
 · exact hk.elim
theorem oO {H:zQ} {fr:Nat} {t e:TypeId} {nm st n:Nat} {h:Option Int} {K:Kon} (hu:P.underlying t=some (.slice e)) (hk:qX cond E H fr e nm st n h K): ∃ r,K r H fr∧ ∀ σ w u lo hi,VR σ (.own nm st n) u→(∀ v,lo=some v→ ∃ k m,(none:Option Int)=some m∧v= .int k m)→(lo=none→(none:Option Int)=none)→(∀ v,hi=some v→ ∃ k m,h=some m∧v= .int k m)→(hi=none→h=none)→
 ∃ y,(Instr.sliceAt t u lo hi none).run P w= .ok y w∧VR σ r y:=by
 unfold qX at hk
 split at hk
 · rename_i sz hs
   split at hk
   · rename_i hst
     obtain ⟨hb,hk⟩:=zz hk
     have hb:0≤h.getD n∧h.getD n≤n:=by simpa using hb
     obtain ⟨J,hJ,hsz⟩:=xm ok hs
     refine ⟨_,hk,fun σ w u lo hi hx h1 h2 h3 h4=> ?_⟩
     cases hx with
     |own0 _ _ A=>
      have e0:(h.getD ((0:Nat):Int)).toNat=0:=by omega
      rw [e0]
      have hbo:=xo (P:=P) (w:=w) true 0 0 lo hi none h h1 h2 h3 h4 (Nat.le_refl _) ⟨by simp,by simpa using hb.1,hb.2⟩
      have e1:h.getD ((0:Nat):Int)=0:=by omega
      rw [e1] at hbo
      exact ⟨.slice A 0 0,by simp [Instr.sliceAt,Instr.slice,run_underlying hu,hbo,yL w hJ],.own0 _ _ A⟩
     |own _ _ _ rb c hr h0 hc hcap=>
      have hbo:=xo (P:=P) (w:=w) true n c lo hi none h h1 h2 h3 h4 hc ⟨by simp,by simpa using hb.1,hb.2⟩
      refine ⟨.slice (some ⟨rb.blk,0,none⟩) (h.getD n).toNat c,?_,.own _ _ _ rb c hr h0 (by omega) hcap⟩
      simp [Instr.sliceAt,Instr.slice,run_underlying hu,hbo,yL w hJ,Addr.add]
   · exact hk.elim
 · exact hk.elim
theorem oX {H:zQ} {fr:Nat} {t:TypeId} {x:PV} {l h:Option Int} {K:Kon} (hk:ru cond E H fr t x l h K): ∃ r,K r H fr∧ ∀ σ w u lo hi,VR σ x u→(∀ v,lo=some v→ ∃ k m,l=some m∧v= .int k m)→(lo=none→l=none)→(∀ v,hi=some v→ ∃ k m,h=some m∧v= .int k m)→(hi=none→h=none)→
 ∃ y,(Instr.sliceAt t u lo hi none).run P w= .ok y w∧VR σ r y:=by
 unfold ru at hk
 split at hk
 · exact hk.elim
 rename_i ti hti
 have e:=ok.ty t ti hti
 subst e
 have hd:(yt P t).d≠ .other→(yt P t).d=mkD P t:=fun h=>let ⟨_,_,_,_,_,h⟩:=yv h; h
 split at hk
 · rename_i s hd0
   obtain ⟨hb,hk⟩:=zz hk
   have hb:0≤l.getD 0∧l.getD 0≤h.getD s.size∧h.getD s.size≤s.size:=by simpa using hb
   have hu:=y8 ((hd (by simp [hd0])).symm.trans hd0)
   refine ⟨_,hk,fun σ w u lo hi hx h1 h2 h3 h4=> ?_⟩
   cases hx
   exact ⟨_,by simp [Instr.sliceAt,Instr.slice,run_underlying hu,xo false s.size s.size lo hi l h h1 h2 h3 h4 (Nat.le_refl _) hb],.str _⟩
 · rename_i n e a hd0
   split at hk
   · rename_i sz hs
     obtain ⟨hb,hk⟩:=zz hk
     have hb:0≤l.getD 0∧l.getD 0≤h.getD n∧h.getD n≤n:=by simpa using hb
     have hu:=wD ((hd (by simp [hd0])).symm.trans hd0)
     obtain ⟨J,hJ,hsz⟩:=xm ok hs
     refine ⟨_,hk,fun σ w u lo hi hx h1 h2 h3 h4=> ?_⟩
     cases hx with
     |ptr _ rb hr=>
     refine ⟨.slice (some (if n=(l.getD 0).toNat then a.at rb else (a.at rb).add ((l.getD 0).toNat*J.size))) ((h.getD n).toNat-(l.getD 0).toNat) (n-(l.getD 0).toNat),?_,.loose _ _ _ _ (by omega) fun h0=>⟨rb,hr,?_⟩⟩
     · simp [Instr.sliceAt,run_underlying hu,Instr.sureAddr,xo false n n lo hi l h h1 h2 h3 h4 (Nat.le_refl _) hb,yL w hJ]
     · rw [if_neg (by omega),hsz]
       simp [PA.at,wd,z9,Nat.add_comm,Nat.add_left_comm,Nat.add_assoc]
   · exact hk.elim
 · rename_i e hd0
   split at hk
   · rename_i sz hs
     obtain ⟨hb,hk⟩:=zz hk
     have hb:l.getD 0=0∧h.getD 0=0:=by simpa using hb
     have hu:=ye ((hd (by simp [hd0])).symm.trans hd0)
     obtain ⟨J,hJ,hsz⟩:=xm ok hs
     refine ⟨_,hk,fun σ w u lo hi hx h1 h2 h3 h4=> ?_⟩
     cases hx
     have hbo:=xo (P:=P) (w:=w) true 0 0 lo hi l h h1 h2 h3 h4 (Nat.le_refl _) ⟨by omega,by first|(simp; done)|(simp; omega),by first|(simp; done)|(simp; omega)⟩
     have e2:h.getD ((0:Nat):Int)=0:=hb.2
     rw [hb.1,e2] at hbo
     exact ⟨_,by simp [Instr.sliceAt,Instr.slice,run_underlying hu,hbo,yL w hJ],.nils⟩
   · exact hk.elim
 · rename_i e hd0
   split at hk
   · rename_i sz hs
     obtain ⟨hb,hk⟩:=zz hk
     have hb:l.getD 0=0∧h.getD 0=0:=by simpa using hb
     have hu:=ye ((hd (by simp [hd0])).symm.trans hd0)
     obtain ⟨J,hJ,hsz⟩:=xm ok hs
     refine ⟨_,hk,fun σ w u lo hi hx h1 h2 h3 h4=> ?_⟩
     cases hx
     have hbo:=xo (P:=P) (w:=w) true 0 0 lo hi l h h1 h2 h3 h4 (Nat.le_refl _) ⟨by omega,by first|(simp; done)|(simp; omega),by first|(simp; done)|(simp; omega)⟩
     have e2:h.getD ((0:Nat):Int)=0:=hb.2
     rw [hb.1,e2] at hbo
     exact ⟨_,by simp [Instr.sliceAt,Instr.slice,run_underlying hu,hbo,yL w hJ]; rfl,.emp _⟩
   · exact hk.elim
 · rename_i e nm st n hd0
   have hu:=ye ((hd (by simp [hd0])).symm.trans hd0)
   split at hk
   · exact oO ok hu hk
   · exact sW ok hu hk
 · rename_i e v hd0 hn1 hn2 hn3
   exact sW ok (ye ((hd (by simp [hd0])).symm.trans hd0)) hk
 · exact hk.elim
omit ok in
theorem vH {w:World} {n c:Nat} {k k':IntKind}:(Instr.sliceBounds true n c none (some (.int k 0)) (some (.int k' 0))).run P w= .ok (0,0,0) w:=by
 simp [Instr.sliceBounds,xr (P:=P) (w:=w) (k:=k') (n:=0) (y:=c) (by omega),xr (P:=P) (w:=w) (k:=k) (n:=0) (y:=0) (by omega)]
theorem px {H:zQ} {fr:Nat} {t:TypeId} {x:PV} {l:Option Int} {h c:Int} {K:Kon} (hk:qS cond E H fr t x l h c K):l=none∧ ∃ r,K r H fr∧ ∀ σ w u k k',VR σ x u→
 ∃ y,(Instr.sliceAt t u none (some (.int k h)) (some (.int k' c))).run P w= .ok y w∧VR σ r y:=by
 unfold qS at hk
 split at hk
 · rename_i ti hti
   have e:=ok.ty t ti hti
   subst e
   refine ⟨rfl,?_⟩
   split at hk
   · rename_i e hd0
     split at hk
     · rename_i sz hs
       have hd:(yt P t).d≠ .other→(yt P t).d=mkD P t:=fun h=>let ⟨_,_,_,_,_,h⟩:=yv h; h
       have hu:=ye ((hd (by simp [hd0])).symm.trans hd0)
       obtain ⟨J,hJ,hsz⟩:=xm ok hs
       split at hk
       · obtain ⟨hb,hk⟩:=zz hk
         obtain ⟨rfl,rfl⟩:h=0∧c=0:=by simpa using hb
         refine ⟨_,hk,fun σ w u k k' hx=> ?_⟩
         cases hx
         exact ⟨_,by simp [Instr.sliceAt,Instr.slice,run_underlying hu,vH,yL w hJ],.nils⟩
       · obtain ⟨hb,hk⟩:=zz hk
         obtain ⟨rfl,rfl⟩:h=0∧c=0:=by simpa using hb
         refine ⟨_,hk,fun σ w u k k' hx=> ?_⟩
         cases hx
         exact ⟨_,by simp [Instr.sliceAt,Instr.slice,run_underlying hu,vH,yL w hJ]; rfl,.emp _⟩
       · split at hk
         · rename_i p hs
           obtain ⟨hb,hk⟩:=zz hk
           obtain ⟨rfl,rfl⟩:h=0∧c=0:=by simpa using hb
           refine ⟨_,hk,fun σ w u k k' hx=> ?_⟩
           obtain ⟨A,c,rfl,hnc,hA⟩:=wO hs hx
           exact ⟨_,by simp [Instr.sliceAt,Instr.slice,run_underlying hu,vH,yL w hJ]; rfl,.emp _⟩
         · exact hk.elim
     · exact hk.elim
   · exact hk.elim
 · exact hk.elim
theorem mA {T:yC} {H:zQ} {fr:Nat} {t:TypeId} {x:Operand} {lo hi mx:Option Operand} {K:Kon} (hk:pr cond E T H fr t x lo hi mx K): ∃ r,K r H fr∧ ∀ σ w (ρ:Operand→Value),VR σ (ev T x) (ρ x)→(∀ y,lo=some y→VR σ (ev T y) (ρ y))→(∀ y,hi=some y→VR σ (ev T y) (ρ y))→(∀ y,mx=some y→VR σ (ev T y) (ρ y))→
 ∃ y,(Instr.sliceAt t (ρ x) (lo.map ρ) (hi.map ρ) (mx.map ρ)).run P w= .ok y w∧VR σ r y:=by
 unfold pr at hk
 split at hk
 · rename_i l h hl hh
   obtain ⟨r,h1,h2⟩:=oX ok hk
   refine ⟨r,h1,fun σ w ρ hx hlo hhi _=> ?_⟩
   obtain ⟨a1,a2⟩:=vO hl hlo
   obtain ⟨b1,b2⟩:=vO hh hhi
   exact h2 σ w (ρ x) (lo.map ρ) (hi.map ρ) hx a1 a2 b1 b2
 · rename_i l h m hl hh
   split at hk
   · rename_i k c hm
     obtain ⟨rfl,r,h1,h2⟩:=px ok hk
     refine ⟨r,h1,fun σ w ρ hx hlo hhi hmx=> ?_⟩
     obtain ⟨a1,a2⟩:=vO hl hlo
     obtain ⟨b1,b2⟩:=vO hh hhi
     have hmv:=hmx m rfl
     rw [hm] at hmv
     generalize hq:ρ m=q at hmv
     cases hmv
     have el:lo.map ρ=none:=by
      cases lo with
      |none=>rfl
      |some v=>obtain ⟨k,m,e,_⟩:=a1 (ρ v) rfl; cases e
     have eh: ∃ k',hi.map ρ=some (.int k' h):=by
      cases hi with
      |none=>have:=b2 rfl; cases this
      |some v=>obtain ⟨k',m',e,e2⟩:=b1 (ρ v) rfl; cases e; exact ⟨k',by simp [e2]⟩
     obtain ⟨k',eh⟩:=eh
     rw [el,eh,Option.map_some,hq]
     exact h2 σ w (ρ x) k' k hx
   · exact hk.elim
 · exact hk.elim
theorem qM {H:zQ} {fr:Nat} {src dst:TypeId} {x:PV} {K:Kon} (h:u9 cond E H fr src dst x K): ∃ r,K r H fr∧ ∀ σ w u,VR σ x u→ ∃ y,(Go.convert src dst u).run P w= .ok y w∧VR σ r y:=by
 unfold u9 at h
 split at h
 · rename_i si j hsi hj
   have e:=ok.ty _ _ hsi
   subst e
   have e:=ok.ty _ _ hj
   subst e
   have hd: ∀ {t},(yt P t).d≠ .other→(yt P t).d=mkD P t:=fun h=>let ⟨_,_,_,_,_,h⟩:=yv h; h
   split at h
   · rename_i ks k k' n h1 h2
     have u1:=vn ((hd (by simp [h1])).symm.trans h1)
     have u2:=vn ((hd (by simp [h2])).symm.trans h2)
     split at h
     · obtain ⟨hl,h⟩:=zz h
       refine ⟨_,h,fun σ w u hx=> ?_⟩
       cases hx
       exact ⟨_,by simp [Go.convert,run_underlying u1,run_underlying u2,Conv.intToInt,wc hl],.int _ _⟩
     · refine ⟨_,h,fun σ w u hx=> ?_⟩
       cases hx
       exact ⟨_,by simp [Go.convert,run_underlying u1,run_underlying u2,Conv.intToInt],.int _ _⟩
   · rename_i s h1 h2
     have u1:=y8 ((hd (by simp [h1])).symm.trans h1)
     have u2:=y8 ((hd (by simp [h2])).symm.trans h2)
     refine ⟨_,h,fun σ w u hx=> ?_⟩
     cases hx
     exact ⟨_,by simp [Go.convert,run_underlying u1,run_underlying u2],.str _⟩
   · exact h.elim
 · exact h.elim
end
section
variable {P:Program} {E:Env} (ok:xa P E)
omit ok in
theorem gI {H:zQ} {fr:Nat} {op:UnOp} {x:PV} {K:Kon} (h:oUn cond H fr op x K): ∃ r,K r H fr∧ ∀ σ w u,VR σ x u→ ∃ y,(Op.unary op u).run P w= .ok y w∧VR σ r y:=by
 unfold oUn at h
 split at h
 · rename_i n
   refine ⟨_,h,fun σ w u hx=> ?_⟩
   cases hx
   exact ⟨.int .u64 _,by simp [Op.unary,Op.intArith],.int _ _⟩
 · rename_i k n _
   obtain ⟨hl,h⟩:=zz h
   refine ⟨_,h,fun σ w u hx=> ?_⟩
   cases hx
   have:=wc hl
   exact ⟨.int k (-n),by simp [Op.unary,Op.intArith,this],.int _ _⟩
 · refine ⟨_,h,fun σ w u hx=> ?_⟩
   cases hx
   exact ⟨_,by simp [Op.unary],.bool _⟩
 · refine ⟨_,h,fun σ w u hx=> ?_⟩
   cases hx
   exact ⟨_,by simp [Op.unary],.tf _⟩
 · exact h.elim
omit ok in
theorem oE {op:BinOp} {k:IntKind} {a b:Int} {K:PV→Prop} (h:shI cond op k a b K): ∃ r,K r∧ ∀ (k':IntKind) σ w t,∃ y,(Go.binOp op t (.int k a) (.int k' b)).run P w= .ok y w∧VR σ r y:=by
 cases op<;>simp only [shI] at h<;>try exact h.elim
 · obtain ⟨hl,h⟩:=ry h
   have hl: ¬ b<0:=by simpa using hl
   exact ⟨_,h,fun k' σ w t=>⟨_,by simp only [Go.binOp,Op.shift,if_neg hl,S.shlB,Sem.run_pure],.int _ _⟩⟩
 · obtain ⟨hl,h⟩:=ry h
   have hl: ¬ b<0:=by simpa using hl
   exact ⟨_,h,fun k' σ w t=>⟨_,by simp only [Go.binOp,Op.shift,if_neg hl,S.shrB,Sem.run_pure],.int _ _⟩⟩
omit ok in
theorem jS {op:BinOp} {k:IntKind} {a b:Int} {K:PV→Prop} (h:io cond op k a b K): ∃ r,K r∧ ∀ σ w t,∃ y,(Go.binOp op t (.int k a) (.int k b)).run P w= .ok y w∧VR σ r y:=by
 cases op<;>simp only [io] at h<;>try exact h.elim
 · obtain ⟨hl,h⟩:=zz h
   exact ⟨_,h,fun σ w t=>⟨_,by simp [Go.binOp,Op.intArith,wc hl],.int _ _⟩⟩
 · obtain ⟨hl,h⟩:=zz h
   exact ⟨_,h,fun σ w t=>⟨_,by simp [Go.binOp,Op.intArith,wc hl],.int _ _⟩⟩
 · obtain ⟨hl,h⟩:=zz h
   exact ⟨_,h,fun σ w t=>⟨_,by simp [Go.binOp,Op.intArith,wc hl],.int _ _⟩⟩
 · obtain ⟨h0,h⟩:=ry h
   obtain ⟨hl,h⟩:=zz h
   have h0: ¬ b=0:=by simpa using h0
   exact ⟨_,h,fun σ w t=>⟨_,by simp [Go.binOp,Op.intDiv,h0,wc hl],.int _ _⟩⟩
 · obtain ⟨h0,h⟩:=ry h
   have h0: ¬ b=0:=by simpa using h0
   exact ⟨_,h,fun σ w t=>⟨_,by simp [Go.binOp,Op.intDiv,h0],.int _ _⟩⟩
 · exact ⟨_,h,fun σ w t=>⟨_,by simp [Go.binOp,Op.intBits,S.andB],.int _ _⟩⟩
 · exact ⟨_,h,fun σ w t=>⟨_,by simp [Go.binOp,Op.intBits,S.orB],.int _ _⟩⟩
 · exact ⟨_,h,fun σ w t=>⟨_,by simp [Go.binOp,Op.intBits,S.xorB],.int _ _⟩⟩
 · obtain ⟨r,h1,h2⟩:=oE (P:=P) h
   exact ⟨r,h1,h2 k⟩
 · obtain ⟨r,h1,h2⟩:=oE (P:=P) h
   exact ⟨r,h1,h2 k⟩
 · exact ⟨_,h,fun σ w t=>⟨_,by simp [Go.binOp,Op.intBits,S.andNotB],.int _ _⟩⟩
 · exact ⟨_,h,fun σ w t=>⟨_,by simp [Go.binOp,Op.intCmp],.bool _⟩⟩
 · exact ⟨_,h,fun σ w t=>⟨_,by simp [Go.binOp,Op.intCmp],.bool _⟩⟩
 · exact ⟨_,h,fun σ w t=>⟨_,by simp [Go.binOp,Op.intCmp],.bool _⟩⟩
 · exact ⟨_,h,fun σ w t=>⟨_,by simp [Go.binOp,Op.intCmp],.bool _⟩⟩
 · exact ⟨_,h,fun σ w t=>⟨_,by simp [Go.binOp,Op.intCmp],.bool _⟩⟩
 · exact ⟨_,h,fun σ w t=>⟨_,by simp [Go.binOp,Op.intCmp],.bool _⟩⟩
omit ok in
theorem jC {op:BinOp} {a b:ByteArray} {K:PV→Prop} (h:gS cond op a b K): ∃ r,K r∧ ∀ σ w t,∃ y,(Go.binOp op t (.string a) (.string b)).run P w= .ok y w∧VR σ r y:=by
 cases op<;>simp only [gS] at h<;>try exact h.elim
 · obtain ⟨hl,h⟩:=zz h
   have hl:((a.size+b.size:Nat):Int)≤9223372036854775807:=by simpa using hl
   refine ⟨_,h,fun σ w t=>⟨_,?_,.str _⟩⟩
   have: ¬ ((a.size+b.size:Nat):Int)>IntKind.i64.max:=by
    have e:IntKind.i64.max=9223372036854775807:=by decide
    rw [e]
    omega
   simp only [Go.binOp,Op.stringOp,this,if_false,Sem.run_pure]
 all_goals exact ⟨_,h,fun σ w t=>⟨_,by simp only [Go.binOp,Op.stringOp,Sem.run_pure],.bool _⟩⟩
end
end Go.Ev
namespace Go.Ev
open Go.RowKit
section
variable {P:Program} {E:Env} (ok:xa P E)
include ok
omit ok in
theorem qW {t:TypeId} (h:(yt P t).eqok=true):P.stoodInHeld t=false∧P.eqGuardType P.depth t=false∧uF P t=true:=by
 unfold yt at h
 cases hi:P.info? t with
 |none=>rw [hi] at h; cases h
 |some I=>rw [hi] at h; simpa [and_assoc] using h
omit ok in
theorem dOf {t:TypeId} (h:(yt P t).d≠ .other):(yt P t).d=mkD P t:=let ⟨_,_,_,_,_,h⟩:=yv h; h
omit ok in
theorem iw {σ:Sg} {w:World} {t:TypeId} {x y:PV} {u v:Value} {b:Bool} (h:eq0 (yt P t).d x y=some b) (hx:VR σ x u) (hy:VR σ y v) (d:Nat):(Op.equalIn (d+1) t u v).run P w= .ok b w:=by
 unfold eq0 at h
 split at h
 case h_1 k0 k a k' c hd=>
  split at h
  · rename_i hk
    have:=wJ hk
    subst this
    cases h
    cases hx
    cases hy
    exact run_equalIn_int w d t k _ _ _ (vn ((dOf (by simp [hd])).symm.trans hd))
  · cases h
 case h_2 a c hd=>
  cases h
  cases hx
  cases hy
  exact run_equalIn_bool' w d t _ _ (uo ((dOf (by simp [hd])).symm.trans hd))
 case h_3 a c hd=>
  cases h
  cases hx
  cases hy
  exact run_equalIn_bool' w d t _ _ (uo ((dOf (by simp [hd])).symm.trans hd))
 case h_4 a c hd=>
  cases h
  cases hx
  cases hy
  exact run_equalIn_bool' w d t _ _ (uo ((dOf (by simp [hd])).symm.trans hd))
 case h_5 a c hd=>
  cases h
  cases hx
  cases hy
  exact run_equalIn_bool' w d t _ _ (uo ((dOf (by simp [hd])).symm.trans hd))
 case h_6 a c hd=>
  cases h
  cases hx
  cases hy
  exact run_equalIn_string w d t _ _ (y8 ((dOf (by simp [hd])).symm.trans hd))
 case h_18=>cases h
 all_goals
   cases h
   cases hx
   cases hy
   first
     |(have hu:=ye ((dOf (by simp [‹(yt P t).d=_›])).symm.trans ‹(yt P t).d=_›); first|(simp [Op.equalIn,run_underlying hu]; done)|(rename_i A _ h; subst h; cases A<;>simp [Op.equalIn,run_underlying hu]; done))
     |(have hu:=jZ ((dOf (by simp [‹(yt P t).d=_›])).symm.trans ‹(yt P t).d=_›); simp [Op.equalIn,run_underlying hu]; done)
     |(obtain ⟨_,_,_,hu⟩:=kg ((dOf (by simp [‹(yt P t).d=_›])).symm.trans ‹(yt P t).d=_›); simp [Op.equalIn,run_underlying hu]; done)
def iX (P:Program) (d:Nat) (eq:TypeId→PV→PV→Option Bool):Prop:= ∀ σ w t x y u v b,eq t x y=some b→VR σ x u→VR σ y v→(Op.equalIn d t u v).run P w= .ok b w
theorem nC {σ:Sg} {w:World} {d:Nat} {eq:TypeId→PV→PV→Option Bool} (he:iX P d eq) {xs ys:List PV} {us vs:Array Value} (hx:VRs σ xs us.toList) (hy:VRs σ ys vs.toList):
    ∀ (fs:List Field) (b:Bool),(fs.all fun f=>f.name != "_")=true→mY E eq (fs.map fun f=>(f.offset,f.type)) xs ys=some b→(Op.eqFields d us vs fs).run P w= .ok b w
  | [],b,_,h=>by simp [mY] at h; subst h; rfl
  | f ::l,b,hn,h=>by
   simp only [List.map_cons,mY] at h
   simp only [List.all_cons,Bool.and_eq_true] at hn
   split at h
   · rename_i a c ha hc
     split at h
     · rename_i r s hr hs
       cases h
       obtain ⟨a',h1,h2⟩:=vS ok (w:=w) hx ha
       obtain ⟨c',h3,h4⟩:=vS ok (w:=w) hy hc
       have h5:=he σ w _ _ _ _ _ _ hr h2 h4
       have h6:=nC (w:=w) he hx hy l s hn.2 hs
       have h7:f.name≠ "_" :=by simpa using hn.1
       simp only [Op.eqFields,if_pos h7,Sem.run_bind,h1,h3,h5,Result.andThen_ok]
       cases r
       · simp
       · simpa using h6
     · cases h
   · cases h
theorem og {σ:Sg} {w:World} {d:Nat} {eq:TypeId→PV→PV→Option Bool} (he:iX P d eq) {xs ys:List PV} {us vs:Array Value} (hx:VRs σ xs us.toList) (hy:VRs σ ys vs.toList) {e:TypeId} {sz:Nat}:
    ∀ (n i:Nat) (b:Bool),kT E eq e sz n i xs ys=some b→(Op.eqItems d e sz us vs (List.range' i n)).run P w= .ok b w
  |0,i,b,h=>by simp [kT] at h; subst h; rfl
  | n + 1,i,b,h=>by
   simp only [kT] at h
   split at h
   · rename_i a c ha hc
     split at h
     · rename_i r s hr hs
       cases h
       obtain ⟨a',h1,h2⟩:=vS ok (w:=w) hx ha
       obtain ⟨c',h3,h4⟩:=vS ok (w:=w) hy hc
       have h5:=he σ w _ _ _ _ _ _ hr h2 h4
       have h6:=og (w:=w) he hx hy n (i+1) s hs
       rw [List.range'_succ]
       simp only [Op.eqItems,Sem.run_bind,h1,h3,h5,Result.andThen_ok]
       cases r
       · simp
       · simpa using h6
     · cases h
   · cases h
theorem lx: ∀ (n d:Nat),n≤d→iX P d (eqt E n)
  |0,d,_,σ,w,t,x,y,u,v,b,h,_,_=>by simp [eqt] at h
  |n+1,0,hd,_,_,_,_,_,_,_,_,_,_,_=>absurd hd (by omega)
  | n + 1,d+1,hd,σ,w,t,x,y,u,v,b,h,hx,hy=>by
   have ih:=lx n d (by omega)
   simp only [eqt] at h
   split at h
   · cases h
   rename_i i hi
   have e:=ok.ty t i hi
   subst e
   split at h
   · rename_i fs xs ys hd0
     split at h
     · rename_i hk
       obtain ⟨k1,k2,k3⟩:=qW hk
       obtain ⟨gs,hu,rfl⟩:=wv ((dOf (by simp [hd0])).symm.trans hd0)
       have hf:P.fieldsOf t=gs:=by simp [Program.fieldsOf,hu]
       have k4:(gs.toList.all fun f=>f.name != "_")=true:=by simpa [uF,hu] using k3
       cases hx with
       |agg _ us hus=>
       cases hy with
       |agg _ vs hvs=>
       rw [run_equalIn_struct w d t us vs (by rw [hf]; exact hu) k1,hf]
       exact nC ok ih hus hvs gs.toList b k4 h
     · cases h
   · rename_i n' e' xs ys hd0
     split at h
     · rename_i sz hk hs
       have hu:=wD ((dOf (by simp [hd0])).symm.trans hd0)
       obtain ⟨J,hJ,hsz⟩:=xm ok hs
       cases hx with
       |agg _ us hus=>
       cases hy with
       |agg _ vs hvs=>
       rw [run_equalIn_array w d us vs hu hJ,List.range_eq_range',show P.cellsOf e'=sz by simp [Program.cellsOf,hJ,hsz]]
       exact og ok ih hus hvs n' 0 b h
     · cases h
   · exact iw h hx hy d
omit ok in
theorem rL (w:World) (op:BinOp) (t:TypeId) (x y:Operand) (k k':IntKind) (a b:Int):(eqGuard op t x y (.int k a) (.int k' b)).run P w= .ok () w:=by cases op<;>simp [eqGuard]
def yb (P:Program) (op:BinOp) (t:TypeId) (x y:Operand) (u v:Value) (w:World):Result Value:=(do eqGuard op t x y u v; Go.binOp op t u v:Sem Value).run P w
omit ok in
theorem o6 (σ:Sg) (x y:PV) (b:Bool):VR σ (known x y b) (.bool b):=by
 unfold known
 split
 · exact .tf b
 · exact .bool b
theorem jO {op:BinOp} {t:TypeId} {x y:PV} {K:PV→Prop} (h:gF E op t x y K): ∃ r,K r∧ ∀ σ w ox oy u v,VR σ x u→VR σ y v→ ∃ z,yb P op t ox oy u v w= .ok z w∧VR σ r z:=by
 have main: ∀ b,eqt E 5 t x y=some b→ ∀ σ w ox oy u v,VR σ x u→VR σ y v→yb P .eql t ox oy u v w= .ok (.bool b) w∧yb P .neq t ox oy u v w= .ok (.bool (!b)) w:=by
  intro b hb σ w ox oy u v hx hy
  have he:=lx ok 5 10000 (by omega) σ w t x y u v b hb hx hy
  simp only [eqt] at hb
  split at hb
  · cases hb
  rename_i i hi
  have e:=ok.ty t i hi
  subst e
  split at hb
  · split at hb
    · rename_i hk
      obtain ⟨k1,k2,k3⟩:=qW hk
      cases hx with
      |agg _ us hus=>
      cases hy with
      |agg _ vs hvs=>
      have g:=fun op=>run_eqGuard_agg (P:=P) w op t ox oy us vs k2
      exact ⟨by simp only [yb,Sem.run_bind,g,Result.andThen_ok,run_eql_struct,he],by simp only [yb,Sem.run_bind,g,Result.andThen_ok,run_neq_struct,he]⟩
    · cases hb
  · split at hb
    · rename_i hk _
      obtain ⟨k1,k2,k3⟩:=qW hk
      cases hx with
      |agg _ us hus=>
      cases hy with
      |agg _ vs hvs=>
      have g:=fun op=>run_eqGuard_agg (P:=P) w op t ox oy us vs k2
      exact ⟨by simp only [yb,Sem.run_bind,g,Result.andThen_ok,run_eql_struct,he],by simp only [yb,Sem.run_bind,g,Result.andThen_ok,run_neq_struct,he]⟩
    · cases hb
  · unfold eq0 at hb
    split at hb
    case h_18=>cases hb
    case h_1 k0 k a k' c hd=>
     split at hb
     · rename_i hk
       have:=wJ hk
       subst this
       cases hb
       cases hx
       cases hy
       exact ⟨by simp [yb,eqGuard,Go.binOp,Op.intCmp],by simp [yb,eqGuard,Go.binOp,Op.intCmp,bne]⟩
     · cases hb
    case h_6 a c hd=>
     cases hb
     cases hx
     cases hy
     exact ⟨by simp [yb,eqGuard,Go.binOp,Op.stringOp],by simp [yb,eqGuard,Go.binOp,Op.stringOp]⟩
    all_goals
      cases hb
      cases hx
      cases hy
      exact ⟨by simp [yb,eqGuard,Go.binOp,Op.equal,Op.maxDepth,he],by simp [yb,eqGuard,Go.binOp,Op.equal,Op.maxDepth,he]⟩
 unfold gF at h
 split at h
 · split at h
   · rename_i b hb
     exact ⟨_,h,fun σ w ox oy u v hx hy=>⟨_,(main b hb σ w ox oy u v hx hy).1,o6 _ _ _ _⟩⟩
   · exact h.elim
 · split at h
   · rename_i b hb
     exact ⟨_,h,fun σ w ox oy u v hx hy=>⟨_,(main b hb σ w ox oy u v hx hy).2,o6 _ _ _ _⟩⟩
   · exact h.elim
 · exact h.elim
omit ok in
theorem mi {op:BinOp} {n:Nat} {K:PV→Prop} (h:mU cond op n K):0<n∧((op= .eql∧K (.tf false))∨(op= .neq∧K (.tf true))):=by
 cases op<;>simp only [mU] at h<;>try exact h.elim
 · obtain ⟨h0,h⟩:=zz h
   exact ⟨by simpa using h0,.inl ⟨rfl,h⟩⟩
 · obtain ⟨h0,h⟩:=zz h
   exact ⟨by simpa using h0,.inr ⟨rfl,h⟩⟩
omit ok in
theorem jX {w:World} {t:TypeId} {d:TypeId} (hu:P.underlying t=some (.slice d)) (ox oy:Operand) (a:Addr) (n c:Nat):yb P .eql t ox oy (.slice (some a) n c) (.slice none 0 0) w= .ok (.bool false) w∧yb P .neq t ox oy (.slice (some a) n c) (.slice none 0 0) w= .ok (.bool true) w∧
 yb P .eql t ox oy (.slice none 0 0) (.slice (some a) n c) w= .ok (.bool false) w∧yb P .neq t ox oy (.slice none 0 0) (.slice (some a) n c) w= .ok (.bool true) w:=by
 have e1: ∀ d:Nat,(Op.equalIn (d+1) t (.slice (some a) n c) (.slice none 0 0)).run P w= .ok false w:=fun d=>by simp [Op.equalIn,run_underlying hu]
 have e2: ∀ d:Nat,(Op.equalIn (d+1) t (.slice none 0 0) (.slice (some a) n c)).run P w= .ok false w:=fun d=>by simp [Op.equalIn,run_underlying hu]
 have e1:=e1 9999
 have e2:=e2 9999
 simp only [Nat.reduceAdd] at e1 e2
 refine ⟨?_,?_,?_,?_⟩<;>simp [yb,eqGuard,Go.binOp,Op.equal,Op.maxDepth,e1,e2]
theorem tg {op:BinOp} {t:TypeId} {x y:PV} {n:Nat} {a:PA} {K:PV→Prop} (h:nl cond E op t n K) (hs:(y9 x=some (a,n)∧y= .nils)∨(x= .nils∧y9 y=some (a,n))): ∃ r,K r∧ ∀ σ w ox oy u v,VR σ x u→VR σ y v→ ∃ z,yb P op t ox oy u v w= .ok z w∧VR σ r z:=by
 unfold nl at h
 split at h
 · rename_i i hi
   have e:=ok.ty t i hi
   subst e
   split at h
   · rename_i d hd
     have hu:=ye ((dOf (by simp [hd])).symm.trans hd)
     obtain ⟨h0,hk⟩:=mi h
     have key: ∀ σ u v,VR σ x u→VR σ y v→ ∃ A c,(u= .slice (some A) n c∧v= .slice none 0 0)∨(u= .slice none 0 0∧v= .slice (some A) n c):=by
      intro σ u v hx hy
      rcases hs with ⟨hs,rfl⟩|⟨rfl,hs⟩
      · obtain ⟨A,c,rfl,_,hA⟩:=wO hs hx
        obtain ⟨rb,_,rfl⟩:=hA h0
        cases hy
        exact ⟨_,c,.inl ⟨rfl,rfl⟩⟩
      · obtain ⟨A,c,rfl,_,hA⟩:=wO hs hy
        obtain ⟨rb,_,rfl⟩:=hA h0
        cases hx
        exact ⟨_,c,.inr ⟨rfl,rfl⟩⟩
     rcases hk with ⟨rfl,hk⟩|⟨rfl,hk⟩
     all_goals
       refine ⟨_,hk,fun σ w ox oy u v hx hy=> ?_⟩
       obtain ⟨A,c,⟨rfl,rfl⟩|⟨rfl,rfl⟩⟩:=key σ u v hx hy
       all_goals
         obtain ⟨q1,q2,q3,q4⟩:=jX (P:=P) (w:=w) hu ox oy A n c
         exact ⟨_,by first|exact q1|exact q2|exact q3|exact q4,.tf _⟩
   · exact h.elim
 · exact h.elim
theorem ic {op:BinOp} {t:TypeId} {x y:PV} {K:PV→Prop} (h:bin cond E op t x y K): ∃ r,K r∧ ∀ σ w ox oy u v,VR σ x u→VR σ y v→ ∃ z,yb P op t ox oy u v w= .ok z w∧VR σ r z:=by
 unfold bin at h
 split at h
 · exact tg ok h (.inl ⟨rfl,rfl⟩)
 · exact tg ok h (.inl ⟨rfl,rfl⟩)
 · exact tg ok h (.inr ⟨rfl,rfl⟩)
 · exact tg ok h (.inr ⟨rfl,rfl⟩)
 · rename_i k a k' b
   split at h
   · obtain ⟨r,h1,h2⟩:=oE (P:=P) h
     refine ⟨r,h1,fun σ w ox oy u v hx hy=> ?_⟩
     cases hx
     cases hy
     obtain ⟨z,h3,h4⟩:=h2 k' σ w t
     exact ⟨z,by simp only [yb,Sem.run_bind,rL,Result.andThen_ok,h3],h4⟩
   · rename_i hk
     have:=wJ hk
     subst this
     obtain ⟨r,h1,h2⟩:=jS (P:=P) h
     refine ⟨r,h1,fun σ w ox oy u v hx hy=> ?_⟩
     cases hx
     cases hy
     obtain ⟨z,h3,h4⟩:=h2 σ w t
     exact ⟨z,by simp only [yb,Sem.run_bind,rL,Result.andThen_ok,h3],h4⟩
 · obtain ⟨r,h1,h2⟩:=jC (P:=P) h
   refine ⟨r,h1,fun σ w ox oy u v hx hy=> ?_⟩
   cases hx
   cases hy
   obtain ⟨z,h3,h4⟩:=h2 σ w t
   have g: ∀ a b:ByteArray,(eqGuard op t ox oy (.string a) (.string b)).run P w= .ok () w:=fun a b=>by cases op<;>simp [eqGuard]
   exact ⟨z,by simp only [yb,Sem.run_bind,g,Result.andThen_ok,h3],h4⟩
 · exact jO ok h
end
end Go.Ev
namespace Go.Ev
open Go.RowKit
theorem kR {σ:Sg} {w:World} {rb:RB} {cs vs:List PV} {p n:Nat} (h:cut cs p n=some vs) (hb:BlkR σ w rb (.cells cs)):
    ∃ us:List Value,VRs σ vs us∧us.length=n∧(∀ u ∈ us,u.oneCell'=true)∧ ∀ j u,us[j]? =some u→w.cell? ⟨rb.blk,rb.base+(p+j),none⟩=some u:=by
  obtain ⟨h1,h2⟩:=xB h
  let us:List Value:=(List.range n).map fun j=>(w.cell? ⟨rb.blk,rb.base+(p+j),none⟩).getD undef
  have hus: ∀ j,j<n→ ∃ v u,nth vs j=some v∧us[j]? =some u∧VR1 σ v u∧w.cell? ⟨rb.blk,rb.base+(p+j),none⟩=some u:=fun j hj=>by
   obtain ⟨v,h3,h4⟩:=h2 j hj
   obtain ⟨u,hu,hvu⟩:=hb _ _ h3
   exact ⟨v,u,h4,by simp [us,hj,hu],hvu,hu⟩
  refine ⟨us,sw _ _ (by simp [us,h1]) fun j v hv=> ?_,by simp [us],fun u hu=> ?_,fun j u hu=> ?_⟩
  · obtain ⟨v',u,e1,e2,e3,e4⟩:=hus j (by have:=tA hv; omega)
    rw [hv] at e1
    cases e1
    exact ⟨u,e2,e3.1⟩
  · obtain ⟨j,hj⟩:=List.mem_iff_getElem?.1 hu
    have hjn:j<n:=by have:=(List.getElem?_eq_some_iff.1 hj).1; simpa [us] using this
    obtain ⟨v',u',e1,e2,e3,e4⟩:=hus j hjn
    rw [hj] at e2
    cases e2
    exact e3.2
  · have hj:j<n:=by have:=(List.getElem?_eq_some_iff.1 hu).1; simpa [us] using this
    obtain ⟨v',u',e1,e2,e3,e4⟩:=hus j hj
    rw [hu] at e2
    cases e2
    exact e4
def RowV (σ:Sg) (st n:Nat) (F:Nat→Nat→PV) (us:List Value):Prop:=us.length=n*st∧ ∀ j i,j<n→i<st→ ∃ u,us[j*st+i]? =some u∧VR1 σ (F j i) u
theorem w8 {σ:Sg} {w:World} {b p st n:Nat} {F:Nat→Nat→PV} (h: ∀ j i,j<n→i<st→ ∃ u,w.cell? ⟨b,p+(j*st+i),none⟩=some u∧VR1 σ (F j i) u):
    ∃ us:List Value,RowV σ st n F us∧ ∀ j u,us[j]? =some u→w.cell? ⟨b,p+j,none⟩=some u:=by
  let us:List Value:=(List.range (n*st)).map fun j=>(w.cell? ⟨b,p+j,none⟩).getD undef
  have hlt: ∀ j i,j<n→i<st→j*st+i<n*st:=fun j i hj hi=>by
   have:(j+1)*st≤n*st:=Nat.mul_le_mul_right st hj
   rw [Nat.add_mul,Nat.one_mul] at this
   omega
  refine ⟨us,⟨by simp [us],fun j i hj hi=> ?_⟩,fun j u hu=> ?_⟩
  · obtain ⟨u,h1,h2⟩:=h j i hj hi
    exact ⟨u,by simp [us,hlt j i hj hi,h1],h2⟩
  · have hj:j<n*st:=by have:=(List.getElem?_eq_some_iff.1 hu).1; simpa [us] using this
    have hst:0<st:=by
     rcases Nat.eq_zero_or_pos st with e|e
     · subst e; simp at hj
     · exact e
    obtain ⟨v,h1,h2⟩:=h (j / st) (j % st) ((Nat.div_lt_iff_lt_mul hst).2 hj) (Nat.mod_lt _ hst)
    rw [Nat.div_add_mod'] at h1
    have:us[j]? =some v:=by simp [us,hj,h1]
    rw [hu] at this
    cases this
    exact h1
theorem lL {b:Blk} {a:PA} {n st:Nat} {K:(Nat→Nat→PV)→Prop} (hst:a.st=st) (h:rS cond b a n st K):b≠ .dead∧ ∃ G,K G∧ ∀ σ w rb,BlkR σ w rb b→ ∀ j i,j<n→i<st→ ∃ u,w.cell? ⟨rb.blk,rb.base+pos a+(j*st+i),none⟩=some u∧VR1 σ (G j i) u:=by
 cases b with
 |dead=>exact h.elim
 |rows st' n' F=>
  simp only [rS] at h
  cases h1:Nat.beq st' st<;>cases h2:Nat.beq a.off 0<;>rw [h1,h2] at h<;>try exact h.elim
  obtain ⟨h3,hk⟩:=zz h
  have h3:a.ix+n≤n':=by simpa using h3
  have e1:=Nat.eq_of_beq_eq_true h1
  have e2:=Nat.eq_of_beq_eq_true h2
  subst e1
  refine ⟨by simp,_,hk,fun σ w rb hb j i hj hi=> ?_⟩
  obtain ⟨u,hu,hv⟩:=hb (j+a.ix) i (by omega) hi
  refine ⟨u,?_,hv⟩
  rw [← hu,z9,z9,e2,hst]
  congr 2
  simp only [Nat.add_mul]
  omega
 |ints k n' f=>
  simp only [rS] at h
  cases h1:Nat.beq st 1<;>cases h2:Nat.beq a.off 0<;>rw [h1,h2] at h<;>try exact h.elim
  obtain ⟨h3,hk⟩:=zz h
  have h3:a.ix+n≤n':=by simpa using h3
  have e1:=Nat.eq_of_beq_eq_true h1
  have e2:=Nat.eq_of_beq_eq_true h2
  subst e1
  refine ⟨by simp,_,hk,fun σ w rb hb j i hj hi=>⟨_,?_,.int _ _,rfl⟩⟩
  have:=hb (j+a.ix) (by omega)
  rw [← this,z9,e2,hst]
  congr 2
  omega
 |cols n' cs=>
  simp only [rS] at h
  cases h1:Nat.beq (yB cs) st<;>cases h2:Nat.beq a.off 0<;>rw [h1,h2] at h<;>try exact h.elim
  obtain ⟨h3,hk⟩:=zz h
  have h3:a.ix+n≤n':=by simpa using h3
  have e1:=Nat.eq_of_beq_eq_true h1
  have e2:=Nat.eq_of_beq_eq_true h2
  subst e1
  refine ⟨by simp,_,hk,fun σ w rb hb j i hj hi=> ?_⟩
  obtain ⟨c,hc⟩:=xc hi
  obtain ⟨u,hu,hv⟩:=hb (j+a.ix) i c (by omega) hc
  refine ⟨u,?_,by simp only [yR,hc]; exact hv⟩
  rw [← hu,z9,e2,hst]
  congr 2
  simp only [Nat.add_mul]
  omega
 | cells cs=>
  simp only [rS] at h
  obtain ⟨h3,hk⟩:=zz h
  have h3:(a.ix+n)*a.st+a.off≤len cs:=by simpa using h3
  refine ⟨by simp,_,hk,fun σ w rb hb j i hj hi=> ?_⟩
  have hlt:(a.ix+j)*a.st+(a.off+i)<len cs:=by
   have:(a.ix+j+1)*a.st≤(a.ix+n)*a.st:=Nat.mul_le_mul_right _ (by omega)
   rw [Nat.add_mul (a.ix+j) 1,Nat.one_mul] at this
   omega
  obtain ⟨v,hv⟩:=wM hlt
  obtain ⟨u,hu,hvu⟩:=hb _ _ hv
  refine ⟨u,?_,by simp only [pc,hv]; exact hvu⟩
  rw [← hu,z9,← hst]
  congr 2
  simp only [Nat.add_mul]
  omega
theorem tR {H:zQ} {a:PA} {n st:Nat} {K:(Nat→Nat→PV)→Prop} (h:uM cond H a n st K):a.st=st∧(∃ e,hget H a.nm=some e∧e.2≠ .dead)∧ ∃ G,K G∧ ∀ σ w rb,Sim σ w H→σ a.nm=some rb→ ∀ j i,j<n→i<st→ ∃ u,w.cell? ⟨rb.blk,rb.base+pos a+(j*st+i),none⟩=some u∧VR1 σ (G j i) u:=by
 unfold uM at h
 split at h
 · rename_i e wr b hst hh
   have hst:=Nat.eq_of_beq_eq_true hst
   obtain ⟨hd,G,hk,hg⟩:=lL hst h
   exact ⟨hst,⟨_,hh,hd⟩,G,hk,fun σ w rb hs hr=>hg σ w rb (hs.ent _ _ hh hd rb hr).2.1⟩
 · exact h.elim
theorem vo {H:zQ} {a:PA} {n:Nat} {vs:List PV} (h:wi H a n=some vs):(∃ e,hget H a.nm=some e∧e.2≠ .dead)∧ ∀ σ w rb,Sim σ w H→σ a.nm=some rb→ ∃ us:List Value,VRs σ vs us∧us.length=n*a.st∧(∀ u ∈ us,u.oneCell'=true)∧ ∀ j u,us[j]? =some u→w.cell? ⟨rb.blk,rb.base+(pos a+j),none⟩=some u:=by
 unfold wi at h
 split at h
 · rename_i wr cs hh
   refine ⟨⟨_,hh,by simp⟩,fun σ w rb hs hr=> ?_⟩
   obtain ⟨us,h1,h2,h3,h4⟩:=kR h (hs.ent _ _ hh (by simp) rb hr).2.1
   exact ⟨us,h1,by rw [h2,vP],h3,h4⟩
 · cases h
def SrcOk (H:zQ) (st:Nat) (o:Option Nat) (n:Nat) (a:PA) (m:Nat) (b:Blk):Prop:=
 (∀ nm,o=some nm→ ∃ e,hget H nm=some e∧e.2≠ .dead)∧(o=none→n=0→True)∧ ∀ σ w,Sim σ w H→(0<m→ ∃ rb,σ a.nm=some rb)→(0<n→ ∃ nm rb,o=some nm∧σ nm=some rb∧rb.base=0)→
  ∃ olds news:List Value,olds.length=n*st∧news.length=m*st∧(∀ u ∈ news,u.oneCell'=true)∧
   (∀ nm rb,o=some nm→0<n→σ nm=some rb→rb.base=0→ ∀ j u,olds[j]? =some u→w.cell? ⟨rb.blk,j,none⟩=some u)∧
   (∀ rb,0<m→σ a.nm=some rb→ ∀ j u,news[j]? =some u→w.cell? ((a.at rb).add j)=some u)∧
   ∀ σ' w' rb',Mono σ σ'→rb'.base=0→(∀ p u,(olds++news)[p]? =some u→w'.cell? ⟨rb'.blk,p,none⟩=some u)→BlkR σ' w' rb' b
theorem pQ {σ:Sg} {w:World} {rb:RB} {cs:List PV} {us:List Value} (h:VRs σ cs us) (h1c: ∀ u ∈ us,u.oneCell'=true) (h0:rb.base=0) (hc: ∀ p u,us[p]? =some u→w.cell? ⟨rb.blk,p,none⟩=some u):BlkR σ w rb (.cells cs):=by
 intro i v hi
 obtain ⟨u,h1,h2⟩:=h.get hi
 exact ⟨u,by rw [h0,Nat.zero_add]; exact hc _ _ h1,h2,h1c u (List.mem_of_getElem? h1)⟩
theorem nM {σ:Sg} {w:World} {rb:RB} {st n:Nat} {F:Nat→Nat→PV} {us:List Value} (h:RowV σ st n F us) (h0:rb.base=0) (hc: ∀ p u,us[p]? =some u→w.cell? ⟨rb.blk,p,none⟩=some u):BlkR σ w rb (.rows st n F):=by
 intro j i hj hi
 obtain ⟨u,h1,h2⟩:=h.2 j i hj hi
 refine ⟨u,?_,h2⟩
 rw [h0,Nat.zero_add,z9]
 simp only
 rw [Nat.add_comm]
 exact hc _ _ h1
theorem RowV.one {σ:Sg} {st n:Nat} {F:Nat→Nat→PV} {us:List Value} (h:RowV σ st n F us): ∀ u ∈ us,u.oneCell'=true:=by
 intro u hu
 obtain ⟨j,hj⟩:=List.mem_iff_getElem?.1 hu
 have hlt:j<n*st:=by have:=(List.getElem?_eq_some_iff.1 hj).1; rw [h.1] at this; exact this
 have hst:0<st:=by
  rcases Nat.eq_zero_or_pos st with e|e
  · subst e; simp at hlt
  · exact e
 obtain ⟨v,h1,h2⟩:=h.2 (j / st) (j % st) ((Nat.div_lt_iff_lt_mul hst).2 hlt) (Nat.mod_lt _ hst)
 rw [Nat.div_add_mod',hj] at h1
 cases h1
 exact h2.2
theorem RowV.mono {σ σ':Sg} {st n:Nat} {F:Nat→Nat→PV} {us:List Value} (h:RowV σ st n F us) (m:Mono σ σ'):RowV σ' st n F us:=⟨h.1,fun j i hj hi=>let ⟨u,h1,h2⟩:=h.2 j i hj hi; ⟨u,h1,h2.mono m⟩⟩
theorem RowV.join {σ:Sg} {st n m:Nat} {F G:Nat→Nat→PV} {us vs:List Value} (h:RowV σ st n F us) (k:RowV σ st m G vs):RowV σ st (n+m) (join n F G) (us++vs):=by
 refine ⟨by simp [h.1,k.1,Nat.add_mul],fun j i hj hi=> ?_⟩
 by_cases hlt:j<n
 · obtain ⟨u,h1,h2⟩:=h.2 j i hlt hi
   have hl:j*st+i<us.length:=(List.getElem?_eq_some_iff.1 h1).1
   refine ⟨u,by rw [List.getElem?_append_left hl]; exact h1,?_⟩
   have:Nat.blt j n=true:=by rw [Nat.blt_eq]; exact hlt
   simp only [Ev.join,this,cond_true]
   exact h2
 · obtain ⟨u,h1,h2⟩:=k.2 (j-n) i (by omega) hi
   have e:j*st=n*st+(j-n)*st:=by rw [← Nat.add_mul]; congr 1; omega
   refine ⟨u,?_,?_⟩
   · rw [List.getElem?_append_right (by rw [h.1,e]; omega),h.1,e,show n*st+(j-n)*st+i-n*st=(j-n)*st+i by omega]
     exact h1
   · have:Nat.blt j n=false:=by cases hb:Nat.blt j n; rfl; exact absurd (by rw [Nat.blt_eq] at hb; exact hb) hlt
     simp only [Ev.join,this,cond_false]
     exact h2
theorem ol {H:zQ} {fr st:Nat} {o:Option Nat} {n:Nat} {a:PA} {m:Nat} {K:Kon} (ho:o=none→n=0) (h:jM cond H fr st o n a m K):
    ∃ b,b≠ .dead∧K (.own fr st (n+m)) (yl (kill H o) fr (true,b)) (fr+1)∧a.st=st∧SrcOk H st o n a m b:=by
  unfold jM at h
  obtain ⟨hst,he,G,h,hG⟩:=tR h
  have hnews: ∀ σ w,Sim σ w H→(0<m→ ∃ rb,σ a.nm=some rb)→ ∃ us:List Value,RowV σ st m G us∧ ∀ rb,0<m→σ a.nm=some rb→ ∀ j u,us[j]? =some u→w.cell? ((a.at rb).add j)=some u:=fun σ w hs hm=>by
   rcases Nat.eq_zero_or_pos m with rfl|hm0
   · exact ⟨[],⟨by simp,fun j i hj=>absurd hj (by omega)⟩,fun _ h0=>absurd h0 (by omega)⟩
   · obtain ⟨rb,hrb⟩:=hm hm0
     obtain ⟨us,h1,h2⟩:=w8 (hG σ w rb hs hrb)
     refine ⟨us,h1,fun rb' _ hrb' j u hu=> ?_⟩
     rw [hrb] at hrb'
     cases hrb'
     rw [v7,← Nat.add_assoc]
     exact h2 j u hu
  cases o with
  |none=>
   have e:=ho rfl
   subst e
   simp only at h
   refine ⟨_,by simp,h,hst,by simp,fun _ _=>trivial,fun σ w hs hm _=> ?_⟩
   obtain ⟨news,n1,n2⟩:=hnews σ w hs hm
   refine ⟨[],news,by simp,n1.1,n1.one,by simp,n2,fun σ' w' rb' mo h0 hc=> ?_⟩
   rw [Nat.zero_add]
   exact nM (n1.mono mo) h0 (by simpa using hc)
  | some nm=>
   simp only at h
   obtain ⟨_,he2,F,h,hF⟩:=tR h
   refine ⟨_,by simp,h,hst,fun nm' e=>by cases e; exact he2,fun _ _=>trivial,fun σ w hs hm hn=> ?_⟩
   obtain ⟨news,n1,n2⟩:=hnews σ w hs hm
   have hold: ∃ olds:List Value,RowV σ st n F olds∧ ∀ rb,0<n→σ nm=some rb→rb.base=0→ ∀ j u,olds[j]? =some u→w.cell? ⟨rb.blk,j,none⟩=some u:=by
    rcases Nat.eq_zero_or_pos n with rfl|hn0
    · exact ⟨[],⟨by simp,fun j i hj=>absurd hj (by omega)⟩,fun _ h0=>absurd h0 (by omega)⟩
    · obtain ⟨nm',rb,e1,hrb,hb0⟩:=hn hn0
      cases e1
      obtain ⟨us,h1,h2⟩:=w8 (hF σ w rb hs hrb)
      refine ⟨us,h1,fun rb' _ hrb' _ j u hu=> ?_⟩
      rw [hrb] at hrb'
      cases hrb'
      have:=h2 j u hu
      simpa [z9,hb0] using this
   obtain ⟨olds,o1,o2⟩:=hold
   refine ⟨olds,news,o1.1,n1.1,n1.one,fun nm' rb e h0 hr hb=> ?_,n2,fun σ' w' rb' mo h0 hc=>nM ((o1.join n1).mono mo) h0 hc⟩
   cases e
   exact o2 rb h0 hr hb
theorem SrcOk.rows {H:zQ} {st:Nat} {o:Option Nat} {n:Nat} {a:PA} {m:Nat} {F G:Nat→Nat→PV} {b:Blk}
    (hG: ∀ σ w rb,Sim σ w H→σ a.nm=some rb→ ∀ j i,j<m→i<st→ ∃ u,w.cell? ⟨rb.blk,rb.base+pos a+(j*st+i),none⟩=some u∧VR1 σ (G j i) u)
    (hF: ∀ nm,o=some nm→(∃ e,hget H nm=some e∧e.2≠ .dead)∧ ∀ σ w rb,Sim σ w H→σ nm=some rb→rb.base=0→ ∀ j i,j<n→i<st→ ∃ u,w.cell? ⟨rb.blk,0+(j*st+i),none⟩=some u∧VR1 σ (F j i) u)
    (ho:o=none→n=0) (hb: ∀ σ w rb us,rb.base=0→RowV σ st (n+m) (join n F G) us→(∀ p u,us[p]? =some u→w.cell? ⟨rb.blk,p,none⟩=some u)→BlkR σ w rb b):SrcOk H st o n a m b:=by
  refine ⟨fun nm e=>(hF nm e).1,fun _ _=>trivial,fun σ w hs hm hn=> ?_⟩
  have hnews: ∃ us:List Value,RowV σ st m G us∧ ∀ rb,0<m→σ a.nm=some rb→ ∀ j u,us[j]? =some u→w.cell? ((a.at rb).add j)=some u:=by
   rcases Nat.eq_zero_or_pos m with rfl|hm0
   · exact ⟨[],⟨by simp,fun j i hj=>absurd hj (by omega)⟩,fun _ h0=>absurd h0 (by omega)⟩
   · obtain ⟨rb,hrb⟩:=hm hm0
     obtain ⟨us,h1,h2⟩:=w8 (hG σ w rb hs hrb)
     refine ⟨us,h1,fun rb' _ hrb' j u hu=> ?_⟩
     rw [hrb] at hrb'
     cases hrb'
     rw [v7,← Nat.add_assoc]
     exact h2 j u hu
  have hold: ∃ olds:List Value,RowV σ st n F olds∧ ∀ nm rb,o=some nm→0<n→σ nm=some rb→rb.base=0→ ∀ j u,olds[j]? =some u→w.cell? ⟨rb.blk,j,none⟩=some u:=by
   rcases Nat.eq_zero_or_pos n with rfl|hn0
   · exact ⟨[],⟨by simp,fun j i hj=>absurd hj (by omega)⟩,fun _ _ _ h0=>absurd h0 (by omega)⟩
   · obtain ⟨nm,rb,e1,hrb,hb0⟩:=hn hn0
     obtain ⟨us,h1,h2⟩:=w8 ((hF nm e1).2 σ w rb hs hrb hb0)
     refine ⟨us,h1,fun nm' rb' e2 _ hrb' _ j u hu=> ?_⟩
     rw [e1] at e2
     cases e2
     rw [hrb] at hrb'
     cases hrb'
     have:=h2 j u hu
     simpa using this
  obtain ⟨news,n1,n2⟩:=hnews
  obtain ⟨olds,o1,o2⟩:=hold
  exact ⟨olds,news,o1.1,n1.1,n1.one,o2,n2,fun σ' w' rb' mo h0 hc=>hb σ' w' rb' _ h0 ((o1.join n1).mono mo) hc⟩
theorem nL (a:Nat): ∀ (cs:List Col) (i:Nat),yh (sD a cs) i=(yh cs i).map (kL a)
  | [],i=>rfl
  |c::cs,0=>rfl
  |c::cs,i+1=>nL a cs i
theorem oo (a:Nat): ∀ cs:List Col,yB (sD a cs)=yB cs
  | []=>rfl
  |c::cs=>by simp [sD,yB,oo a cs]
theorem ln (a:Nat) (c:Col) (j:Nat):zy (kL a c) j=zy c (j+a):=by cases c<;>rfl
theorem uJ {α:Type} (n:Nat) (f g:Nat→α) (j:Nat):uZ n f g j=if j<n then f j else g (j-n):=by
 unfold uZ
 by_cases h:j<n
 · have:Nat.blt j n=true:=by rw [Nat.blt_eq]; exact h
   simp [this,h]
 · have:Nat.blt j n=false:=by cases hb:Nat.blt j n; rfl; exact absurd (by rw [Nat.blt_eq] at hb; exact hb) h
   simp [this,h]
theorem nJ (n:Nat) (F G:Nat→Nat→PV) (j i:Nat):join n F G j i=if j<n then F j i else G (j-n) i:=by
 unfold join
 by_cases h:j<n
 · have:Nat.blt j n=true:=by rw [Nat.blt_eq]; exact h
   simp [this,h]
 · have:Nat.blt j n=false:=by cases hb:Nat.blt j n; rfl; exact absurd (by rw [Nat.blt_eq] at hb; exact hb) h
   simp [this,h]
theorem jT {n:Nat} {c d e:Col} (h:iO n c d=some e) (j:Nat):zy e j=if j<n then zy c j else zy d (j-n):=by
 unfold iO at h
 split at h
 · split at h
   · rename_i hk
     cases qQ hk
     cases h
     simp only [zy,uJ]
     split<;>rfl
   · cases h
 · cases h
   simp only [zy,uJ]
   split<;>rfl
 · cases h
   simp only [zy,uJ]
   split<;>rfl
 · cases h
   simp only [zy,uJ]
 · cases h
theorem sb {n:Nat}: ∀ {cs ds es:List Col},tV n cs ds=some es→yB es=yB cs∧yB es=yB ds∧ ∀ i e,yh es i=some e→ ∃ c d,yh cs i=some c∧yh ds i=some d∧ ∀ j,zy e j=if j<n then zy c j else zy d (j-n)
  | [],[],es,h=>by simp only [tV,Option.some.injEq] at h; subst h; exact ⟨rfl,rfl,fun i e he=>by simp [yh] at he⟩
  | c ::cs,d::ds,es,h=>by
   simp only [tV] at h
   split at h
   · rename_i e0 es0 h1 h2
     cases h
     obtain ⟨q1,q2,q3⟩:=sb h2
     refine ⟨by simp [yB,q1],by simp [yB,q2],fun i e he=> ?_⟩
     cases i with
     |zero=>
      simp only [yh,Option.some.injEq] at he
      subst he
      exact ⟨c,d,rfl,rfl,jT h1⟩
     |succ i=>exact q3 i e he
   · cases h
  | [],_::_,es,h=>by simp [tV] at h
  |_::_,[],es,h=>by simp [tV] at h
theorem xd {σ:Sg}: ∀ {vs:List PV} {ds:List Col},wU vs=some ds→yB ds=len vs∧ ∀ i v,nth vs i=some v→ ∃ d,yh ds i=some d∧ ∀ j u,VR1 σ v u→VR1 σ (zy d j) u
  | [],ds,h=>by simp only [wU,Option.some.injEq] at h; subst h; exact ⟨rfl,fun i v hv=>by simp [nth] at hv⟩
  | v :: vs,ds,h=>by
   simp only [wU] at h
   split at h
   · rename_i c cs h1 h2
     cases h
     obtain ⟨q1,q2⟩:=xd (σ:=σ) h2
     refine ⟨by simp [yB,len,q1],fun i x hx=> ?_⟩
     cases i with
     | zero=>
      simp only [nth,Option.some.injEq] at hx
      subst hx
      refine ⟨c,rfl,fun j u hu=> ?_⟩
      unfold j4 at h1
      split at h1
      · cases h1; exact hu
      · cases h1; exact hu
      · cases h1
        have:=hu.1
        cases this
        exact ⟨.bool _,hu.2⟩
      · cases h1; exact hu
      · split at h1
        · cases h1; exact hu
        · cases h1
     |succ i=>exact q2 i x hx
   · cases h
theorem qL {σ:Sg} {cs:List PV} {st:Nat}: ∀ {m p:Nat} {ds:List Col},kC cs st p m=some ds→yB ds=st∧ ∀ j i,j<m→i<st→ ∃ v,nth cs (p+(j*st+i))=some v∧ ∀ u,VR1 σ v u→VR1 σ (yR ds j i) u
  |0,p,ds,h=>by cases h
  | 1,p,ds,h=>by
   simp only [kC] at h
   split at h
   · rename_i vs hcut
     obtain ⟨c1,c2⟩:=xB hcut
     obtain ⟨q1,q2⟩:=xd (σ:=σ) h
     refine ⟨by omega,fun j i hj hi=> ?_⟩
     obtain rfl:j=0:=by omega
     obtain ⟨v,h3,h4⟩:=c2 i hi
     obtain ⟨d,hd,hd2⟩:=q2 i v h4
     exact ⟨v,by rw [Nat.zero_mul,Nat.zero_add]; exact h3,fun u hu=>by simp only [yR,hd]; exact hd2 _ _ hu⟩
   · cases h
  | m + 2,p,ds,h=>by
   simp only [kC] at h
   split at h
   · rename_i vs d0 hcut hl
     split at h
     · rename_i c hc
       obtain ⟨c1,c2⟩:=xB hcut
       obtain ⟨q1,q2⟩:=xd (σ:=σ) hc
       obtain ⟨r1,r2⟩:=qL (σ:=σ) hl
       obtain ⟨j1,j2,j3⟩:=sb h
       refine ⟨by omega,fun j i hj hi=> ?_⟩
       obtain ⟨e,he⟩:=xc (cs:=ds) (i:=i) (by omega)
       obtain ⟨c',d',e1,e2,e3⟩:=j3 i e he
       cases j with
       |zero=>
        obtain ⟨v,h3,h4⟩:=c2 i hi
        obtain ⟨d,hd,hd2⟩:=q2 i v h4
        rw [hd] at e1
        cases e1
        refine ⟨v,by rw [Nat.zero_mul,Nat.zero_add]; exact h3,fun u hu=> ?_⟩
        simp only [yR,he,e3]
        exact hd2 _ _ hu
       |succ j=>
        obtain ⟨v,h3,h4⟩:=r2 j i (by omega) hi
        refine ⟨v,by rw [← h3]; congr 1; rw [Nat.add_mul]; omega,fun u hu=> ?_⟩
        have:=h4 u hu
        simp only [yR,e2] at this
        simp only [yR,he,e3]
        rw [if_neg (by omega),Nat.add_sub_cancel]
        exact this
     · cases h
   · cases h
theorem qJ {H:zQ} {st:Nat} {a:PA} {m:Nat} {ds:List Col} (h:mW H st a m=some (true,ds)):a.st=st∧yB ds=st∧(∃ e,hget H a.nm=some e∧e.2≠ .dead)∧
 ∀ σ w rb,Sim σ w H→σ a.nm=some rb→ ∀ j i,j<m→i<st→ ∃ u,w.cell? ⟨rb.blk,rb.base+pos a+(j*st+i),none⟩=some u∧VR1 σ (yR ds j i) u:=by
 unfold mW at h
 split at h
 · rename_i x m' ds' h1 hh
   have e1:=Nat.eq_of_beq_eq_true h1
   split at h
   · rename_i h2 h3
     simp only [Option.some.injEq,Prod.mk.injEq,decide_eq_true_eq] at h
     obtain ⟨hle,rfl⟩:=h
     have e2:=Nat.eq_of_beq_eq_true h2
     have e3:=Nat.eq_of_beq_eq_true h3
     refine ⟨e1,by rw [oo]; exact e2,⟨_,hh,by simp⟩,fun σ w rb hs hr j i hj hi=> ?_⟩
     obtain ⟨c,hc⟩:=xc (cs:=ds') (i:=i) (by omega)
     obtain ⟨u,hu,hv⟩:=(hs.ent _ _ hh (by simp) rb hr).2.1 (j+a.ix) i c (by omega) hc
     refine ⟨u,?_,?_⟩
     · rw [← hu,z9,e3,e1,e2]
       congr 2
       simp only [Nat.add_mul]
       omega
     · simp only [yR,nL,hc,Option.map_some,ln]
       exact hv
   · cases h
 · rename_i x cs h1 hh
   have e1:=Nat.eq_of_beq_eq_true h1
   split at h
   · rename_i ds' hl
     simp only [Option.some.injEq,Prod.mk.injEq,true_and] at h
     subst h
     obtain ⟨q1,_⟩:=qL (σ:=fun _=>none) hl
     refine ⟨e1,q1,⟨_,hh,by simp⟩,fun σ w rb hs hr j i hj hi=> ?_⟩
     obtain ⟨v,h3,h4⟩:=(qL (σ:=σ) hl).2 j i hj hi
     obtain ⟨u,hu,hv⟩:=(hs.ent _ _ hh (by simp) rb hr).2.1 _ _ h3
     exact ⟨u,by rw [← hu,Nat.add_assoc],h4 _ hv⟩
   · cases h
 · cases h
theorem jm {H:zQ} {st:Nat} {o:Option Nat} {n:Nat} {oc:Option (List Col)} (hn:o=none→n=0) (h:iP H st o n=some (true,oc)):(oc=none∧n=0∧ ∀ nm,o=some nm→ ∃ e,hget H nm=some e∧e.2≠ .dead)∨ ∃ nm cs,o=some nm∧oc=some cs∧yB cs=st∧(∃ e,hget H nm=some e∧e.2≠ .dead)∧
 ∀ σ w rb,Sim σ w H→σ nm=some rb→rb.base=0→ ∀ j i,j<n→i<st→ ∃ u,w.cell? ⟨rb.blk,0+(j*st+i),none⟩=some u∧VR1 σ (yR cs j i) u:=by
 unfold iP at h
 split at h
 · simp only [Option.some.injEq,Prod.mk.injEq,true_and] at h
   exact .inl ⟨h.symm,hn rfl,fun nm e=>by cases e⟩
 · rename_i nm
   split at h
   · rename_i x n' cs hh
     split at h
     · rename_i h1
       simp only [Option.some.injEq,Prod.mk.injEq,decide_eq_true_eq] at h
       obtain ⟨hle,rfl⟩:=h
       have e1:=Nat.eq_of_beq_eq_true h1
       refine .inr ⟨nm,cs,rfl,rfl,e1,⟨_,hh,by simp⟩,fun σ w rb hs hr h0 j i hj hi=> ?_⟩
       obtain ⟨c,hc⟩:=xc (cs:=cs) (i:=i) (by omega)
       obtain ⟨u,hu,hv⟩:=(hs.ent _ _ hh (by simp) rb hr).2.1 j i c (by omega) hc
       refine ⟨u,?_,by simp only [yR,hc]; exact hv⟩
       rw [← hu,h0,e1]
     · cases h
   · rename_i x cs hh
     split at h
     · simp only [Option.some.injEq,Prod.mk.injEq,true_and] at h
       exact .inl ⟨h.symm,rfl,fun nm' e=>by cases e; exact ⟨_,hh,by simp⟩⟩
     · split at h
       · rename_i vs hcut
         split at h
         · rename_i ds' hds
           simp only [Option.some.injEq,Prod.mk.injEq,true_and] at h
           subst h
           obtain ⟨c1,c2⟩:=xB hcut
           obtain ⟨q1,_⟩:=xd (σ:=fun _=>none) hds
           refine .inr ⟨nm,ds',rfl,rfl,by omega,⟨_,hh,by simp⟩,fun σ w rb hs hr h0 j i hj hi=> ?_⟩
           obtain ⟨v,h3,h4⟩:=c2 i hi
           obtain ⟨u,hu,hv⟩:=(hs.ent _ _ hh (by simp) rb hr).2.1 _ _ h3
           obtain ⟨d,hd,hd2⟩:=(xd (σ:=σ) hds).2 i v h4
           have:j=0:=by omega
           subst this
           refine ⟨u,?_,by simp only [yR,hd]; exact hd2 _ _ hv⟩
           rw [← hu,h0]
           congr 2
           omega
         · cases h
       · cases h
     · cases h
   · cases h
theorem qD {σ:Sg} {w:World} {rb:RB} {n:Nat} {es:List Col} {us:List Value} (h0:rb.base=0) (h:RowV σ (yB es) n (yR es) us) (hc: ∀ p u,us[p]? =some u→w.cell? ⟨rb.blk,p,none⟩=some u):BlkR σ w rb (.cols n es):=by
 intro j i c hj hi
 obtain ⟨u,h1,h2⟩:=h.2 j i hj (wN hi)
 refine ⟨u,by rw [h0,Nat.zero_add]; exact hc _ _ h1,?_⟩
 simpa only [yR,hi] using h2
theorem RowV.congr {σ:Sg} {st n:Nat} {F G:Nat→Nat→PV} {us:List Value} (h:RowV σ st n F us) (e: ∀ j i,j<n→i<st→F j i=G j i):RowV σ st n G us:=⟨h.1,fun j i hj hi=>let ⟨u,h1,h2⟩:=h.2 j i hj hi; ⟨u,h1,by rw [← e j i hj hi]; exact h2⟩⟩
theorem ji {H:zQ} {fr st:Nat} {o:Option Nat} {n:Nat} {a:PA} {m:Nat} {K:Kon} (ho:o=none→n=0) (h:iM cond H fr st o n a m K):
    ∃ b,b≠ .dead∧K (.own fr st (n+m)) (yl (kill H o) fr (true,b)) (fr+1)∧a.st=st∧SrcOk H st o n a m b:=by
  unfold iM at h
  split at h
  · rename_i b oc c ds h1 h2
    split at h
    · rename_i es hj
      obtain ⟨hb,h⟩:=zz h
      obtain ⟨hc,hk⟩:=zz h
      subst hb hc
      obtain ⟨s1,s2,s3,s4⟩:=qJ h2
      refine ⟨_,by simp,hk,s1,?_⟩
      rcases jm ho h1 with ⟨rfl,rfl,hoe⟩|⟨nm,cs,rfl,rfl,c1,c2,c3⟩
      · simp only [l7,Option.some.injEq] at hj
        subst hj
        refine SrcOk.rows (F:=fun _ _=> .unk) (G:=yR ds) s4 (fun nm e=>⟨hoe nm e,fun σ w rb _ _ _ j i hj=>absurd hj (by omega)⟩) ho fun σ w rb us h0 hr hc=>qD h0 ?_ hc
        rw [s2]
        exact hr.congr fun j i _ _=>by rw [nJ]; simp
      · simp only [l7] at hj
        obtain ⟨j1,j2,j3⟩:=sb hj
        refine SrcOk.rows (F:=yR cs) (G:=yR ds) s4 (fun nm' e=>by cases e; exact ⟨c2,c3⟩) ho fun σ w rb us h0 hr hc=>qD h0 ?_ hc
        rw [j1,c1]
        refine hr.congr fun j i _ hi=> ?_
        obtain ⟨e,he⟩:=xc (cs:=es) (i:=i) (by omega)
        obtain ⟨c,d,k1,k2,k3⟩:=j3 i e he
        rw [nJ]
        simp only [yR,he,k1,k2,k3 j]
    · exact ol ho h
  · exact ol ho h
theorem jY {H : zQ} {fr st:Nat} {o:Option Nat} {n:Nat} {a:PA} {m:Nat} {K:Kon} (ho:o=none→n=0) (h:gf cond H fr st o n a m K):
    ∃ b,b≠ .dead∧K (.own fr st (n+m)) (yl (kill H o) fr (true,b)) (fr+1)∧a.st=st∧SrcOk H st o n a m b:=by
  unfold gf at h
  split at h
  · rename_i l r hl hr
    have hst:a.st=st:=by
     unfold ui at hr
     split at hr
     · exact Nat.eq_of_beq_eq_true ‹_›
     · cases hr
    have hr':wi H a m=some r:=by
     unfold ui at hr
     split at hr
     · exact hr
     · cases hr
    obtain ⟨he,hr2⟩:=vo hr'
    have hnews: ∀ σ w,Sim σ w H→(0<m→ ∃ rb,σ a.nm=some rb)→ ∃ us:List Value,VRs σ r us∧us.length=m*st∧(∀ u ∈ us,u.oneCell'=true)∧ ∀ rb,0<m→σ a.nm=some rb→ ∀ j u,us[j]? =some u→w.cell? ((a.at rb).add j)=some u:=fun σ w hs hm=>by
     rcases Nat.eq_zero_or_pos m with rfl|hm0
     · cases hh:σ a.nm with
       |some rb=>
        obtain ⟨us,h1,h2,h3,h4⟩:=hr2 σ w rb hs hh
        exact ⟨us,h1,by simpa using h2,h3,fun _ h0=>absurd h0 (by omega)⟩
       | none=>

        have:r= []:=by
         unfold wi at hr'
         split at hr'
         · rw [vP,Nat.zero_mul] at hr'
           have:=(xB hr').1
           cases r with
           |nil=>rfl
           |cons=>simp [len] at this
         · cases hr'
        subst this
        exact ⟨[],.nil,by simp,by simp,fun _ h0=>absurd h0 (by omega)⟩
     · obtain ⟨rb,hrb⟩:=hm hm0
       obtain ⟨us,h1,h2,h4,h3⟩:=hr2 σ w rb hs hrb
       refine ⟨us,h1,by rw [h2,hst],h4,fun rb' _ hrb' j u hu=> ?_⟩
       rw [hrb] at hrb'
       cases hrb'
       rw [v7]
       exact h3 j u hu
    refine ⟨_,by simp,h,hst,?_,fun _ _=>trivial,fun σ w hs hm hn=> ?_⟩
    · intro nm e
      subst e
      exact (vo (a:=⟨nm,st,0,0⟩) hl).1
    · obtain ⟨news,n1,n2,n4,n3⟩:=hnews σ w hs hm
      cases o with
      |none=>
       have e:=ho rfl
       subst e
       simp only [qf,Option.some.injEq] at hl
       subst hl
       refine ⟨[],news,by simp,n2,n4,by simp,n3,fun σ' w' rb' mo h0 hc=> ?_⟩
       exact pQ (n1.mono mo) n4 h0 (by simpa using hc)
      | some nm =>
       simp only [qf] at hl
       have hold: ∃ olds:List Value,VRs σ l olds∧olds.length=n*st∧(∀ u ∈ olds,u.oneCell'=true)∧ ∀ rb,0<n→σ nm=some rb→rb.base=0→ ∀ j u,olds[j]? =some u→w.cell? ⟨rb.blk,j,none⟩=some u:=by
        rcases Nat.eq_zero_or_pos n with rfl|hn0
        · have:l= []:=by
           unfold wi at hl
           split at hl
           · rw [vP,Nat.zero_mul] at hl
             have:=(xB hl).1
             cases l with
             |nil=>rfl
             |cons=>simp [len] at this
           · cases hl
          subst this
          exact ⟨[],.nil,by simp,by simp,fun _ h0=>absurd h0 (by omega)⟩
        · obtain ⟨nm',rb,e1,hrb,hb0⟩:=hn hn0
          cases e1
          obtain ⟨us,h1,h2,h4,h3⟩:=(vo (a:=⟨nm,st,0,0⟩) hl).2 σ w rb hs hrb
          refine ⟨us,h1,h2,h4,fun rb' _ hrb' hb0' j u hu=> ?_⟩
          rw [hrb] at hrb'
          cases hrb'
          have:=h3 j u hu
          simpa [z9,hb0] using this
       obtain ⟨olds,o1,o2,o4,o3⟩:=hold
       refine ⟨olds,news,o2,n2,n4,fun nm' rb e h0 hr hb=> ?_,n3,fun σ' w' rb' mo h0 hc=>pQ ((o1.append n1).mono mo) (fun u hu=>(List.mem_append.1 hu).elim (o4 u) (n4 u)) h0 hc⟩
       cases e
       exact o3 rb h0 hr hb
  · exact ji ho h
end Go.Ev
namespace Go.Ev
open Go.RowKit
theorem xn {H:zQ} {o:Option Nat} {n:Nat} {e:Bool×Blk} (h:hget (kill H o) n=some e) (hd:e.2≠ .dead):hget H n=some e∧o≠some n:=by
 cases o with
 |none=>exact ⟨h,by simp⟩
 | some m=>
  simp only [kill] at h
  by_cases e1:m=n
  · subst e1
    rw [xt] at h
    cases h
    exact absurd rfl hd
  · rw [zi _ _ _ _ e1] at h
    exact ⟨h,by simpa using e1⟩
theorem Sim.kill {σ:Sg} {w:World} {H:zQ} (h:Sim σ w H) (o:Option Nat):Sim σ w (kill H o):=
 ⟨fun n e hn hd=>h.ent n e (xn hn hd).1 hd,fun n m b e hn hm hb he=>h.dist n m b e (xn hn hb).1 (xn hm he).1 hb he⟩
theorem OwnB.unkill {σ:Sg} {H:zQ} {o:Option Nat} {k:Nat} (h:OwnB σ (kill H o) k):OwnB σ H k:=
 let ⟨n,b,rb,h1,h2,h3⟩:=h; ⟨n,b,rb,(xn h1 h2).1,h2,h3⟩
theorem Grow.kill (H:zQ) (o:Option Nat) (fr:Nat) (h: ∀ n,o=some n→n<fr∧ ∃ e,hget H n=some e):Grow H (kill H o) fr fr:=by
 cases o with
 |none=>exact Grow.refl _ _
 |some n=>exact Grow.put H n .dead false fr fr (Nat.le_refl _) (h n rfl).1 (.inr rfl) (.inr (h n rfl).2)
theorem Out.unkill {σ:Sg} {w:World} {H:zQ} {o:Option Nat} {fr fr':Nat} {v:PV} {H':zQ} {σ':Sg} {w':World} {v':Value} (h:Out σ w (kill H o) fr v H' fr' σ' w' v'):Out σ w H fr v H' fr' σ' w' v':=
 ⟨h.v,h.sim,h.mon,h.ext,h.frm.mono (fun _ hk=>hk.unkill) fun _ hk=>hk⟩
theorem tK (w:World) (l:List Value) (z:Array Value) (t:TypeId) (p:Nat) (u:Value) (h:l[p]? =some u):(w.alloc (.cells (l.toArray++z) t)).cell? ⟨w.heap.size,p,none⟩=some u:=by
 rw [xg]
 have hl:=(List.getElem?_eq_some_iff.1 h).1
 rw [Array.getElem?_append_left (by simpa using hl)]
 simpa using h
section
variable {P:Program}
theorem xb (w:World) (need old:Nat) (e:TypeId):need≤grownCap w need old e:=by
 unfold grownCap Question.cut
 simp only
 omega
theorem yo (z:Array Value) (n:Nat):(Builtin.zeroCells z n).size=n*z.size:=by simp [Builtin.zeroCells]
theorem th {σ:Sg} {w:World} {H:zQ} {fr st:Nat} {o:Option Nat} {n:Nat} {m:Nat} {b:Blk} {vals:List Value} {z:Array Value} {t:TypeId} {cap:Nat} (hs:Sim σ w H) (hn:NoneIn σ fr (fr+1))
    (hl:vals.length=(n+m)*st) (hz:z.size=(cap-(n+m))*st) (hcap:n+m≤cap)
    (hb: ∀ σ' w' rb',Mono σ σ'→rb'.base=0→(∀ p u,vals[p]? =some u→w'.cell? ⟨rb'.blk,p,none⟩=some u)→BlkR σ' w' rb' b):
    ∃ σ',Out σ w H fr (.own fr st (n+m)) (yl (kill H o) fr (true,b)) (fr+1) σ' (w.drew.alloc (.cells (vals.toArray++z) t)) (.slice (some ⟨w.heap.size,0,none⟩) (n+m) cap):=by
  have h0:σ fr=none:=hn fr (Nat.le_refl _) (by omega)
  have hsz:(vals.toArray++z).size=cap*st:=by
   simp only [Array.size_append,List.size_toArray,hl,hz]
   rw [← Nat.add_mul]
   congr 1
   omega
  have key:=tk (σ:=σ) (w:=w.drew) (H:=kill H o) (fr:=fr) (b:=b) (v:= .own fr st (n+m)) (v':= .slice (some ⟨w.heap.size,0,none⟩) (n+m) cap) (vals.toArray++z) t (cap*st) (hs.kill o).drew hn (by omega)
    (hb _ _ _ (xZ h0) rfl fun p u hp=>tK w.drew vals z t p u hp)
    (.own fr st (n+m) ⟨w.heap.size,0,cap*st⟩ cap (yY _ _ _) rfl hcap (Nat.le_refl _))
  have k2:=Out.unkill (o:=o) (H:=H) key
  exact ⟨_,k2.v,k2.sim,k2.mon,k2.ext,⟨k2.frm.os,k2.frm.tape,k2.frm.output,k2.frm.size,k2.frm.old,k2.frm.own⟩⟩
theorem kI {σ:Sg} {w:World} {H:zQ} {fr st nm:Nat} {n:Nat} {m:Nat} {b:Blk} {olds news:List Value} {rb:RB} {c:Nat} (hs:Sim σ w H) (hn:NoneIn σ fr (fr+1)) {e:Blk}
    (hg:hget H nm=some (true,e)) (he:e≠ .dead) (hr:σ nm=some rb) (h0:rb.base=0) (hc:n+m≤c) (hcap:c*st≤rb.cap) (hlo:olds.length=n*st) (hln:news.length=m*st)
    (hold:0<n→ ∀ j u,olds[j]? =some u→w.cell? ⟨rb.blk,j,none⟩=some u)
    (hb: ∀ σ' w' rb',Mono σ σ'→rb'.base=0→(∀ p u,(olds++news)[p]? =some u→w'.cell? ⟨rb'.blk,p,none⟩=some u)→BlkR σ' w' rb' b):
    (∀ j,j<news.length→(w.cell? ⟨rb.blk,n*st+j,none⟩).isSome=true)∧Out σ w H fr (.own fr st (n+m)) (yl (kill H (some nm)) fr (true,b)) (fr+1) (vr σ fr rb) (w.setCells rb.blk (n*st) news) (.slice (some ⟨rb.blk,0,none⟩) (n+m) c):=by
  have hf:σ fr=none:=hn fr (Nat.le_refl _) (by omega)
  obtain ⟨e1,e2,e3⟩:=hs.ent _ _ hg he rb hr
  obtain ⟨e4,e5,e6⟩:=e3 rfl
  have hroom: ∀ j,j<news.length→n*st+j<rb.cap:=fun j hj=>by
   have:(n+m)*st≤c*st:=Nat.mul_le_mul_right _ hc
   rw [Nat.add_mul] at this
   omega
  have hin: ∀ j,j<news.length→(w.cell? ⟨rb.blk,n*st+j,none⟩).isSome=true:=fun j hj=>by
   obtain ⟨u,hu⟩:=e6 _ (hroom j hj)
   simp [hu]
  refine ⟨hin,?_⟩
  have hcells: ∀ p u,(olds++news)[p]? =some u→(w.setCells rb.blk (n*st) news).cell? ⟨rb.blk,p,none⟩=some u:=fun p u hp=>by
   by_cases hlt:p<olds.length
   · rw [List.getElem?_append_left hlt] at hp
     have hn0:0<n:=by
      rcases Nat.eq_zero_or_pos n with rfl|h
      · simp at hlo; subst hlo; simp at hlt
      · exact h
     rw [World.cell?_setCells_out rb.blk news _ w _ (fun _ _=>by simp only; omega)]
     exact hold hn0 p u hp
   · rw [List.getElem?_append_right (by omega)] at hp
     have hlp:p-olds.length<news.length:=(List.getElem?_eq_some_iff.1 hp).1
     have:=World.cell?_setCells_in rb.blk news (n*st) w hin (p-olds.length) hlp
     rw [show n*st+(p-olds.length)=p by omega] at this
     rw [this]
     rw [List.getElem?_eq_getElem hlp] at hp
     exact hp
  have hother: ∀ k,k≠rb.blk→(w.setCells rb.blk (n*st) news).heap[k]? =w.heap[k]? :=fun k hk=>yz _ _ _ _ _ hk
  refine ⟨.own fr st (n+m) rb c (yY _ _ _) h0 hc hcap,?_,xZ hf,fun k hk=>yk (by omega),?_⟩
  · refine (hs.kill (some nm)).new hf (Nat.le_of_eq (yV _ _ _ _).symm) (fun k q r hk hq hr'=> ?_) fun _ rb' hrb'=> ?_
    · obtain ⟨h1,h2⟩:=xn hk hq
      have hne:r.blk≠rb.blk:=fun x=>hs.dist nm k e q hg h1 he hq (fun x=>h2 (by rw [x])) rb r hr hr' x.symm
      exact ⟨hne,fun _=>hother _ hne⟩
    · rw [yY] at hrb'
      cases hrb'
      refine ⟨by rw [yV]; exact e1,hb _ _ _ (xZ hf) h0 hcells,fun _=>⟨h0,fun q hs=>by rw [World.frozen?_setCells]; exact e5 q (wx hin hs),fun q hq=> ?_⟩⟩
      by_cases hin2:n*st≤q∧q<n*st+news.length
      · have:=World.cell?_setCells_in rb.blk news (n*st) w hin (q-n*st) (by omega)
        rw [show n*st+(q-n*st)=q by omega] at this
        exact ⟨_,this⟩
      · rw [World.cell?_setCells_out rb.blk news (n*st) w _ (fun _ _=>by simp only; omega)]
        exact e6 q hq
  · have hst:=yf rb.blk news (n*st) w
    refine ⟨hst.1,hst.2.1,hst.2.2,Nat.le_of_eq (yV _ _ _ _).symm,fun k _ hk=>hother k fun x=>hk ⟨nm,e,rb,hg,he,hr,x.symm⟩,fun k hk=> ?_⟩
    obtain ⟨q,b',r,h1,h2,h3,h4⟩:=hk
    by_cases e7:fr=q
    · subst e7
      rw [yY] at h3
      cases h3
      exact .inr ⟨nm,e,rb,hg,he,hr,h4⟩
    · rw [zi _ _ _ _ e7] at h1
      rw [yk fun x=>e7 x.symm] at h3
      exact .inr ⟨q,b',r,(xn h1 h2).1,h2,h3,h4⟩
theorem qq {σ:Sg} {w:World} {H:zQ} {fr st:Nat} {o:Option Nat} {b:Blk} (A:Option Addr) (hs:Sim σ w H) (hn:NoneIn σ fr (fr+1)):
    Out σ w H fr (.own fr st 0) (yl (kill H o) fr (true,b)) (fr+1) σ w (.slice A 0 0):=by
  have hf:σ fr=none:=hn fr (Nat.le_refl _) (by omega)
  have hk:=hs.kill o
  refine ⟨.own0 _ _ _,⟨fun n e h=> ?_,fun n m b' e h1 h2 hb he hne r s hr hs'=> ?_⟩,Mono.refl _,fun _ _=>rfl,⟨rfl,rfl,rfl,Nat.le_refl _,fun _ _ _=>rfl,fun k hk'=> ?_⟩⟩
  · by_cases e1:fr=n
    · subst e1
      intro _ rb hrb
      rw [hf] at hrb
      cases hrb
    · rw [zi _ _ _ _ e1] at h
      exact hk.ent n e h
  · by_cases e1:fr=n
    · subst e1
      rw [hf] at hr
      cases hr
    · by_cases e2:fr=m
      · subst e2
        rw [hf] at hs'
        cases hs'
      · rw [zi _ _ _ _ e1] at h1
        rw [zi _ _ _ _ e2] at h2
        exact hk.dist n m b' e h1 h2 hb he hne r s hr hs'
  · obtain ⟨q,b',r,h1,h2,h3,h4⟩:=hk'
    by_cases e7:fr=q
    · subst e7
      rw [hf] at h3
      cases h3
    · rw [zi _ _ _ _ e7] at h1
      exact .inr ⟨q,b',r,(xn h1 h2).1,h2,h3,h4⟩
theorem kU {H:zQ} {st:Nat} {s:PV} {o:Option Nat} {n:Nat} (h:lP H st s=some (o,n)):(o=none→n=0)∧(∀ nm,o=some nm→ ∃ e,hget H nm=some (true,e))∧ ∀ σ v,VR σ s v→
 (n=0∧ ∃ A,v= .slice A 0 0)∨ ∃ nm rb c,o=some nm∧σ nm=some rb∧rb.base=0∧n≤c∧c*st≤rb.cap∧v= .slice (some ⟨rb.blk,0,none⟩) n c:=by
 unfold lP at h
 split at h
 · cases h
   exact ⟨fun _=>rfl,by simp,fun σ v hv=>by cases hv; exact .inl ⟨rfl,_,rfl⟩⟩
 · cases h
   exact ⟨fun _=>rfl,by simp,fun σ v hv=>by cases hv; exact .inl ⟨rfl,_,rfl⟩⟩
 · rename_i nm st' k
   split at h
   · rename_i e hb hg
     cases h
     have:=Nat.eq_of_beq_eq_true hb
     subst this
     refine ⟨by simp,fun nm' e=>by cases e; exact ⟨_,hg⟩,fun σ v hv=> ?_⟩
     cases hv with
     |own0 _ _ A=>exact .inl ⟨rfl,A,rfl⟩
     |own _ _ _ rb c h1 h2 h3 h4=>exact .inr ⟨nm,rb,c,rfl,h1,h2,h3,h4,rfl⟩
   · cases h
 · cases h
theorem iA {need cap by_:Nat} (h:cap<need) (hn:need≤most) (hb:by_<4097):Builtin.nextslicecap need cap*by_≤281474976710656:=by
 have h1:=nextslicecap_le h
 have h2:Builtin.nextslicecap need cap*by_≤(2*need)*4096:=Nat.mul_le_mul h1 (by omega)
 unfold most at hn
 omega
theorem tY (w:World) (t ty e:TypeId) (i:TypeInfo) (ht:P.underlying t=some (.slice e)) (hi:P.info? e=some i)
    (blk n c:Nat) (B:Option Addr) (m c':Nat) (news:List Value) (hl:news.length=m*i.size) (hnews:0<m→ ∀ j v,∃ b,B=some b∧(news[j]? =some v→w.cell? (b.add j)=some v))
    (hroom:n+m≤c) (hc: ∀ j,j<news.length→(w.cell? ⟨blk,n*i.size+j,none⟩).isSome=true) (hf: ∀ o,(w.cell? ⟨blk,o,none⟩).isSome=true→w.frozen? ⟨blk,o,none⟩=false) (h1: ∀ v ∈ news,v.oneCell'=true):
    (Builtin.append_ #[t,t] ty #[.slice (some ⟨blk,0,none⟩) n c,.slice B m c']).run P w= .ok (.slice (some ⟨blk,0,none⟩) (n+m) c) (w.setCells blk (n*i.size) news):=by
  have hfc:(Builtin.firstCells i.size m (.slice B m c')).run P w= .ok news.toArray w:=by
   rcases Nat.eq_zero_or_pos m with rfl|hm
   · simp at hl
     subst hl
     cases B with
     |none=>simp [Builtin.firstCells]
     |some b=>simp [Builtin.firstCells,loadCells,loadCellsFrom]
   · obtain ⟨b,rfl,_⟩:=hnews hm 0 undef
     exact run_firstCells_some (P:=P) w i.size m b m c' news hl fun j v hv=>by
      obtain ⟨b',e,h⟩:=hnews hm j v
      cases e
      exact h hv
  have hst:=run_storeCells_cells (P:=P) blk (n*i.size) news 0 w (by simpa using hc) (fun j hj=>hf _ (by simpa using hc j hj)) h1
  rw [Nat.add_zero] at hst
  have hadd:(⟨blk,0,none⟩:Addr).add (n*i.size)=⟨blk,n*i.size,none⟩:=by rw [wd,Nat.zero_add]
  simp [Builtin.append_,run_underlying ht,sizeOf,typeInfo,hi,Builtin.lenOf,hroom,hfc,hadd,hst]
theorem xT (w:World) (t ty e:TypeId) (i:TypeInfo) (ht:P.underlying t=some (.slice e)) (hi:P.info? e=some i) (A:Option Addr) (n c:Nat) (hnc:n≤c) (B:Option Addr) (c':Nat):
    (Builtin.append_ #[t,t] ty #[.slice A n c,.slice B 0 c']).run P w= .ok (.slice A n c) w:=by
  have hfc:(Builtin.firstCells i.size 0 (.slice B 0 c')).run P w= .ok #[] w:=by
   cases B with
   |none=>simp [Builtin.firstCells]
   |some b=>simp [Builtin.firstCells,loadCells,loadCellsFrom]
  cases A<;>simp [Builtin.append_,run_underlying ht,sizeOf,typeInfo,hi,Builtin.lenOf,hnc,hfc,storeCells]
end
end Go.Ev
namespace Go.Ev
open Go.RowKit
def Names (H:zQ) (fr:Nat):Prop:= ∀ n e,hget H n=some e→n<fr
theorem yp: ∀ {l:Lvl} {n:Nat} {e:Bool×Blk},zp l n=some e→(n,e) ∈ l
  | [],n,e,h=>by simp [zp] at h
  | (k,x)::l,n,e,h=>by
   simp only [zp] at h
   split at h
   · rename_i hb
     cases h
     have:=Nat.eq_of_beq_eq_true hb
     subst this
     exact List.mem_cons_self
   · exact List.mem_cons_of_mem _ (yp h)
theorem Names.grow {H H':zQ} {fr fr':Nat} (h:Names H fr) (g:Grow H H' fr fr') (hne:H≠ []):Names H' fr':=by
 obtain ⟨g1,⟨l,g2,g3⟩,-⟩:=g
 cases H with
 |nil=>exact absurd rfl hne
 | cons h0 t=>
  rw [g2 h0 t rfl]
  intro n e hn
  rw [wk] at hn
  split at hn
  · rename_i x hx
    exact (g3 _ (yp hx)).1
  · exact Nat.lt_of_lt_of_le (h n e hn) g1
section
variable {P:Program}
theorem gG {H:zQ} {fr:Nat} {t e:TypeId} {J:TypeInfo} {z:List PV} {s x:PV} {K:Kon} (hN:Names H fr) (ht:P.underlying t=some (.slice e)) (hi:P.info? e=some J) (hz:mkZ J=some z) (hlz:len z=J.size) (hb:J.bytes<4097)
    (h:app cond H fr J.size s x K): ∃ v H' fr',K v H' fr'∧Grow H H' fr fr'∧ ∀ σ w sv xv ty,Sim σ w H→NoneIn σ fr fr'→VR σ s sv→VR σ x xv→
     ∃ v' σ' w',(Builtin.append_ #[t,t] ty #[sv,xv]).run P w= .ok v' w'∧Out σ w H fr v H' fr' σ' w' v':=by
  obtain ⟨zv,hzv,-,hzr⟩:=ux hz
  have hzs:zv.cells.size=J.size:=by
   have:=(hzr fun _=>none).length
   rw [← hlz,← this]
   rfl
  unfold app at h
  split at h
  · exact h.elim
  rename_i o n ho
  obtain ⟨o1,o2,o3⟩:=kU ho
  have nothing: ∀ σ w sv (B:Option Addr) c' ty,VR σ s sv→(Builtin.append_ #[t,t] ty #[sv,.slice B 0 c']).run P w= .ok sv w:=fun σ w sv B c' ty hs=>by
   rcases o3 σ sv hs with ⟨rfl,A,rfl⟩|⟨nm,rb,c,h1,h2,h3,h4,h5,rfl⟩
   · exact xT w t ty e J ht hi A 0 0 (Nat.le_refl _) B c'
   · exact xT w t ty e J ht hi _ n c h4 B c'
  split at h
  · exact ⟨_,_,_,h,Grow.refl _ _,fun σ w sv xv ty hs _ hsv hxv=>by cases hxv; exact ⟨_,σ,w,nothing σ w sv _ _ ty hsv,Out.same hs hsv⟩⟩
  · exact ⟨_,_,_,h,Grow.refl _ _,fun σ w sv xv ty hs _ hsv hxv=>by cases hxv; exact ⟨_,σ,w,nothing σ w sv _ _ ty hsv,Out.same hs hsv⟩⟩
  · exact ⟨_,_,_,h,Grow.refl _ _,fun σ w sv xv ty hs _ hsv hxv=>by cases hxv; exact ⟨_,σ,w,nothing σ w sv _ _ ty hsv,Out.same hs hsv⟩⟩
  · split at h
    · exact h.elim
    rename_i a m hsp
    obtain ⟨hm,h⟩:=zz h
    have hm:n+m≤most:=by simpa using hm
    obtain ⟨b,hbd,hk,hst,s1,-,s2⟩:=jY o1 h
    refine ⟨_,_,_,hk,?_,fun σ w sv xv ty hs hn hsv hxv=> ?_⟩
    · refine Grow.trans (Grow.kill H o fr fun q hq=> ?_) (Grow.put _ _ _ _ _ _ (by omega) (by omega) (.inl rfl) (.inl (by omega)))
      obtain ⟨x,hx⟩:=o2 q hq
      exact ⟨hN _ _ hx,_,hx⟩
    · obtain ⟨B,c',rfl,hmc,hB⟩:=wO hsp hxv
      obtain ⟨olds,news,l1,l2,l3,l4,l5,l6⟩:=s2 σ w hs (fun h0=>let ⟨rb,h1,_⟩:=hB h0; ⟨rb,h1⟩) (fun h0=>by
       rcases o3 σ sv hsv with ⟨h1,_⟩|⟨nm,rb,c,h1,h2,h3,_⟩
       · omega
       · exact ⟨nm,rb,h1,h2,h3⟩)
      have hnews:0<m→ ∃ rb,σ a.nm=some rb∧B=some (a.at rb)∧ ∀ j v,news[j]? =some v→w.cell? ((a.at rb).add j)=some v:=fun h0=>by
       obtain ⟨rb,h1,h2⟩:=hB h0
       exact ⟨rb,h1,h2,l5 rb h0 h1⟩
      rcases o3 σ sv hsv with ⟨rfl,A,rfl⟩|⟨nm,rb,c,rfl,h2,h3,h4,h5,rfl⟩
      · rcases Nat.eq_zero_or_pos m with rfl|hm0
        · exact ⟨_,σ,w,xT w t ty e J ht hi A 0 0 (Nat.le_refl _) B c',qq A hs hn⟩
        · obtain ⟨rb,h1,rfl,h2⟩:=hnews hm0
          have e0:olds= []:=by simpa using l1
          subst e0
          have hfit:=iA (need:=0+m) (cap:=0) (by omega) hm hb
          cases A with
          |none=>
           have hr:=run_append_nil (P:=P) w t ty e J zv ht hi hzv (a.at rb) m c' news l2 h2 hm0 (by unfold most at hm; omega) (by rw [Nat.zero_add,nextslicecap_zero hm0] at hfit; exact hfit)
           have hcap:=xb w m 0 e
           obtain ⟨σ',ho'⟩:=th (fr:=fr) (st:=J.size) (o:=o) (n:=0) (m:=m) (b:=b) (vals:=news) (z:=Builtin.zeroCells zv.cells (grownCap w m 0 e-m)) (t:=e) (cap:=grownCap w m 0 e) hs hn (by simpa using l2) (by rw [yo,hzs,Nat.zero_add]) (by omega) (fun σ' w' rb' m1 m2 m3=>l6 σ' w' rb' m1 m2 (by simpa using m3))
           rw [Nat.zero_add] at ho' ⊢
           exact ⟨_,σ',_,hr,ho'⟩
          |some A=>
           have hr:=run_append_grow (P:=P) w t ty e J zv ht hi hzv A 0 0 [] (by simp) (by simp) (a.at rb) m c' news l2 h2 (by omega) (by unfold most at hm; omega) hfit
           have hcap:=xb w (0+m) 0 e
           obtain ⟨σ',ho'⟩:=th (fr:=fr) (st:=J.size) (o:=o) (n:=0) (m:=m) (b:=b) (vals:=news) (z:=Builtin.zeroCells zv.cells (grownCap w (0+m) 0 e-(0+m))) (t:=e) (cap:=grownCap w (0+m) 0 e) hs hn (by simpa using l2) (by rw [yo,hzs]) (by omega) (fun σ' w' rb' m1 m2 m3=>l6 σ' w' rb' m1 m2 (by simpa using m3))
           refine ⟨_,σ',_,hr,?_⟩
           simpa using ho'
      · obtain ⟨eb,heb⟩:=o2 nm rfl
        obtain ⟨e',he',hd'⟩:=s1 nm rfl
        rw [heb] at he'
        cases he'
        have hfz:=(hs.ent _ _ heb hd' rb h2).2.2 rfl
        by_cases hroom:n+m≤c
        · obtain ⟨r1,r2⟩:=kI hs hn heb hd' h2 h3 hroom h5 l1 l2 (fun h0=>l4 nm rb rfl h0 h2 h3) l6
          refine ⟨_,_,_,tY w t ty e J ht hi rb.blk n c B m c' news l2 (fun h0 j v=> ?_) hroom r1 hfz.2.1 l3,r2⟩
          obtain ⟨rb',h1,h2',h3'⟩:=hnews h0
          exact ⟨_,h2',h3' j v⟩
        · have hm0:0<m:=by omega
          obtain ⟨rb',h1,rfl,h2'⟩:=hnews hm0
          have hfit:=iA (need:=n+m) (cap:=c) (by omega) hm hb
          have holds: ∀ j v,olds[j]? =some v→w.cell? ((⟨rb.blk,0,none⟩:Addr).add j)=some v:=fun j v hv=>by
           rw [wd,Nat.zero_add]
           rcases Nat.eq_zero_or_pos n with rfl|hn0
           · simp at l1; subst l1; simp at hv
           · exact l4 nm rb rfl hn0 h2 h3 j v hv
          have hr:=run_append_grow (P:=P) w t ty e J zv ht hi hzv ⟨rb.blk,0,none⟩ n c olds l1 holds (a.at rb') m c' news l2 h2' (by omega) (by unfold most at hm; omega) hfit
          have hcap:=xb w (n+m) c e
          obtain ⟨σ',ho'⟩:=th (fr:=fr) (st:=J.size) (o:=some nm) (n:=n) (m:=m) (b:=b) (vals:=olds++news) (z:=Builtin.zeroCells zv.cells (grownCap w (n+m) c e-(n+m))) (t:=e) (cap:=grownCap w (n+m) c e) hs hn (by simp [l1,l2,Nat.add_mul]) (by rw [yo,hzs]) (by omega) l6
          refine ⟨_,σ',_,hr,?_⟩
          simpa using ho'
end
end Go.Ev
namespace Go.Ev
open Go.RowKit
theorem uW {α:Type} (p n:Nat) (f g:Nat→α) (j:Nat):rP p n f g j=if p≤j∧j<p+n then g (j-p) else f j:=by
 unfold rP
 by_cases h1:p≤j
 · rw [show Nat.ble p j=true from Nat.ble_eq_true_of_le h1,cond_true]
   by_cases h2:j<p+n
   · rw [show Nat.blt j (p+n)=true from Nat.blt_eq.mpr h2,cond_true,if_pos ⟨h1,h2⟩]
   · rw [show Nat.blt j (p+n)=false by rw [Bool.eq_false_iff]; exact fun e=>h2 (Nat.blt_eq.mp e),cond_false,if_neg (fun h=>h2 h.2)]
 · rw [show Nat.ble p j=false by rw [Bool.eq_false_iff]; exact fun e=>h1 (Nat.le_of_ble_eq_true e),cond_false,if_neg (fun h=>h1 h.1)]
theorem jR {p n:Nat} {c d e:Col} (h:gN p n c d=some e) (j:Nat):zy e j=if p≤j∧j<p+n then zy d (j-p) else zy c j:=by
 unfold gN at h
 split at h
 · split at h
   · rename_i hk
     cases qQ hk
     cases h
     simp only [zy,uW]
     split<;>rfl
   · cases h
 · cases h
   simp only [zy,uW]
   split<;>rfl
 · cases h
   simp only [zy,uW]
   split<;>rfl
 · cases h
   simp only [zy,uW]
 · cases h
theorem pg {p n:Nat}: ∀ {cs ds es:List Col},sx p n cs ds=some es→yB es=yB cs∧yB es=yB ds∧ ∀ i e,yh es i=some e→ ∃ c d,yh cs i=some c∧yh ds i=some d∧ ∀ j,zy e j=if p≤j∧j<p+n then zy d (j-p) else zy c j
  | [],[],es,h=>by simp only [sx,Option.some.injEq] at h; subst h; exact ⟨rfl,rfl,fun i e he=>by simp [yh] at he⟩
  | c ::cs,d::ds,es,h=>by
   simp only [sx] at h
   split at h
   · rename_i e0 es0 h1 h2
     cases h
     obtain ⟨q1,q2,q3⟩:=pg h2
     refine ⟨by simp [yB,q1],by simp [yB,q2],fun i e he=> ?_⟩
     cases i with
     |zero=>
      simp only [yh,Option.some.injEq] at he
      subst he
      exact ⟨c,d,rfl,rfl,jR h1⟩
     |succ i=>exact q3 i e he
   · cases h
  | [],_::_,es,h=>by simp [sx] at h
  |_::_,[],es,h=>by simp [sx] at h
theorem Sim.upd0 {σ:Sg} {w:World} {H:zQ} {n:Nat} {b0 b:Blk} (h:Sim σ w H) (hg:hget H n=some (true,b0)) (hd0:b0≠ .dead) (hb: ∀ rb,σ n=some rb→BlkR σ w rb b):Sim σ w (yl H n (true,b)):=by
 constructor
 · intro m e hm
   by_cases e1:n=m
   · subst e1
     rw [xt] at hm
     cases hm
     intro _ rb hr
     obtain ⟨h1,h2,h3⟩:=h.ent _ _ hg hd0 rb hr
     exact ⟨h1,hb rb hr,h3⟩
   · rw [zi _ _ _ _ e1] at hm
     exact h.ent m e hm
 · intro m k b' e hm hke hb' he hne r s hr' hsk
   by_cases e1:n=m
   · subst e1
     rw [zi _ _ _ _ hne] at hke
     exact h.dist n k b0 e hg hke hd0 he hne r s hr' hsk
   · rw [zi _ _ _ _ e1] at hm
     by_cases e2:n=k
     · subst e2
       exact h.dist m n b' (true,b0) hm hg hb' hd0 hne r s hr' hsk
     · rw [zi _ _ _ _ e2] at hke
       exact h.dist m k b' e hm hke hb' he hne r s hr' hsk
theorem kZ {σ:Sg} {w:World} {H:zQ} {n fr:Nat} {b0 b:Blk} {v:PV} {u:Value} (h:Sim σ w H) (hg:hget H n=some (true,b0)) (hd0:b0≠ .dead) (hb: ∀ rb,σ n=some rb→BlkR σ w rb b) (hv:VR σ v u):
    Out σ w H fr v (yl H n (true,b)) fr σ w u:=by
  refine ⟨hv,h.upd0 hg hd0 hb,Mono.refl _,fun _ _=>rfl,rfl,rfl,rfl,Nat.le_refl _,fun k _ hk'=>rfl,fun k hk'=> ?_⟩
  obtain ⟨m,b',r,h1,h2,h3,h4⟩:=hk'
  by_cases e1:n=m
  · subst e1
    exact .inr ⟨n,b0,r,hg,hd0,h3,h4⟩
  · rw [zi _ _ _ _ e1] at h1
    exact .inr ⟨m,b',r,h1,h2,h3,h4⟩
theorem p6 {H:zQ} {a:PA} {n:Nat} {vs:List PV} (h:wi H a n=some vs):len vs=n*a.st:=by
 unfold wi at h
 split at h
 · rw [(xB h).1,vP]
 · cases h
def gh (H:zQ) (st:Nat) (d s:PA) (m k:Nat) (b:Blk):Prop:=
 ∃ b0,hget H d.nm=some (true,b0)∧b0≠ .dead∧ ∀ σ w,Sim σ w H→(k=0→ ∀ rb,σ d.nm=some rb→BlkR σ w rb b)∧
  ∀ rb rs,k≤m→σ d.nm=some rb→σ s.nm=some rs→ ∃ us:List Value,us.length=k*st∧(∀ u ∈ us,u.oneCell'=true)∧(∀ j u,us[j]? =some u→w.cell? ((s.at rs).add j)=some u)∧
   (∀ j,j<us.length→(w.cell? ⟨rb.blk,pos d+j,none⟩).isSome=true)∧BlkR σ (w.setCells rb.blk (pos d) us) rb b
theorem jl {H : zQ} {fr st:Nat} {d s:PA} {m k:Nat} {K:Kon} (h:i3 cond H fr st d s m k K): ∃ b,K (.int .i64 k) (yl H d.nm (true,b)) fr∧gh H st d s m k b:=by
 unfold i3 at h
 split at h
 · rename_i n' cs h1 h2 hh
   have e1:=Nat.eq_of_beq_eq_true h1
   have e2:=Nat.eq_of_beq_eq_true h2
   split at h
   · rename_i bb ds hsrc h3
     have e3:=Nat.eq_of_beq_eq_true h3
     split at h
     · rename_i es hes
       obtain ⟨hle,h⟩:=zz h
       obtain ⟨hbb,hk⟩:=zz h
       subst hbb
       have hle:d.ix+k≤n':=by simpa using hle
       obtain ⟨s1,s2,s3,s4⟩:=qJ hsrc
       obtain ⟨o1,o2,o3⟩:=pg hes
       have hpos:pos d=d.ix*st:=by rw [z9,e1,e2,Nat.zero_add]
       refine ⟨_,hk,_,hh,by simp,fun σ w hs=>⟨fun h0 rb hr=> ?_,fun rb rs hkm hr hr2=> ?_⟩⟩
       · obtain ⟨q1,q2,q3⟩:=hs.ent _ _ hh (by simp) rb hr
         intro j i c hj hc
         obtain ⟨c0,d0,k1,k2,k3⟩:=o3 i c hc
         rw [k3 j,if_neg (by omega),o1]
         exact q2 j i c0 hj k1
       · obtain ⟨q1,q2,q3⟩:=hs.ent _ _ hh (by simp) rb hr
         obtain ⟨q4,q5,q6⟩:=q3 rfl
         obtain ⟨us,r1,r2⟩:=w8 (σ:=σ) (w:=w) (b:=rs.blk) (p:=rs.base+pos s) (st:=st) (n:=k) (F:=yR ds) (fun j i hj hi=>s4 σ w rs hs hr2 j i (by omega) hi)
         have hcell: ∀ a i,a<k→i<st→ ∃ u,w.cell? ⟨rb.blk,pos d+(a*st+i),none⟩=some u:=by
          intro a i ha hi
          obtain ⟨c,hc⟩:=xc (cs:=cs) (i:=i) (by omega)
          obtain ⟨u,hu,_⟩:=q2 (d.ix+a) i c (by omega) hc
          refine ⟨u,?_⟩
          rw [← hu,hpos,q4,e3]
          congr 2
          rw [Nat.add_mul]; omega
         have hin: ∀ j,j<us.length→(w.cell? ⟨rb.blk,pos d+j,none⟩).isSome=true:=by
          intro j hj
          rw [r1.1] at hj
          have hst:0<st:=by
           rcases Nat.eq_zero_or_pos st with e|e
           · subst e; simp at hj
           · exact e
          obtain ⟨u,hu⟩:=hcell (j / st) (j % st) ((Nat.div_lt_iff_lt_mul hst).2 hj) (Nat.mod_lt _ hst)
          rw [Nat.div_add_mod'] at hu
          rw [hu]; rfl
         refine ⟨us,r1.1,r1.one,fun j u hu=> ?_,hin,fun j i c hj hc=> ?_⟩
         · rw [v7,← Nat.add_assoc]; exact r2 j u hu
         · obtain ⟨c0,d0,k1,k2,k3⟩:=o3 i c hc
           have hi:i<st:=by have:=wN k1; omega
           rw [k3 j,o1,e3,q4,Nat.zero_add]
           by_cases hjk:d.ix≤j∧j<d.ix+k
           · rw [if_pos hjk]
             obtain ⟨u,hu,hv⟩:=r1.2 (j-d.ix) i (by omega) hi
             have hlt:=(List.getElem?_eq_some_iff.1 hu).1
             have:=World.cell?_setCells_in rb.blk us (pos d) w hin _ hlt
             have he:pos d+((j-d.ix)*st+i)=j*st+i:=by
              rw [hpos,← Nat.add_assoc,← Nat.add_mul,show d.ix+(j-d.ix)=j by omega]
             rw [he] at this
             rw [List.getElem?_eq_getElem hlt] at hu
             cases hu
             refine ⟨_,this,?_⟩
             simp only [yR,k2] at hv
             exact hv
           · rw [if_neg hjk]
             obtain ⟨u,hu,hv⟩:=q2 j i c0 hj k1
             rw [q4,Nat.zero_add,e3] at hu
             refine ⟨u,?_,hv⟩
             rw [World.cell?_setCells_out rb.blk us (pos d) w _ (fun _ _=>by
              simp only
              rw [hpos,r1.1]
              rcases Nat.lt_or_ge j d.ix with h5|h5
              · have:(j+1)*st≤d.ix*st:=Nat.mul_le_mul_right _ h5
                rw [Nat.add_mul] at this; omega
              · have:(d.ix+k)*st≤j*st:=Nat.mul_le_mul_right _ (by omega)
                rw [Nat.add_mul] at this; omega)]
             exact hu
     · exact h.elim
   · exact h.elim
 · exact h.elim
theorem jd {H : zQ} {fr st:Nat} {d s:PA} {m k:Nat} {K:Kon} (h:iR cond H fr st d s m k K): ∃ b,K (.int .i64 k) (yl H d.nm (true,b)) fr∧gh H st d s m k b:=by
 unfold iR at h
 split at h
 · rename_i cs hh
   split at h
   · rename_i r hst hsrc
     have e1:=Nat.eq_of_beq_eq_true hst
     unfold ui at hsrc
     split at hsrc
     · rename_i hst2
       have e2:=Nat.eq_of_beq_eq_true hst2
       have hlen:=p6 hsrc
       rw [e2] at hlen
       split at h
       · rename_i cs' h1 h2
         obtain ⟨s1,s2,s3⟩:=xY h1
         refine ⟨_,h,_,hh,by simp,fun σ w hs=>⟨fun h0 rb hr=> ?_,fun rb rs hkm hr hr2=> ?_⟩⟩
         · obtain ⟨q1,q2,q3⟩:=hs.ent _ _ hh (by simp) rb hr
           intro i v hi
           have:=s3 i
           rw [hi,hlen,h0,Nat.zero_mul,if_neg (by omega)] at this
           exact q2 i v this.symm
         · obtain ⟨q1,q2,q3⟩:=hs.ent _ _ hh (by simp) rb hr
           obtain ⟨q4,q5,q6⟩:=q3 rfl
           obtain ⟨us,u1,u2,u3,u4⟩:=(vo hsrc).2 σ w rs hs hr2
           rw [e2] at u2
           have hc: ∀ j,j<us.length→(w.cell? ⟨rb.blk,pos d+j,none⟩).isSome=true:=fun j hj=>by
            have:pos d+j<len cs:=by
             rcases s2 with rfl|s2
             · simp [len] at hlen; omega
             · omega
            obtain ⟨v,hv'⟩:=wM this
            obtain ⟨u,hu,_⟩:=q2 _ _ hv'
            rw [q4,Nat.zero_add] at hu
            simp [hu]
           refine ⟨us,u2,u3,fun j u hu=> ?_,hc,fun i v hi=> ?_⟩
           · rw [v7]; exact u4 j u hu
           · have hi2:=s3 i
             rw [hi] at hi2
             rw [q4,Nat.zero_add]
             by_cases hin:pos d≤i∧i<pos d+len r
             · rw [if_pos hin] at hi2
               obtain ⟨u,hu,hvu⟩:=u1.get hi2.symm
               have hlt:i-pos d<us.length:=by omega
               have:=World.cell?_setCells_in rb.blk us (pos d) w hc (i-pos d) hlt
               rw [show pos d+(i-pos d)=i by omega] at this
               rw [List.getElem?_eq_getElem hlt] at hu
               cases hu
               exact ⟨_,this,hvu,u3 _ (List.getElem_mem hlt)⟩
             · rw [if_neg hin] at hi2
               rw [World.cell?_setCells_out rb.blk us (pos d) w _ (fun _ _=>by simp only; omega)]
               have:=q2 _ _ hi2.symm
               rwa [q4,Nat.zero_add] at this
       · exact h.elim
     · cases hsrc
   · exact h.elim
 · exact jl h
theorem wj {σ:Sg} {v:PV} {u:Value} (h:rf v=some none) (hv:VR σ v u): ∃ A c,u= .slice A 0 c:=by
 unfold rf at h
 split at h
 · cases hv; exact ⟨_,_,rfl⟩
 · cases hv; exact ⟨_,_,rfl⟩
 · cases hv; exact ⟨_,_,rfl⟩
 · split at h
   · cases h
   · cases h
theorem wo {σ:Sg} {v:PV} {u:Value} {a:PA} {n:Nat} (h:rf v=some (some (a,n))) (hv:VR σ v u): ∃ A c,u= .slice A n c∧(0<n→ ∃ rb,σ a.nm=some rb∧A=some (a.at rb)):=by
 unfold rf at h
 split at h
 · cases h
 · cases h
 · cases h
 · split at h
   · rename_i x hx
     cases h
     obtain ⟨A,c,h1,h2,h3⟩:=wO hx hv
     exact ⟨A,c,h1,h3⟩
   · cases h
section
variable {P:Program}
theorem um {w w':World} {t ty e:TypeId} {J:TypeInfo} {ts:Array TypeId} (h0:ts[0]? =some t) (ht:P.underlying t=some (.slice e)) (hi:P.info? e=some J) {A B:Option Addr} {n m c c':Nat} {us:List Value}
    (hfc:(Builtin.firstCells J.size (Nat.min m n) (.slice B m c')).run P w= .ok us.toArray w) (hst: ∀ a,A=some a→(storeCells a us).run P w= .ok () w') (hn:A=none→w'=w):
    (Builtin.copy_ ts ty #[.slice A n c,.slice B m c']).run P w= .ok (goInt (Nat.min m n)) w':=by
  cases A with
  |none=>
   cases hn rfl
   simp [Builtin.copy_,h0,run_underlying ht,Builtin.lenOf,sizeOf,typeInfo,hi,hfc]
  |some a=>
   simp [Builtin.copy_,h0,run_underlying ht,Builtin.lenOf,sizeOf,typeInfo,hi,hfc,hst a rfl]
theorem xQ {w:World} {B:Option Addr} {sz m c:Nat}:(Builtin.firstCells sz 0 (.slice B m c)).run P w= .ok #[] w:=by
 cases B with
 |none=>simp [Builtin.firstCells]
 |some b=>simp [Builtin.firstCells,loadCells,loadCellsFrom]
theorem hZ {H:zQ} {fr:Nat} {t e:TypeId} {J:TypeInfo} {s d:PV} {K:Kon} (hN:Names H fr) (ht:P.underlying t=some (.slice e)) (hi:P.info? e=some J)
    (h:cpy cond H fr J.size d s K): ∃ v H',K v H' fr∧Grow H H' fr fr∧ ∀ σ w dv sv ty ts,(ts:Array TypeId)[0]? =some t→Sim σ w H→VR σ d dv→VR σ s sv→
     ∃ v' w',(Builtin.copy_ ts ty #[dv,sv]).run P w= .ok v' w'∧Out σ w H fr v H' fr σ w' v':=by
  unfold cpy at h
  split at h
  · rename_i x hd hs
    refine ⟨_,_,h,Grow.refl _ _,fun σ w dv sv ty ts h0 hsim hdv hsv=> ?_⟩
    obtain ⟨A,c,rfl⟩:=wj hd hdv
    have: ∃ B m c',sv= .slice B m c':=by
     cases x with
     |none=>obtain ⟨B,c',h⟩:=wj hs hsv; exact ⟨_,_,_,h⟩
     |some x=>obtain ⟨B,c',h,_⟩:=wo (a:=x.1) (n:=x.2) hs hsv; exact ⟨_,_,_,h⟩
    obtain ⟨B,m,c',rfl⟩:=this
    refine ⟨goInt 0,w,?_,Out.same hsim (.int _ _)⟩
    have hm:Nat.min m 0=0:=Nat.min_zero m
    have:=um (P:=P) (w:=w) (w':=w) (ty:=ty) (A:=A) (c:=c) (us:= []) h0 ht hi (n:=0) (m:=m) (B:=B) (c':=c') (by rw [hm]; exact xQ) (fun a _=>rfl) (fun _=>rfl)
    rw [hm] at this
    exact this
  · rename_i x _ hd hs
    refine ⟨_,_,h,Grow.refl _ _,fun σ w dv sv ty ts h0 hsim hdv hsv=> ?_⟩
    obtain ⟨B,c',rfl⟩:=wj hs hsv
    have: ∃ A n c,dv= .slice A n c:=by
     cases x with
     |none=>obtain ⟨B,c',h⟩:=wj hd hdv; exact ⟨_,_,_,h⟩
     |some x=>obtain ⟨B,c',h,_⟩:=wo (a:=x.1) (n:=x.2) hd hdv; exact ⟨_,_,_,h⟩
    obtain ⟨A,n,c,rfl⟩:=this
    refine ⟨goInt 0,w,?_,Out.same hsim (.int _ _)⟩
    have hm:Nat.min 0 n=0:=Nat.zero_min n
    have:=um (P:=P) (w:=w) (w':=w) (ty:=ty) (A:=A) (c:=c) (us:= []) h0 ht hi (n:=n) (m:=0) (B:=B) (c':=c') (by rw [hm]; exact xQ) (fun a _=>rfl) (fun _=>rfl)
    rw [hm] at this
    exact this
  · rename_i a n b m hd hs
    obtain ⟨blk,hk,b0,hg,hd0,hC⟩:=jd h
    refine ⟨_,_,hk,Grow.put H a.nm blk true fr fr (Nat.le_refl _) (hN _ _ hg) (.inl rfl) (.inr ⟨_,hg⟩),fun σ w dv sv ty ts h0 hsim hdv hsv=> ?_⟩
    obtain ⟨A,c,rfl,hA⟩:=wo hd hdv
    obtain ⟨B,c',rfl,hB⟩:=wo hs hsv
    obtain ⟨hC0,hC1⟩:=hC σ w hsim
    have hmn:Nat.min m n=min n m:=Nat.min_comm m n
    rcases Nat.eq_zero_or_pos (min n m) with hz|hp
    · have:=um (P:=P) (w:=w) (w':=w) (ty:=ty) (A:=A) (c:=c) (us:= []) h0 ht hi (n:=n) (m:=m) (B:=B) (c':=c') (by rw [hmn,hz]; exact xQ) (fun a _=>rfl) (fun _=>rfl)
      rw [hmn] at this
      exact ⟨_,w,this,kZ hsim hg hd0 (hC0 hz) (.int _ _)⟩
    · obtain ⟨rb,hr,rfl⟩:=hA (by omega)
      obtain ⟨rs,hr2,rfl⟩:=hB (by omega)
      obtain ⟨us,u1,u2,u3,u4,u5⟩:=hC1 rb rs (by omega) hr hr2
      obtain ⟨q1,q2,q3⟩:=hsim.ent _ _ hg hd0 rb hr
      obtain ⟨q4,q5,q6⟩:=q3 rfl
      have:=um (P:=P) (w:=w) (w':=w.setCells rb.blk (pos a) us) (ty:=ty) (A:=some (a.at rb)) (c:=c) (us:=us) h0 ht hi (n:=n) (m:=m) (B:=some (b.at rs)) (c':=c')
        (by rw [hmn]; exact run_firstCells_some (P:=P) w J.size (min n m) (b.at rs) m c' us u1 u3) (fun a' ha=>by cases ha; exact xP q4 u4 q5 u2) (fun h=>by cases h)
      rw [hmn] at this
      refine ⟨_,_,this,tx hsim hg hd0 hr (yf _ _ _ _) (yV _ _ _ _) (fun k hk=>yz _ _ _ _ _ hk) ?_ (.int _ _)⟩
      exact x7 (hsim.ent _ _ hg) hd0 hr u4 u5
  · exact h.elim
end
end Go.Ev
namespace Go.Ev
open Go.RowKit
def OpR (P:Program) (o:Oper) (T:yC) (H:zQ) (fr:Nat) (v:PV) (H':zQ) (fr':Nat):Prop:=
 ∀ σ w (a:Act) next Q,(∀ x ∈ o.op.operands,VR σ (ev T x) (a.eval x))→Sim σ w H→NoneIn σ fr fr'→(∀ σ' w' v',Out σ w H fr v H' fr' σ' w' v'→next (a.put o.dst v') w')→o.wp P a w next Q
def jU (P:Program) (o:Oper) (T:yC) (H:zQ) (fr:Nat) (K:Kon):Prop:= ∃ v H' fr',K v H' fr'∧Grow H H' fr fr'∧OpR P o T H fr v H' fr'
def zn (P:Program) (f:FuncId) (args:List PV) (H:zQ) (fr:Nat) (v:PV) (H':zQ) (fr':Nat):Prop:=
 ∀ σ w (vals:Array Value),VRs σ args vals.toList→Sim σ w H→NoneIn σ fr fr'→Calls P f vals w fun e w'=> ∃ v' σ',e= .returned v'∧Out σ w H fr v H' fr' σ' w' v'
def sh (P:Program) (X:xN):Prop:= ∀ f args H fr K,H≠ []→Names H fr→X f args H fr K→ ∃ v H' fr',K v H' fr'∧Grow H H' fr fr'∧zn P f args H fr v H' fr'∧ ∃ F,P.funcs[f]? =some F∧F.body.isSome=true∧(F.name== "runtime.NumGoroutine")=false
section
variable {P:Program}
theorem qv {o:Oper} {a:Act} {w w':World} {next:Act→World→Prop} {Q:Exit→Act→World→Prop} {v:Value} (h:(execOp a.eval o).run P w= .ok (.value v) w') (k:next (a.put o.dst v) w'):o.wp P a w next Q:=by
 unfold Oper.wp
 rw [h]
 exact k
theorem md {o:Oper} {a:Act} {w w':World} {next:Act→World→Prop} {Q:Exit→Act→World→Prop} (h:(execOp a.eval o).run P w= .ok .skip w') (k:next (a.put o.dst undef) w'):o.wp P a w next Q:=by
 unfold Oper.wp
 rw [h]
 exact k
theorem z6 {o:Oper} {T:yC} {H:zQ} {fr:Nat} {r:PV} {K:Kon} (hk:K r H fr) (h: ∀ σ w (a:Act),(∀ x ∈ o.op.operands,VR σ (ev T x) (a.eval x))→ ∃ y,(execOp a.eval o).run P w= .ok (.value y) w∧VR σ r y):jU P o T H fr K:=
 ⟨r,H,fr,hk,Grow.refl _ _,fun σ w a next Q ha hs _ hn=>by
  obtain ⟨y,h1,h2⟩:=h σ w a ha
  exact qv h1 (hn σ w y (Out.same hs h2))⟩
variable {E:Env} (ok:xa P E)
theorem jh {σ:Sg} {w:World} {xs:List PV} {us:Array Value} {v:PV} (h:gW xs=some v) (hx:VRs σ xs us.toList) (ts:Array TypeId) (ty:TypeId): ∃ y,(Builtin.min_ ts ty us).run P w= .ok y w∧VR σ v y:=by
 have e:us=us.toList.toArray:=by simp
 rw [e]
 generalize us.toList=l at hx
 unfold gW at h
 split at h
 · cases h
   cases hx with|cons _ _ _ _ h1 hl=>cases hl; cases h1; exact ⟨_,by simp [Builtin.min_],.int _ _⟩
 · split at h
   · rename_i hk
     cases wJ hk
     cases h
     cases hx with|cons _ _ _ _ h1 hl=>cases hl with|cons _ _ _ _ h2 hl=>cases hl; cases h1; cases h2; exact ⟨_,by simp [Builtin.min_,Builtin.min2]; rfl,by rw [show ∀ a b:Int,(if b<a then b else a)=min a b from fun a b=>by omega]; exact .int _ _⟩
   · cases h
 · split at h
   · rename_i h1 h2
     cases wJ h1
     cases wJ h2
     cases h
     cases hx with|cons _ _ _ _ h1 hl=>cases hl with|cons _ _ _ _ h2 hl=>cases hl with|cons _ _ _ _ h3 hl=>cases hl; cases h1; cases h2; cases h3; exact ⟨_,by simp [Builtin.min_,Builtin.min2]; rfl,by simp only [show ∀ a b:Int,(if b<a then b else a)=min a b from fun a b=>by omega]; exact .int _ _⟩
   · cases h
 · cases h
theorem jH {σ:Sg} {w:World} {xs:List PV} {us:Array Value} {v:PV} (h:gY xs=some v) (hx:VRs σ xs us.toList) (ts:Array TypeId) (ty:TypeId): ∃ y,(Builtin.max_ ts ty us).run P w= .ok y w∧VR σ v y:=by
 have e:us=us.toList.toArray:=by simp
 rw [e]
 generalize us.toList=l at hx
 unfold gY at h
 split at h
 · cases h
   cases hx with|cons _ _ _ _ h1 hl=>cases hl; cases h1; exact ⟨_,by simp [Builtin.max_],.int _ _⟩
 · split at h
   · rename_i hk
     cases wJ hk
     cases h
     cases hx with|cons _ _ _ _ h1 hl=>cases hl with|cons _ _ _ _ h2 hl=>cases hl; cases h1; cases h2; exact ⟨_,by simp [Builtin.max_,Builtin.max2]; rfl,by rw [show ∀ a b:Int,(if b>a then b else a)=max a b from fun a b=>by omega]; exact .int _ _⟩
   · cases h
 · split at h
   · rename_i h1 h2
     cases wJ h1
     cases wJ h2
     cases h
     cases hx with|cons _ _ _ _ h1 hl=>cases hl with|cons _ _ _ _ h2 hl=>cases hl with|cons _ _ _ _ h3 hl=>cases hl; cases h1; cases h2; cases h3; exact ⟨_,by simp [Builtin.max_,Builtin.max2]; rfl,by simp only [show ∀ a b:Int,(if b>a then b else a)=max a b from fun a b=>by omega]; exact .int _ _⟩
   · cases h
 · cases h
theorem mf {σ:Sg} {w:World} {t:TypeId} {x:PV} {u:Value} {n:Int} (h:lenOf (yt P t).d x=some n) (hx:VR σ x u) (ts:Array TypeId) (ht:ts[0]? =some t) (ty:TypeId):(Builtin.len_ ts ty #[u]).run P w= .ok (.int .i64 n) w:=by
 unfold lenOf at h
 split at h
 case h_9=>cases h
 all_goals
   rename_i hd
   cases h
 · have hu:=y8 ((dOf (by simp [hd])).symm.trans hd)
   cases hx
   simp [Builtin.len_,ht,run_underlying hu,goInt]
 · have hu:=wD ((dOf (by simp [hd])).symm.trans hd)
   simp [Builtin.len_,ht,run_underlying hu,goInt]
 all_goals
   have hu:=ye ((dOf (by simp [hd])).symm.trans hd)
   cases hx<;>simp [Builtin.len_,ht,run_underlying hu,goInt]
theorem kj {σ:Sg} {w:World} {t:TypeId} {x:PV} {u:Value} {n:Int} (h:lU (yt P t).d x=some n) (hx:VR σ x u) (ts:Array TypeId) (ht:ts[0]? =some t) (ty:TypeId):(Builtin.cap_ ts ty #[u]).run P w= .ok (.int .i64 n) w:=by
 unfold lU at h
 split at h
 case h_2=>cases h
 rename_i hd
 cases h
 have hu:=ye ((dOf (by simp [hd])).symm.trans hd)
 cases hx
 simp [Builtin.cap_,ht,run_underlying hu,goInt]
theorem jb (z:List PV) (a b:Nat):rep z (a+b)=rep z a++rep z b:=by
 induction a with
 |zero=>simp [rep]
 |succ a ih=>rw [Nat.succ_add]; simp only [rep,ih,List.append_assoc]
theorem sO: ∀ {l m:List PV} {i:Nat} {v:PV},nth l i=some v→nth (l++m) i=some v
  | [],m,i,v,h=>by simp [nth] at h
  |_::l,m,0,v,h=>h
  |_::l,m,i+1,v,h=>by simp only [nth] at h; exact sO (l:=l) h
theorem rl {σ:Sg} {z:List PV} {zs:List Value} (hz:VRs σ z zs) (ho:vt z=true): ∀ {n j i:Nat},j<n→i<len z→ ∃ u,((List.replicate n zs).flatten)[j*len z+i]? =some u∧VR1 σ (pc z i) u
  |0,j,i,h,_=>absurd h (by omega)
  |n+1,0,i,h,hi=>by
   obtain ⟨v,hv⟩:=wM hi
   obtain ⟨u,h1,h2⟩:=hz.get hv
   refine ⟨u,?_,by simp only [pc,hv]; exact ⟨h2,wC hz ho u (List.mem_of_getElem? h1)⟩⟩
   rw [List.replicate_succ,List.flatten_cons,Nat.zero_mul,Nat.zero_add,List.getElem?_append_left (by rw [hz.length]; exact hi)]
   exact h1
  |n+1,j+1,i,h,hi=>by
   obtain ⟨u,h1,h2⟩:=rl hz ho (n:=n) (j:=j) (by omega) hi
   refine ⟨u,?_,h2⟩
   rw [List.replicate_succ,List.flatten_cons,List.getElem?_append_right (by rw [hz.length,Nat.add_mul]; omega),hz.length]
   rw [Nat.add_mul,Nat.one_mul,show j*len z+len z+i-len z=j*len z+i by omega]
   exact h1
include ok
theorem uP {t e:TypeId} {j:TyI} (h:rR E t=some (e,j)):P.underlying t=some (.slice e)∧y6 E.ty e=some j∧j=yt P e:=by
 unfold rR at h
 split at h
 · rename_i i hi
   have e1:=ok.ty t i hi
   subst e1
   split at h
   · rename_i e' hd
     split at h
     · rename_i j' hj
       simp only [Option.some.injEq,Prod.mk.injEq] at h
       obtain ⟨rfl,rfl⟩:=h
       exact ⟨ye ((dOf (by simp [hd])).symm.trans hd),hj,ok.ty _ _ hj⟩
     · cases h
   · cases h
 · cases h
theorem lf {sy:Bool} {H:zQ} {fr:Nat} {t:TypeId} {l c:PV} {K:Kon} (h:kH cond E sy H fr t l c K): ∃ v H' fr',K v H' fr'∧Grow H H' fr fr'∧ ∀ σ w lu cu,Sim σ w H→NoneIn σ fr fr'→VR σ l lu→VR σ c cu→
 ∃ v' σ' w',(Instr.makeSlice t lu cu).run P w= .ok v' w'∧Out σ w H fr v H' fr' σ' w' v':=by
 unfold kH at h
 split at h
 · rename_i e j n m he
   obtain ⟨ht,hj,rfl⟩:=uP ok he
   split at h
   · exact h.elim
   rename_i z hz
   obtain ⟨J,hJ,hsz,hby,hzJ,-⟩:=wE hz
   obtain ⟨zv,hzv,hz1,hzr⟩:=ux hzJ
   split at h
   · rename_i q1 q2 q3
     obtain ⟨hb,h⟩:=zz h
     have hb:0≤n∧n≤m∧m≤(most:Int):=by simpa using hb
     have hl:=Nat.eq_of_beq_eq_true q1
     rw [hsz] at hl
     have hzs:zv.cells.size=J.size:=by
      have:=(hzr fun _=>none).length
      rw [← hl,← this]
      rfl
     have h0:0<J.size:=by rw [← hsz]; simpa [Nat.blt_eq] using q2
     have hbb:J.bytes<4097:=by rw [← hby]; simpa [Nat.blt_eq] using q3
     have hm:m≤1000000:=hb.2.2
     have hbytes:(J.bytes:Int)*m≤281474976710656:=by
      have:(J.bytes:Int)*m≤4096*1000000:=Int.mul_le_mul (by omega) hm (by omega) (by omega)
      omega
     have hrun: ∀ w,(Instr.makeSlice t (.int .i64 n) (.int .i64 m)).run P w= .ok (.slice (some ⟨w.heap.size,0,none⟩) n.toNat m.toNat) (w.alloc (.cells (madeCells zv.cells (m.toNat*J.size)) e)):=fun w=>
      run_make w t e J zv ht hJ hzv .i64 .i64 n m hb.1 hb.2.1 hbytes (by omega)
     have hvals:(madeCells zv.cells (m.toNat*J.size)).toList=(List.replicate m.toNat zv.cells.toList).flatten:=by
      unfold madeCells
      rw [← hzs]
      exact rk zv.cells m.toNat (by omega)
     have hsize:(madeCells zv.cells (m.toNat*J.size)).size=m.toNat*J.size:=by simp [madeCells]

     have gen: ∀ b,(∀ (σ:Sg) (w:World),BlkR σ (w.alloc (.cells (madeCells zv.cells (m.toNat*J.size)) e)) ⟨w.heap.size,0,m.toNat*J.size⟩ b)→K (.own fr J.size n.toNat) (yl H fr (true,b)) (fr+1)→
      ∃ v H' fr',K v H' fr'∧Grow H H' fr fr'∧ ∀ σ w lu cu,Sim σ w H→NoneIn σ fr fr'→VR σ (.int .i64 n) lu→VR σ (.int .i64 m) cu→ ∃ v' σ' w',(Instr.makeSlice t lu cu).run P w= .ok v' w'∧Out σ w H fr v H' fr' σ' w' v':=fun b hbk hk=>by
      refine ⟨_,_,_,hk,Grow.put _ _ _ _ _ _ (by omega) (by omega) (.inl rfl) (.inl (by omega)),fun σ w lu cu hs hn h1 h2=> ?_⟩
      cases h1
      cases h2
      exact ⟨_,_,_,hrun w,tk _ e (m.toNat*J.size) hs hn (by rw [hsize]; exact Nat.le_refl _) (hbk _ _) (.own fr J.size n.toNat ⟨w.heap.size,0,m.toNat*J.size⟩ m.toNat (yY _ _ _) rfl (by omega) (Nat.le_refl _))⟩
     rw [hsz] at h
     have hcell: ∀ (w:World) (p:Nat),(w.alloc (.cells (madeCells zv.cells (m.toNat*J.size)) e)).cell? ⟨w.heap.size,p,none⟩=((List.replicate m.toNat zv.cells.toList).flatten)[p]? :=fun w p=>by
      rw [xg,← hvals]
      simp
     have hrow: ∀ σ (w:World) j i,j<n.toNat→i<J.size→ ∃ u,(w.alloc (.cells (madeCells zv.cells (m.toNat*J.size)) e)).cell? ⟨w.heap.size,j*J.size+i,none⟩=some u∧VR1 σ (pc z i) u:=fun σ w j i hj hi=>by
      rw [← hl] at hi
      obtain ⟨u,h1,h2⟩:=rl (hzr σ) hz1 (n:=m.toNat) (j:=j) (by omega) hi
      rw [hl] at h1
      exact ⟨u,(hcell w _).trans h1,h2⟩
     unfold kY at h
     split at h
     · refine gen _ (fun σ w=> ?_) h
       intro i v hi
       have hp:nth (rep z m.toNat) i=some v:=by
        rw [show m.toNat=n.toNat+(m.toNat-n.toNat) by omega,jb]
        exact sO hi
       have hr:=po (hzr σ) m.toNat
       obtain ⟨u,h1,h2⟩:=hr.get hp
       refine ⟨u,by rw [Nat.zero_add,hcell]; exact h1,h2,?_⟩
       have hmem:=List.mem_of_getElem? h1
       obtain ⟨l',hl',hu⟩:=List.mem_flatten.1 hmem
       rw [List.eq_of_mem_replicate hl'] at hu
       exact wC (hzr σ) hz1 u hu
     · split at h
       · rename_i cs hcs
         refine gen _ (fun σ w=> ?_) h
         obtain ⟨q1,_⟩:=xd (σ:=fun _=>none) hcs
         intro j i c hj hi
         have hil:i<J.size:=by have:=wN hi; omega
         obtain ⟨u,h1,h2⟩:=hrow σ w j i hj hil
         obtain ⟨v,hv⟩:=wM (cs:=z) (i:=i) (by omega)
         obtain ⟨d,hd,hd2⟩:=(xd (σ:=σ) hcs).2 i v hv
         rw [hi] at hd
         cases hd
         refine ⟨u,by simp only [Nat.zero_add]; rw [q1,hl]; exact h1,?_⟩
         simp only [pc,hv] at h2
         exact hd2 j u h2
       · refine gen _ (fun σ w=> ?_) h
         intro j i hj hi
         obtain ⟨u,h1,h2⟩:=hrow σ w j i hj hi
         refine ⟨u,?_,h2⟩
         simp only [Nat.zero_add]
         rw [z9]
         simp only
         rw [Nat.add_comm i]
         exact h1
   · exact h.elim
 · exact h.elim
theorem sU {H : zQ} {fr:Nat} {t:TypeId} {n:Nat} {ps:List (Nat×PV)} {K:Kon} (h:vG E H fr t n ps K): ∃ v H' fr',K v H' fr'∧Grow H H' fr fr'∧ ∀ σ w (qs:Array (Nat×Value)),Sim σ w H→NoneIn σ fr fr'→PRs σ ps qs.toList→
 ∃ v' σ' w',(Instr.buildSlice t n qs).run P w= .ok v' w'∧Out σ w H fr v H' fr' σ' w' v':=by
 unfold vG at h
 split at h
 · exact h.elim
 rename_i e j he
 obtain ⟨ht,hj,rfl⟩:=uP ok he
 split at h
 · exact h.elim
 rename_i z hz
 obtain ⟨J,hJ,hsz,hby,hzJ,-⟩:=wE hz
 obtain ⟨zv,hzv,hz1,hzr⟩:=ux hzJ
 split at h
 · rename_i q1 q2 q3
   split at h
   · rename_i cs hcs
     have hl:=Nat.eq_of_beq_eq_true q1
     rw [hsz] at hl q2 q3 hcs h
     have h0:0<J.size:=by simpa [Nat.blt_eq] using q2
     have hbig: ¬ 16777216<n*J.size:=by
      have:n*J.size<16777217:=by simpa [Nat.blt_eq] using q3
      omega
     have hzs:zv.cells.size=J.size:=by
      have:=(hzr fun _=>none).length
      rw [← hl,← this]
      rfl
     cases ho:vt cs with
     |false=>rw [ho] at h; exact h.elim
     |true=>
     rw [ho] at h
     refine ⟨_,_,_,h,Grow.put _ _ _ _ _ _ (by omega) (by omega) (.inl rfl) (.inl (by omega)),fun σ w qs hs hn hq=> ?_⟩
     have hz0:(zeroValue e).run P w= .ok zv w:=by simp [zeroValue,typeInfo,hJ,hzv]
     have hbase:VRs σ (rep z n) ((Array.range (n*J.size)).map (zv.cells[· % zv.cells.size]!)).toList:=by
      rw [← hzs,rk _ _ (by omega)]
      exact po (hzr σ) n
     obtain ⟨arr,a1,a2⟩:=tl hq hbase hcs
     have hrun:(Instr.buildSlice t n qs).run P w= .ok (.slice (some ⟨w.heap.size,0,none⟩) n n) (w.alloc (.cells arr e)):=by
      by_cases hn0:n*J.size=0
      · have:n=0:=by
         rcases Nat.mul_eq_zero.1 hn0 with h|h
         · exact h
         · omega
        subst this
        have e0: ∀ f:Nat→Value,(Array.range 0).map f= #[]:=fun f=>by apply Array.ext'; simp
        simp only [Nat.zero_mul,e0] at a1
        simp only [Instr.buildSlice,Sem.run_bind,run_underlying ht,yL w hJ,Result.andThen_ok,Nat.zero_mul,e0]
        simp [a1,newRow]
      · simp [Instr.buildSlice,run_underlying ht,yL w hJ,hbig,hn0,hz0,a1,newRow]
     have hlen : arr.size=n*J.size:=by
      have h1:arr.size=len cs:=a2.length
      have h2 : ∀ (l:List (Nat×PV)) (c c':List PV) (f:Nat→Option (Nat×Nat)),vw f c l=some c'→len c'=len c:=by
       intro l
       induction l with
       |nil=>intro c c' f h; simp [vw] at h; rw [h]
       | cons p l ih=>
        intro c c' f h
        obtain ⟨i,v⟩:=p
        unfold vw at h
        split at h
        · split at h
          · split at h
            · rename_i c1 hs'
              rw [ih _ _ _ h,(xY hs').1]
            · cases h
          · cases h
        · cases h
      rw [h1,h2 _ _ _ _ hcs]
      have:=hbase.length
      rw [← this]
      simp
     exact ⟨_,_,_,hrun,tk arr e (n*J.size) hs hn (by omega) (rN (a2.mono (xZ (hn fr (Nat.le_refl _) (by omega)))) ho) (.own fr J.size n ⟨w.heap.size,0,n*J.size⟩ n (yY _ _ _) rfl (Nat.le_refl _) (Nat.le_refl _))⟩
   · exact h.elim
 · exact h.elim
end
end Go.Ev
namespace Go.Ev
open Go.RowKit
section
variable {P:Program}
theorem tZ (w:World) {t u ty e:TypeId} {k k':IntKind} {i:TypeInfo} {z:Value} (ht:P.underlying t=some (.slice e)) (hu:P.underlying u=some (.int k)) (hi:P.info? e=some i) (hz:i.zero=some z)
    (A:Option Addr) (n:Nat) (h0:0<n) (hn:n≤most) (hs:0<i.size) (hb:i.bytes<4097):
    (Builtin.append_ #[t,u] ty #[.slice A 0 0,.int k' (n:Int)]).run P w= .ok (.slice (some ⟨w.heap.size,0,none⟩) n (grownCap w n 0 e)) (w.drew.alloc (.cells (Builtin.zeroCells z.cells n++Builtin.zeroCells z.cells (grownCap w n 0 e-n)) e)):=by
  unfold most at hn
  have hw:IntKind.i64.wrap (n:Int)=n:=by rw [IntKind.wrap_i64]; omega
  have h1: ¬ ((n:Int)<0):=by omega
  have h2: ¬ (281474976710656<(n:Int)*i.bytes):=by
   have:(n:Int)*i.bytes≤1000000*4096:=Int.mul_le_mul (by omega) (by omega) (by omega) (by omega)
   omega
  have h3: ¬ (9223372036854775807<(n:Int)):=by omega
  have h4: ¬ (281474976710656<Builtin.nextslicecap n 0*i.bytes):=by
   rw [nextslicecap_zero h0]
   have:n*i.bytes≤1000000*4096:=Nat.mul_le_mul hn (by omega)
   omega
  have h5: ¬ (n=0):=by omega
  have h6: ¬ (i.size=0):=by omega
  have h7: ¬ (n*i.size=0):=by have:=Nat.mul_pos h0 hs; omega
  have hfc: ∀ w':World,(Builtin.firstCells i.size 0 (.slice A 0 0)).run P w'= .ok #[] w':=fun w'=>xQ
  simp [Builtin.append_,run_underlying ht,run_underlying hu,sizeOf,typeInfo,zeroValue,hi,hz,asInt,asIntOf,hw,h1,h2,h3,h4,h5,h6,h7,Question.forced,hfc,newRow,grownCap]
theorem uu (w:World) {t u ty e:TypeId} {k k':IntKind} {i:TypeInfo} (ht:P.underlying t=some (.slice e)) (hu:P.underlying u=some (.int k)) (hi:P.info? e=some i) (A:Option Addr):
    (Builtin.append_ #[t,u] ty #[.slice A 0 0,.int k' 0]).run P w= .ok (.slice A 0 0) w:=by
  have hw:IntKind.i64.wrap 0=0:=by decide
  cases A<;>simp [Builtin.append_,run_underlying ht,run_underlying hu,sizeOf,typeInfo,hi,asInt,asIntOf,hw,storeCells]
theorem jA {H:zQ} {fr:Nat} {t u e:TypeId} {k:IntKind} {J:TypeInfo} {z:List PV} {s x:PV} {K:Kon} (ht:P.underlying t=some (.slice e)) (hu:P.underlying u=some (.int k)) (hi:P.info? e=some J) (hz:mkZ J=some z) (hlz:len z=J.size) (hs0:0<J.size) (hb:J.bytes<4097)
    (h:im cond H fr J.size z s x K): ∃ v H' fr',K v H' fr'∧Grow H H' fr fr'∧ ∀ σ w sv xv ty,Sim σ w H→NoneIn σ fr fr'→VR σ s sv→VR σ x xv→
     ∃ v' σ' w',(Builtin.append_ #[t,u] ty #[sv,xv]).run P w= .ok v' w'∧Out σ w H fr v H' fr' σ' w' v':=by
  obtain ⟨zv,hzv,hz1,hzr⟩:=ux hz
  have hzs:zv.cells.size=J.size:=by
   have:=(hzr fun _=>none).length
   rw [← hlz,← this]
   rfl
  have key: ∀ (n:Int) (cs:List Col),wU z=some cs→0≤n∧n≤(most:Int)→K (.own fr J.size n.toNat) (yl H fr (true,.cols n.toNat cs)) (fr+1)→
   ∃ v H' fr',K v H' fr'∧Grow H H' fr fr'∧ ∀ σ w (A:Option Addr) (k':IntKind) ty,Sim σ w H→NoneIn σ fr fr'→
    ∃ v' σ' w',(Builtin.append_ #[t,u] ty #[.slice A 0 0,.int k' n]).run P w= .ok v' w'∧Out σ w H fr v H' fr' σ' w' v':=by
   intro n cs hcs hn hk
   refine ⟨_,_,_,hk,Grow.put _ _ _ _ _ _ (by omega) (by omega) (.inl rfl) (.inl (by omega)),fun σ w A k' ty hs hno=> ?_⟩
   obtain ⟨n,rfl⟩:=Int.eq_ofNat_of_zero_le hn.1
   have hnm:n≤most:=by omega
   rw [Int.toNat_natCast] at*
   rcases Nat.eq_zero_or_pos n with rfl|h0
   · exact ⟨_,σ,w,uu w ht hu hi A,qq (o:=none) A hs hno⟩
   · have hr:=tZ (k':=k') (ty:=ty) w ht hu hi hzv A n h0 hnm hs0 hb
     have hcap:=xb w n 0 e
     have hzl:(Builtin.zeroCells zv.cells n).toList=(List.replicate n zv.cells.toList).flatten:=rk zv.cells n (by omega)
     obtain ⟨σ',ho'⟩:=th (fr:=fr) (st:=J.size) (o:=none) (n:=0) (m:=n) (b:= .cols n cs) (vals:=(Builtin.zeroCells zv.cells n).toList) (z:=Builtin.zeroCells zv.cells (grownCap w n 0 e-n)) (t:=e) (cap:=grownCap w n 0 e) hs hno
       (by rw [Array.length_toList,yo,hzs,Nat.zero_add]) (by rw [yo,hzs,Nat.zero_add]) (by omega) (fun σ' w' rb' m1 m2 m3=>by
        obtain ⟨q1,q2⟩:=xd (σ:=σ') hcs
        refine qD m2 ⟨by rw [Array.length_toList,yo,hzs,q1,hlz],fun j i hj hil=> ?_⟩ m3
        obtain ⟨u,h1,h2⟩:=rl (hzr σ') hz1 (n:=n) (j:=j) (i:=i) hj (by omega)
        obtain ⟨v,hv⟩:=wM (cs:=z) (i:=i) (by omega)
        obtain ⟨d,hd,hd2⟩:=q2 i v hv
        refine ⟨u,by rw [hzl,q1]; exact h1,?_⟩
        simp only [pc,hv] at h2
        simp only [yR,hd]
        exact hd2 j u h2)
     rw [Nat.zero_add] at ho'
     exact ⟨_,σ',_,hr,by simpa [kill] using ho'⟩
  unfold im at h
  split at h
  · split at h
    · rename_i cs hcs
      obtain ⟨hn,hk⟩:=zz h
      obtain ⟨v,H',fr',k1,k2,k3⟩:=key _ cs hcs (by simpa using hn) hk
      refine ⟨v,H',fr',k1,k2,fun σ w sv xv ty hs hno hsv hxv=> ?_⟩
      cases hsv
      cases hxv
      exact k3 σ w _ _ ty hs hno
    · exact h.elim
  · split at h
    · rename_i cs hcs
      obtain ⟨hn,hk⟩:=zz h
      obtain ⟨v,H',fr',k1,k2,k3⟩:=key _ cs hcs (by simpa using hn) hk
      refine ⟨v,H',fr',k1,k2,fun σ w sv xv ty hs hno hsv hxv=> ?_⟩
      cases hsv
      cases hxv
      exact k3 σ w _ _ ty hs hno
    · exact h.elim
  · exact h.elim
end
end Go.Ev
namespace Go.Ev
open Go.RowKit
theorem wq (w:World) (cs:Array Value) (t:TypeId) (fz:Nat×Nat) (i:Nat):(w.alloc (.cells cs t fz)).cell? ⟨w.heap.size,i,none⟩=cs[i]? :=by
 have h:(w.alloc (.cells cs t fz)).heap[w.heap.size]? =some (.cells cs t fz):=by
  show (w.heap.push _)[w.heap.size]? =_
  simp
 unfold World.cell?
 rw [h]
 rfl
theorem kV {σ:Sg} {w:World} {H:zQ} {fr:Nat} {b:Blk} {v:PV} {v':Value} (cs:Array Value) (t:TypeId) (fz:Nat×Nat) (cap:Nat) (h:Sim σ w H) (hn:NoneIn σ fr (fr+1)) (hc:cap≤cs.size) (hz:cs.size≤fz.1)
    (hb:BlkR (vr σ fr ⟨w.heap.size,0,cap⟩) (w.alloc (.cells cs t fz)) ⟨w.heap.size,0,cap⟩ b)
    (hv:VR (vr σ fr ⟨w.heap.size,0,cap⟩) v v'):
    Out σ w H fr v (yl H fr (true,b)) (fr+1) (vr σ fr ⟨w.heap.size,0,cap⟩) (w.alloc (.cells cs t fz)) v':=by
  have h0:σ fr=none:=hn fr (Nat.le_refl _) (by omega)
  have hsz:(w.alloc (.cells cs t fz)).heap.size=w.heap.size+1:=by
   show (w.heap.push _).size=_
   simp
  refine ⟨hv,?_,xZ h0,fun n hn=>yk (by omega),?_⟩
  · refine h.new h0 (by omega) (fun m e r hm hd' hr=>⟨?_,fun hl=>we _ _ _ hl⟩) fun _ rb hrb=> ?_
    · have:=(h.ent m e hm hd' r hr).1
      simp only
      omega
    · rw [yY] at hrb
      cases hrb
      refine ⟨by simp [hsz],hb,fun _=>⟨rfl,fun o ho=> ?_,fun o ho=> ?_⟩⟩
      · rw [wq] at ho
        have hlt:o<cs.size:=by
         by_cases hx:o<cs.size
         · exact hx
         · rw [Array.getElem?_eq_none (by omega)] at ho
           cases ho
        have hh:(w.alloc (.cells cs t fz)).heap[w.heap.size]? =some (.cells cs t fz):=by
         show (w.heap.push _)[w.heap.size]? =_
         simp
        unfold World.frozen?
        rw [hh]
        simp
        omega
      · have:o<cs.size:=Nat.lt_of_lt_of_le ho hc
        exact ⟨cs[o],by rw [wq]; simp [this]⟩
  · refine ⟨rfl,rfl,rfl,by omega,fun k hk _=>we _ _ _ hk,fun k hk=> ?_⟩
    obtain ⟨n,b',rb,h1,h2,h3,h4⟩:=hk
    by_cases e1:fr=n
    · subst e1
      rw [yY] at h3
      cases h3
      exact .inl (Nat.le_of_eq h4)
    · rw [zi _ _ _ _ e1] at h1
      rw [yk fun x=>e1 x.symm] at h3
      exact .inr ⟨n,b',rb,h1,h2,h3,h4⟩
section
variable {P:Program}
theorem kv (w:World) (c:Array Value) (e:TypeId):(markStringish ⟨w.heap.size,0,none⟩).run P (w.alloc (.cells c e))= .ok () (w.alloc (.cells c e (c.size,c.size+1))):=by
 have h1:(w.alloc (.cells c e)).shape? w.heap.size=some (e,c.size):=by
  unfold World.shape? World.alloc
  simp
 have h2:(w.alloc (.cells c e)).freeze ⟨w.heap.size,c.size,none⟩ 1=w.alloc (.cells c e (c.size,c.size+1)):=by
  have h3: ∀ (a:Array Obj) (x:Obj) (f:Obj→Obj),(a.push x).modify a.size f=a.push (f x):=fun a x f=>by
   apply Array.ext_getElem?
   intro i
   rw [Array.getElem?_modify,Array.getElem?_push,Array.getElem?_push]
   by_cases h:i=a.size
   · subst h; simp
   · rw [if_neg h,if_neg (fun x=>h x.symm)]
     rw [if_neg h]
  unfold World.freeze World.alloc
  rw [if_neg (by decide)]
  simp only [h3]
  congr 2
 unfold markStringish
 simp only [Sem.run_bind,run_shape,h1,Result.andThen,run_freeze,h2]
theorem ue (w:World) (e:TypeId) (s:ByteArray):
    ∃ z:Array Value,∃ fz:Nat×Nat,((s.data.map fun b=>Value.int .u8 b.toNat)++z).size≤fz.1∧s.size+z.size=grownCap w s.size 0 e∧(Conv.stringToBytes e s).run P w= .ok (.slice (some ⟨w.heap.size,0,none⟩) s.size (grownCap w s.size 0 e)) (w.drew.alloc (.cells ((s.data.map fun b=>Value.int .u8 b.toNat)++z) e fz)):=by
  have hd:w.drew.heap.size=w.heap.size:=rfl
  obtain ⟨fz,hfz,this⟩: ∃ fz:Nat×Nat,((s.data.map fun b=>Value.int .u8 b.toNat)++Array.replicate (grownCap w s.size 0 e-s.size) (Value.int .u8 0)).size≤fz.1∧(markStringish ⟨w.heap.size,0,none⟩).run P (w.drew.alloc (.cells ((s.data.map fun b=>Value.int .u8 b.toNat)++Array.replicate (grownCap w s.size 0 e-s.size) (.int .u8 0)) e))= .ok () (w.drew.alloc (.cells ((s.data.map fun b=>Value.int .u8 b.toNat)++Array.replicate (grownCap w s.size 0 e-s.size) (.int .u8 0)) e fz)):=⟨_,Nat.le_refl _,kv w.drew _ e⟩
  refine ⟨Array.replicate (grownCap w s.size 0 e-s.size) (.int .u8 0),fz,hfz,by have:=xb w s.size 0 e; simp; omega,?_⟩
  unfold Conv.stringToBytes
  simp only [Sem.run_bind,run_choose_drew,Question.forced,newRow,run_newObj_alloc,Result.andThen,Sem.run_pure,hd]
  simp only [Bool.false_eq_true,if_false,hd]
  erw [this]
  rfl
end
section
variable {P:Program} {E:Env} (ok:xa P E)
theorem i9 (f:Nat→Int) (n:Nat):((List.range n).map f).foldl (fun r n=>r.push (UInt8.ofNat n.toNat)) ByteArray.empty=S.ofB f n:=by
 have key: ∀ (l:List Int) (b:ByteArray),l.foldl (fun r n=>r.push (UInt8.ofNat n.toNat)) b=⟨b.data++(l.map fun n=>UInt8.ofNat n.toNat).toArray⟩:=by
  intro l
  induction l with
  |nil=>intro b; simp
  |cons x l ih=>
   intro b
   simp only [List.foldl_cons]
   rw [ih]
   simp [ByteArray.push]
 rw [key]
 simp [S.ofB,ByteArray.empty,ByteArray.emptyWithCapacity]
 rfl
theorem jf (s:ByteArray) (j:Nat) (h:j<s.size):(s.data.map fun b=>Value.int .u8 b.toNat)[j]? =some (.int .u8 (oI s j)):=by
 have h':j<s.data.size:=h
 simp [oI,List.getD,Array.getElem?_eq_getElem h']
include ok in
theorem pM {H : zQ} {fr:Nat} {src dst:TypeId} {x:PV} {K:Kon} (h:sk cond E H fr src dst x K): ∃ v H' fr',K v H' fr'∧Grow H H' fr fr'∧ ∀ σ w u,Sim σ w H→NoneIn σ fr fr'→VR σ x u→
 ∃ v' σ' w',(Go.convert src dst u).run P w= .ok v' w'∧Out σ w H fr v H' fr' σ' w' v':=by
 have hd: ∀ {t},(yt P t).d≠ .other→(yt P t).d=mkD P t:=fun h=>let ⟨_,_,_,_,_,h⟩:=yv h; h
 unfold sk at h
 split at h
 · rename_i i j hi hj
   have e:=ok.ty _ _ hi
   subst e
   have e:=ok.ty _ _ hj
   subst e
   split at h
   · rename_i e s h1 h2
     have u1:=y8 ((hd (by simp [h1])).symm.trans h1)
     have u2:=ye ((hd (by simp [h2])).symm.trans h2)
     unfold kc at h
     split at h
     · rename_i y hy
       have e1:=ok.ty _ _ hy
       subst e1
       split at h
       · rename_i h3
         have u3:=vn ((hd (by simp [h3])).symm.trans h3)
         refine ⟨_,_,_,h,Grow.put _ _ _ _ _ _ (by omega) (by omega) (.inl rfl) (.inl (by omega)),fun σ w u hs hn hx=> ?_⟩
         cases hx
         obtain ⟨z,fz,hz1,hz2,hr⟩:=ue (P:=P) w e s
         have hds:w.drew.heap.size=w.heap.size:=rfl
         have key:=kV (σ:=σ) (w:=w.drew) (H:=H) (fr:=fr) (b:= .cols s.size [.int .u8 fun j=>oI s j]) (v:= .own fr 1 s.size) (v':= .slice (some ⟨w.heap.size,0,none⟩) s.size (grownCap w s.size 0 e))
           ((s.data.map fun b=>Value.int .u8 b.toNat)++z) e fz (grownCap w s.size 0 e) hs.drew hn (by rw [← hz2]; simp) hz1 (fun j i c hj hc=>by
            cases i with
            |zero=>
             simp only [yh,Option.some.injEq] at hc
             subst hc
             refine ⟨.int .u8 (oI s j),?_,.int _ _,rfl⟩
             simp only [yB,Nat.zero_add,Nat.add_zero,Nat.mul_one]
             rw [wq,Array.getElem?_append_left (by simpa using hj)]
             exact jf s j hj
            |succ i=>simp [yh] at hc)
           (.own fr 1 s.size ⟨w.heap.size,0,grownCap w s.size 0 e⟩ (grownCap w s.size 0 e) (yY _ _ _) rfl (xb w _ _ _) (by simp))
         exact ⟨_,_,_,by simp [Go.convert,run_underlying u1,run_underlying u2,run_underlying u3,hr],key.v,key.sim,key.mon,key.ext,⟨key.frm.os,key.frm.tape,key.frm.output,key.frm.size,key.frm.old,key.frm.own⟩⟩
       · exact h.elim
     · exact h.elim
   · rename_i e h1 h2
     have u1:=ye ((hd (by simp [h1])).symm.trans h1)
     have u2:=y8 ((hd (by simp [h2])).symm.trans h2)
     unfold ml at h
     split at h
     · rename_i y hy
       have e1:=ok.ty _ _ hy
       subst e1
       split at h
       · rename_i h3
         have u3:=vn ((hd (by simp [h3])).symm.trans h3)
         have h0: ∀ w:World,∀ A c,(Conv.bytesToString (.slice A 0 c)).run P w= .ok (.string (S.ofB (fun _=>0) 0)) w:=fun w A c=>by
          cases A with
          |none=>simp [Conv.bytesToString,S.ofB]; rfl
          |some a=>
           rw [run_bytesToString w a 0 c [] (by simp [loadCells,loadCellsFrom])]
           rfl
         split at h
         · refine ⟨_,_,_,h,Grow.refl _ _,fun σ w u hs hn hx=> ?_⟩
           cases hx
           exact ⟨_,σ,w,by simp [Go.convert,run_underlying u1,run_underlying u2,run_underlying u3,h0],Out.same hs (.str _)⟩
         · refine ⟨_,_,_,h,Grow.refl _ _,fun σ w u hs hn hx=> ?_⟩
           cases hx
           exact ⟨_,σ,w,by simp [Go.convert,run_underlying u1,run_underlying u2,run_underlying u3,h0],Out.same hs (.str _)⟩
         · split at h
           · rename_i a n hsp
             split at h
             · rename_i b f hsrc
               obtain ⟨hb,h⟩:=zz h
               subst hb
               obtain ⟨s1,s2,s3,s4⟩:=qJ hsrc
               refine ⟨_,_,_,h,Grow.refl _ _,fun σ w u hs hn hx=> ?_⟩
               obtain ⟨A,c,rfl,hc,hA⟩:=wO hsp hx
               refine ⟨.string (S.ofB f n),σ,w,?_,Out.same hs (.str _)⟩
               simp only [Go.convert,Sem.run_bind,run_underlying u1,run_underlying u2,run_underlying u3,Result.andThen]
               rcases Nat.eq_zero_or_pos n with rfl|hn0
               · exact h0 w A c
               · obtain ⟨rb,hr,rfl⟩:=hA hn0
                 rw [run_bytesToString w (a.at rb) n c ((List.range n).map f) ?_,i9]
                 have:=run_loadCells_list (P:=P) w (a.at rb) (((List.range n).map f).map (Value.int .u8)) (fun j v hj=>by
                  have hjl:j<n:=by
                   have:=(List.getElem?_eq_some_iff.1 hj).1
                   simpa using this
                  obtain ⟨u,hu,hv,_⟩:=s4 σ w rb hs hr j 0 hjl (by omega)
                  simp only [yR,yh,zy] at hv
                  cases hv
                  have:v= .int .u8 (f j):=by
                   simp [hjl] at hj
                   exact hj.symm
                  subst this
                  rw [← hu]
                  show w.cell? ((⟨rb.blk,rb.base+pos a,none⟩:Addr).add j)=_
                  rw [wd]
                  simp)
                 simpa using this
             · exact h.elim
           · exact h.elim
       · exact h.elim
     · exact h.elim
   · obtain ⟨r,h1,h2⟩:=qM ok h
     refine ⟨r,_,_,h1,Grow.refl _ _,fun σ w u hs hn hx=> ?_⟩
     obtain ⟨y,q1,q2⟩:=h2 σ w u hx
     exact ⟨y,σ,w,q1,Out.same hs q2⟩
 · exact h.elim
end
end Go.Ev
