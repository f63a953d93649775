/-
  A reckoner for the translated functions: values whose addresses are names, memory as a list of named blocks, and the steps of a function as a computation that Lean's kernel can run.
-/
import GoSem.Claims
import Derived.Calls
import Derived.Orders
import Derived.Below
import Derived.KernelRfl
namespace Go.Ev

/-- A place: the block's name; the index of an element of st cells; the cell within it. -/
structure PA where
  nm : Nat
  st : Nat
  ix : Nat
  off : Nat

inductive PV where
  | unk
  | bool (b : Bool)
  | tf (b : Bool)
  | int (k : IntKind) (n : Int)
  | str (s : ByteArray)
  | ptr (a : PA)
  | nilp
  | nils
  | emp
  | loose (a : PA) (n : Nat)
  | sl (a : PA) (n : Nat)
  | own (nm st n : Nat)
  | agg (cs : List PV)
  | tup (vs : List PV)
  | fn (f : Fn) (first caps : List PV)
  | nilf
  | ifc (t : TypeId) (v : PV)
  | nili
  | zer (b : Bool)

/-- A column of a list of structs. -/
inductive Col where
  | int (k : IntKind) (f : Nat → Int)
  | bool (f : Nat → Bool)
  | str (f : Nat → ByteArray)
  | val (f : Nat → PV)
def colAt : Col → Nat → PV
  | .int k f, j => .int k (f j)
  | .bool f, j => .bool (f j)
  | .str f, j => .str (f j)
  | .val f, j => f j
inductive Blk where
  | dead
  | cols (n : Nat) (cs : List Col)
  | cells (cs : List PV)
  | rows (st n : Nat) (F : Nat → Nat → PV)
  | ints (k : IntKind) (n : Nat) (f : Nat → Int)

abbrev Tmps := List (Nat × PV)
abbrev Lvl := List (Nat × Bool × Blk)
abbrev Heap := List Lvl

def tget : Tmps → Nat → PV
  | [], _ => .unk
  | (k, v) :: T, t => match Nat.beq k t with
    | true => v
    | false => tget T t
def lget : Lvl → Nat → Option (Bool × Blk)
  | [], _ => none
  | (m, e) :: l, n => match Nat.beq m n with
    | true => some e
    | false => lget l n
def hget : Heap → Nat → Option (Bool × Blk)
  | [], _ => none
  | l :: r, n => match lget l n with
    | some e => some e
    | none => hget r n
def hput : Heap → Nat → Bool × Blk → Heap
  | [], n, e => [[(n, e)]]
  | l :: r, n, e => ((n, e) :: l) :: r
def hmerge (l : Lvl) : Heap → Heap
  | [] => [l]
  | m :: r => (l ++ m) :: r

def nth : List PV → Nat → Option PV
  | [], _ => none
  | v :: _, 0 => some v
  | _ :: l, n + 1 => nth l n
/-- The list with other values from a place on; none, if there is no room. -/
def splice : List PV → Nat → List PV → Option (List PV)
  | l, _, [] => some l
  | [], _, _ :: _ => none
  | _ :: l, 0, v :: vs => match splice l 0 vs with
    | some r => some (v :: r)
    | none => none
  | x :: l, n + 1, vs => match splice l n vs with
    | some r => some (x :: r)
    | none => none
def cut : List PV → Nat → Nat → Option (List PV)
  | _, 0, 0 => some []
  | [], _, _ => none
  | v :: l, 0, n + 1 => match cut l 0 n with
    | some r => some (v :: r)
    | none => none
  | _ :: l, i + 1, n => cut l i n

/-- A value out of the program's text. -/
def ofV : Nat → Value → PV
  | _, .bool b => .tf b
  | _, .int k n => .int k n
  | _, .string s => .str s
  | _, .pointer none => .nilp
  | _, .slice none 0 0 => .nils
  | _, .nilFunc => .nilf
  | _, .nilIface => .nili
  | n + 1, .agg cs => .agg (cs.toList.map (ofV n))
  | _, _ => .unk

/-- What is known of a type. -/
inductive TD where
  | other
  | bool
  | int (k : IntKind)
  | string
  | ptr (e : TypeId)
  | slice (e : TypeId)
  | array (n : Nat) (e : TypeId)
  | struct (fs : List (Nat × TypeId))
  | func
structure TyI where
  d : TD
  size : Nat
  bytes : Nat
  zero : Option (List PV)
  eqok : Bool
  known : Bool

def ev (T : Tmps) : Operand → PV
  | .tmp t => tget T t
  | .const v => ofV 1 v
  | .global _ => .unk
  | .func f => .fn (.func f) [] []

def keq : IntKind → IntKind → Bool
  | .i8, .i8 | .i16, .i16 | .i32, .i32 | .i64, .i64 | .u8, .u8 | .u16, .u16 | .u32, .u32 | .u64, .u64 => true
  | _, _ => false
/-- A value that fills one cell. -/
def one : PV → Bool
  | .agg _ | .tup _ | .unk => false
  | _ => true
def ones : List PV → Bool
  | [] => true
  | v :: l => match one v with
    | true => ones l
    | false => false
def pcells : PV → Option (List PV)
  | .agg cs => some cs
  | .tup _ | .unk => none
  | v => some [v]
def len : List PV → Nat
  | [] => 0
  | _ :: l => len l + 1


structure FnI where
  body : Code
  nt : Nat
  res : List ResultVar
structure Env where
  ty : List TyI
  fs : List (Option FnI)

def nthT : List TyI → Nat → Option TyI
  | [], _ => none
  | i :: _, 0 => some i
  | _ :: l, n + 1 => nthT l n
def nthFn : List (Option FnI) → Nat → Option FnI
  | [], _ => none
  | i :: _, 0 => i
  | _ :: l, n + 1 => nthFn l n
def nthD : List (Nat × TypeId) → Nat → Option (Nat × TypeId)
  | [], _ => none
  | i :: _, 0 => some i
  | _ :: l, n + 1 => nthD l n

section
variable (test : Bool → Prop → Prop → Prop) (E : Env)

def lim (k : IntKind) (n : Int) : Bool := decide (k.min ≤ n ∧ n ≤ k.max)

def addc : Nat → Nat → Nat
  | 0, x => x
  | o + 1, x => (o + 1) + x
def mulc (x : Nat) : Nat → Nat
  | 0 => 0
  | 1 => x
  | n + 2 => x * (n + 2)
def pos (a : PA) : Nat := match a.st with
  | 0 => a.off
  | s + 1 => addc a.off (mulc a.ix (s + 1))

def lenc : List Col → Nat
  | [] => 0
  | _ :: l => lenc l + 1
def nthc : List Col → Nat → Option Col
  | [], _ => none
  | c :: _, 0 => some c
  | _ :: l, n + 1 => nthc l n
def colOf : PV → Option Col
  | .int k z => some (.int k fun _ => z)
  | .bool b => some (.bool fun _ => b)
  | .tf b => some (.bool fun _ => b)
  | .str s => some (.str fun _ => s)
  | v => match one v with
    | true => some (.val fun _ => v)
    | false => none
def colsOf : List PV → Option (List Col)
  | [] => some []
  | v :: vs => match colOf v, colsOf vs with
    | some c, some cs => some (c :: cs)
    | _, _ => none
def updf {α : Type} (f : Nat → α) (o : Nat) (x : α) : Nat → α := fun j => bif Nat.beq j o then x else f j
def colU (o : Nat) : Col → PV → Option Col
  | .int k f, .int k' x => match keq k k' with
    | true => some (.int k (updf f o x))
    | false => none
  | .bool f, .bool x => some (.bool (updf f o x))
  | .bool f, .tf x => some (.bool (updf f o x))
  | .str f, .str x => some (.str (updf f o x))
  | .val f, v => match one v with
    | true => some (.val (updf f o v))
    | false => none
  | _, _ => none
def colsU (o : Nat) : List Col → Nat → List PV → Option (List Col)
  | cs, _, [] => some cs
  | [], _, _ :: _ => none
  | c :: cs, 0, v :: vs => match colU o c v, colsU o cs 0 vs with
    | some d, some ds => some (d :: ds)
    | _, _ => none
  | c :: cs, k + 1, v :: vs => match colsU o cs k (v :: vs) with
    | some ds => some (c :: ds)
    | none => none
def ldB (b : Blk) (a : PA) (K : PV → Prop) : Prop := match b with
  | .cells cs => match nth cs (pos a) with
    | some v => K v
    | none => False
  | .rows st n F => match Nat.beq st a.st, Nat.blt a.off st with
    | true, true => test (decide (a.ix < n)) (K (F a.ix a.off)) False
    | _, _ => False
  | .ints k n f => test (decide (pos a < n)) (K (.int k (f (pos a)))) False
  | .cols n cs => match nthc cs a.off, Nat.beq a.st (lenc cs) with
    | some c, true => test (decide (a.ix < n)) (K (colAt c a.ix)) False
    | _, _ => False
  | .dead => False
def ld (H : Heap) (a : PA) (K : PV → Prop) : Prop := match hget H a.nm with
  | some (_, b) => ldB test b a K
  | none => False
def lds (b : Blk) (a : PA) : Nat → (List PV → Prop) → Prop
  | 0, K => K []
  | n + 1, K => ldB test b a fun v => lds b ⟨a.nm, a.st, a.ix, a.off + 1⟩ n fun vs => K (v :: vs)
def ldn (H : Heap) (a : PA) (n : Nat) (K : List PV → Prop) : Prop := match hget H a.nm with
  | some (_, .cells cs) => match cut cs (pos a) n with
    | some vs => K vs
    | none => False
  | some (_, b) => lds test b a n K
  | none => False
def upd (f : Nat → Int) (o : Nat) (x : Int) : Nat → Int := fun p => bif Nat.beq p o then x else f p
def stB (H : Heap) (a : PA) (vs : List PV) (K : Heap → Prop) (b : Blk) : Prop := match b with
  | .cells cs => match ones vs with
    | true => match splice cs (pos a) vs with
      | some cs' => K (hput H a.nm (true, .cells cs'))
      | none => False
    | false => False
  | .ints k n f => match vs with
    | [.int k' x] => match keq k k' with
      | true => test (decide (pos a < n)) (K (hput H a.nm (true, .ints k n (upd f (pos a) x)))) False
      | false => False
    | _ => False
  | .cols n cs => match Nat.beq a.st (lenc cs), colsU a.ix cs a.off vs with
    | true, some cs' => test (decide (a.ix < n)) (K (hput H a.nm (true, .cols n cs'))) False
    | _, _ => False
  | _ => False
def stn (H : Heap) (a : PA) (vs : List PV) (K : Heap → Prop) : Prop := match hget H a.nm with
  | some (true, b) => stB test H a vs K b
  | _ => False

def aggT : TD → Option Bool
  | .struct _ | .array _ _ => some true
  | .other => none
  | _ => some false
def ldT (i : TyI) (H : Heap) (a : PA) (K : PV → Prop) : Prop := match aggT i.d with
  | some true => ldn test H a i.size fun vs => K (.agg vs)
  | some false => ld test H a K
  | none => False
def ldv (t : TypeId) (H : Heap) (a : PA) (K : PV → Prop) : Prop := match nthT E.ty t with
  | some i => ldT test i H a K
  | none => False

def rep (z : List PV) : Nat → List PV
  | 0 => []
  | n + 1 => z ++ rep z n

/-- The parts of a composite value, laid into its cells. -/
def fillp (place : Nat → Option (Nat × Nat)) : List PV → List (Nat × PV) → Option (List PV)
  | cs, [] => some cs
  | cs, (i, v) :: r => match place i, pcells v with
    | some (off, size), some vs => match Nat.beq (len vs) size, ones vs, Nat.ble (off + size) (len cs) with
      | true, true, true => match splice cs off vs with
        | some cs' => fillp place cs' r
        | none => none
      | _, _, _ => none
    | _, _ => none

def parts (T : Tmps) : List (Nat × Operand) → List (Nat × PV)
  | [] => []
  | (i, x) :: l => (i, ev T x) :: parts T l
def evs (T : Tmps) : List Operand → List PV
  | [] => []
  | x :: l => ev T x :: evs T l

/-- A part of a value's cells. -/
def part (t : TypeId) (cs : List PV) (off : Nat) : Option PV := match nthT E.ty t with
  | some i => match aggT i.d with
    | some true => match cut cs off i.size with
      | some vs => some (.agg vs)
      | none => none
    | some false => nth cs off
    | none => none
  | none => none

def szT (t : TypeId) : Option Nat := match nthT E.ty t with
  | some j => match j.known with
    | true => some j.size
    | false => none
  | none => none
/-- Are two values of a type equal? -/
def eqfs (eq : TypeId → PV → PV → Option Bool) : List (Nat × TypeId) → List PV → List PV → Option Bool
  | [], _, _ => some true
  | (off, t) :: l, xs, ys => match part E t xs off, part E t ys off with
    | some a, some b => match eq t a b, eqfs eq l xs ys with
      | some r, some s => some (r && s)
      | _, _ => none
    | _, _ => none
def eqas (eq : TypeId → PV → PV → Option Bool) (e : TypeId) (sz : Nat) : Nat → Nat → List PV → List PV → Option Bool
  | 0, _, _, _ => some true
  | n + 1, i, xs, ys => match part E e xs (i * sz), part E e ys (i * sz) with
      | some a, some b => match eq e a b, eqas eq e sz n (i + 1) xs ys with
        | some r, some s => some (r && s)
        | _, _ => none
      | _, _ => none
abbrev S.eqS (a b : ByteArray) : Bool := a.toList == b.toList
abbrev S.ltS (a b : ByteArray) : Bool := Op.bytesLess a.toList b.toList
/-- The string of n bytes. -/
abbrev S.ofB (f : Nat → Int) (n : Nat) : ByteArray := ⟨((List.range n).map fun j => UInt8.ofNat (f j).toNat).toArray⟩
abbrev S.subS (a : ByteArray) (lo hi : Nat) : ByteArray := a.extract lo hi
def eq0 (d : TD) (x y : PV) : Option Bool := match d, x, y with
  | .int _, .int k a, .int k' b => match keq k k' with
    | true => some (a == b)
    | false => none
  | .bool, .bool a, .bool b => some (a == b)
  | .bool, .tf a, .bool b => some (a == b)
  | .bool, .bool a, .tf b => some (a == b)
  | .bool, .tf a, .tf b => some (a == b)
  | .string, .str a, .str b => some (S.eqS a b)
  | .slice _, .nils, .nils => some true
  | .slice _, .nils, .sl _ _ => some false
  | .slice _, .sl _ _, .nils => some false
  | .slice _, .zer a, .nils => some (!a)
  | .slice _, .nils, .zer a => some (!a)
  | .ptr _, .nilp, .nilp => some true
  | .ptr _, .nilp, .ptr _ => some false
  | .ptr _, .ptr _, .nilp => some false
  | .func, .nilf, .nilf => some true
  | .func, .nilf, .fn _ _ _ => some false
  | .func, .fn _ _ _, .nilf => some false
  | _, _, _ => none
def eqt : Nat → TypeId → PV → PV → Option Bool
  | 0, _, _, _ => none
  | d + 1, t, x, y => match nthT E.ty t with
    | none => none
    | some i => match i.d, x, y with
      | .struct fs, .agg xs, .agg ys => match i.eqok with
        | true => eqfs E (eqt d) fs xs ys
        | false => none
      | .array n e, .agg xs, .agg ys => match i.eqok, szT E e with
        | true, some sz => eqas E (eqt d) e sz n 0 xs ys
        | _, _ => none
      | d, x, y => eq0 d x y

/-- Bits of integers. -/
def S.andB (k : IntKind) (a b : Int) : Int := k.wrap (BitVec.ofInt k.bits a &&& BitVec.ofInt k.bits b).toNat
def S.orB (k : IntKind) (a b : Int) : Int := k.wrap (BitVec.ofInt k.bits a ||| BitVec.ofInt k.bits b).toNat
def S.xorB (k : IntKind) (a b : Int) : Int := k.wrap (BitVec.ofInt k.bits a ^^^ BitVec.ofInt k.bits b).toNat
def S.andNotB (k : IntKind) (a b : Int) : Int := k.wrap (BitVec.ofInt k.bits a &&& ~~~(BitVec.ofInt k.bits b)).toNat
def S.shlB (k : IntKind) (a b : Int) : Int := k.wrap (a * 2 ^ (min b.toNat k.bits))
def S.shrB (k : IntKind) (a b : Int) : Int := a.fdiv (2 ^ (min b.toNat k.bits))
def shI (op : BinOp) (k : IntKind) (a b : Int) (K : PV → Prop) : Prop := match op with
  | .shl => test (decide (b < 0)) False (K (.int k (S.shlB k a b)))
  | .shr => test (decide (b < 0)) False (K (.int k (S.shrB k a b)))
  | _ => False
def binI (op : BinOp) (k : IntKind) (a b : Int) (K : PV → Prop) : Prop := match op with
  | .and => K (.int k (S.andB k a b))
  | .or => K (.int k (S.orB k a b))
  | .xor => K (.int k (S.xorB k a b))
  | .andNot => K (.int k (S.andNotB k a b))
  | .shl => shI test .shl k a b K
  | .shr => shI test .shr k a b K
  | .add => test (lim k (a + b)) (K (.int k (a + b))) False
  | .sub => test (lim k (a - b)) (K (.int k (a - b))) False
  | .mul => test (lim k (a * b)) (K (.int k (a * b))) False
  | .quo => test (decide (b = 0)) False (test (lim k (a.tdiv b)) (K (.int k (a.tdiv b))) False)
  | .rem => test (decide (b = 0)) False (K (.int k (a.tmod b)))
  | .eql => K (.bool (a == b))
  | .neq => K (.bool (a != b))
  | .lss => K (.bool (decide (a < b)))
  | .leq => K (.bool (decide (a ≤ b)))
  | .gtr => K (.bool (decide (a > b)))
  | .geq => K (.bool (decide (a ≥ b)))
def binS (op : BinOp) (a b : ByteArray) (K : PV → Prop) : Prop := match op with
  | .eql => K (.bool (S.eqS a b))
  | .neq => K (.bool (!(S.eqS a b)))
  | .lss => K (.bool (S.ltS a b))
  | .gtr => K (.bool (!(S.ltS a b || S.eqS a b)))
  | .leq => K (.bool (S.ltS a b || S.eqS a b))
  | .geq => K (.bool (!(S.ltS a b)))
  | .add => test (decide (((a.size + b.size : Nat) : Int) ≤ 9223372036854775807)) (K (.str (a ++ b))) False
  | _ => False
def litq : PV → Bool
  | .tf _ | .ptr _ | .nilp | .nils | .sl _ _ | .fn _ _ _ | .nilf | .zer _ => true
  | _ => false
def known (x y : PV) (b : Bool) : PV := match litq x, litq y with
  | true, true => .tf b
  | _, _ => .bool b
def binX (op : BinOp) (t : TypeId) (x y : PV) (K : PV → Prop) : Prop := match op with
  | .eql => match eqt E 5 t x y with
    | some b => K (known x y b)
    | none => False
  | .neq => match eqt E 5 t x y with
    | some b => K (known x y (!b))
    | none => False
  | _ => False
def isNil (op : BinOp) (n : Nat) (K : PV → Prop) : Prop := match op with
  | .eql => test (decide (0 < n)) (K (.tf false)) False
  | .neq => test (decide (0 < n)) (K (.tf true)) False
  | _ => False
def binN (op : BinOp) (t : TypeId) (n : Nat) (K : PV → Prop) : Prop := match nthT E.ty t with
  | some i => match i.d with
    | .slice _ => isNil test op n K
    | _ => False
  | none => False
def bin (op : BinOp) (t : TypeId) (x y : PV) (K : PV → Prop) : Prop := match x, y with
  | .loose _ n, .nils => binN test E op t n K
  | .own _ _ n, .nils => binN test E op t n K
  | .nils, .loose _ n => binN test E op t n K
  | .nils, .own _ _ n => binN test E op t n K
  | .int k a, .int k' b => match keq k k' with
    | false => shI test op k a b K
    | true => binI test op k a b K
  | .str a, .str b => binS test op a b K
  | x, y => binX E op t x y K

/-- A number that wraps around. -/
def S.wrapI (k : IntKind) (n : Int) : Int := k.wrap n
def binW (sy : Bool) (op : BinOp) (t : TypeId) (x y : PV) (K : PV → Prop) : Prop := match sy, op, x, y with
  | false, .add, .int k a, .int k' b => match keq k k' with
    | true => test (lim k (a + b)) (K (.int k (a + b))) (K (.int k (S.wrapI k (a + b))))
    | false => False
  | _, _, _, _ => bin test E op t x y K

def keys (s : ByteArray) (n : Nat) : Int := ((s.data.toList.getD n 0).toNat : Int)

def colsAt (cs : List Col) (j i : Nat) : PV := match nthc cs i with
  | some c => colAt c j
  | none => .unk
def joinf {α : Type} (n : Nat) (f g : Nat → α) : Nat → α := fun j => bif Nat.blt j n then f j else g (j - n)
def colJ (n : Nat) : Col → Col → Option Col
  | .int k f, .int k' g => match keq k k' with
    | true => some (.int k (joinf n f g))
    | false => none
  | .bool f, .bool g => some (.bool (joinf n f g))
  | .str f, .str g => some (.str (joinf n f g))
  | .val f, .val g => some (.val (joinf n f g))
  | _, _ => none
def colsJ (n : Nat) : List Col → List Col → Option (List Col)
  | [], [] => some []
  | c :: cs, d :: ds => match colJ n c d, colsJ n cs ds with
    | some e, some es => some (e :: es)
    | _, _ => none
  | _, _ => none
def colSh (a : Nat) : Col → Col
  | .int k f => .int k fun j => f (j + a)
  | .bool f => .bool fun j => f (j + a)
  | .str f => .str fun j => f (j + a)
  | .val f => .val fun j => f (j + a)
def colsSh (a : Nat) : List Col → List Col
  | [] => []
  | c :: cs => colSh a c :: colsSh a cs
/-- Where the elements of a slice lie, and how many there are. -/
def spanOf : PV → Option (PA × Nat)
  | .loose a n | .sl a n => some (a, n)
  | .own nm st n => some (⟨nm, st, 0, 0⟩, n)
  | _ => none

def most : Nat := 1000000

/-- append: the elements that are there (n of them, in F), and those of G behind them. -/
def join (n : Nat) (F G : Nat → Nat → PV) : Nat → Nat → PV := fun j i => bif Nat.blt j n then F j i else G (j - n) i

/-- The list of a slice's cells, if the block is a list of cells. -/
def listOf (H : Heap) (a : PA) (n : Nat) : Option (List PV) := match hget H a.nm with
  | some (_, .cells cs) => cut cs (pos a) (mulc n a.st)
  | _ => none

def nthd (cs : List PV) (n : Nat) : PV := match nth cs n with
  | some v => v
  | none => .unk
/-- The elements of a slice of elements of st cells, as a function. -/
def readB (b : Blk) (a : PA) (n st : Nat) (K : (Nat → Nat → PV) → Prop) : Prop := match b with
  | .rows st' n' F => match Nat.beq st' st, Nat.beq a.off 0 with
    | true, true => test (decide (a.ix + n ≤ n')) (K fun j i => F (j + a.ix) i) False
    | _, _ => False
  | .ints k n' f => match Nat.beq st 1, Nat.beq a.off 0 with
    | true, true => test (decide (a.ix + n ≤ n')) (K fun j _ => .int k (f (j + a.ix))) False
    | _, _ => False
  | .cols n' cs => match Nat.beq (lenc cs) st, Nat.beq a.off 0 with
    | true, true => test (decide (a.ix + n ≤ n')) (K fun j i => colsAt cs (j + a.ix) i) False
    | _, _ => False
  | .cells cs => test (decide ((a.ix + n) * a.st + a.off ≤ len cs)) (K fun j i => nthd cs ((a.ix + j) * a.st + (a.off + i))) False
  | .dead => False
def readable (H : Heap) (a : PA) (n st : Nat) (K : (Nat → Nat → PV) → Prop) : Prop := match Nat.beq a.st st, hget H a.nm with
  | true, some (_, b) => readB test b a n st K
  | _, _ => False

def oldOf (H : Heap) (st : Nat) : PV → Option (Option Nat × Nat)
  | .nils | .emp => some (none, 0)
  | .own nm st' n => match Nat.beq st' st, hget H nm with
    | true, some (true, _) => some (some nm, n)
    | _, _ => none
  | _ => none

def kill (H : Heap) : Option Nat → Heap
  | none => H
  | some nm => hput H nm (false, .dead)

def oldList (H : Heap) (st : Nat) (o : Option Nat) (n : Nat) : Option (List PV) := match o with
  | none => some []
  | some nm => listOf H ⟨nm, st, 0, 0⟩ n
def srcList (H : Heap) (st : Nat) (a : PA) (m : Nat) : Option (List PV) := match Nat.beq a.st st with
  | true => listOf H a m
  | false => none
def appF (H : Heap) (fr st : Nat) (o : Option Nat) (n : Nat) (a : PA) (m : Nat) (K : PV → Heap → Nat → Prop) : Prop :=
  readable test H a m st fun G => match o with
    | none => K (.own fr st (n + m)) (hput H fr (true, .rows st (n + m) G)) (fr + 1)
    | some nm => readable test H ⟨nm, st, 0, 0⟩ n st fun F =>
      K (.own fr st (n + m)) (hput (kill H o) fr (true, .rows st (n + m) (join n F G))) (fr + 1)
/-- The columns of m elements that stand written out from cell p on. -/
def litC (cs : List PV) (st : Nat) : Nat → Nat → Option (List Col)
  | _, 0 => none
  | p, 1 => match cut cs p st with
    | some vs => colsOf vs
    | none => none
  | p, m + 2 => match cut cs p st, litC cs st (p + st) (m + 1) with
    | some vs, some ds => match colsOf vs with
      | some c => colsJ 1 c ds
      | none => none
    | _, _ => none
/-- Columns of the elements that are appended, and of those that are there. -/
def srcC (H : Heap) (st : Nat) (a : PA) (m : Nat) : Option (Bool × List Col) := match Nat.beq a.st st, hget H a.nm with
  | true, some (_, .cols m' ds) => match Nat.beq (lenc ds) st, Nat.beq a.off 0 with
    | true, true => some (decide (a.ix + m ≤ m'), colsSh a.ix ds)
    | _, _ => none
  | true, some (_, .cells cs) => match litC cs st (pos a) m with
    | some ds => some (true, ds)
    | none => none
  | _, _ => none
def oldC (H : Heap) (st : Nat) (o : Option Nat) (n : Nat) : Option (Bool × Option (List Col)) := match o with
  | none => some (true, none)
  | some nm => match hget H nm with
    | some (_, .cols n' cs) => match Nat.beq (lenc cs) st with
      | true => some (decide (n ≤ n'), some cs)
      | false => none
    | some (_, .cells cs) => match n with
      | 0 => some (true, none)
      | 1 => match cut cs 0 st with
        | some vs => match colsOf vs with
          | some ds => some (true, some ds)
          | none => none
        | none => none
      | _ => none
    | _ => none
def joinO (n : Nat) : Option (List Col) → List Col → Option (List Col)
  | none, ds => some ds
  | some cs, ds => colsJ n cs ds
def appC (H : Heap) (fr st : Nat) (o : Option Nat) (n : Nat) (a : PA) (m : Nat) (K : PV → Heap → Nat → Prop) : Prop := match oldC H st o n, srcC H st a m with
  | some (b, oc), some (c, ds) => match joinO n oc ds with
    | some es => test b (test c (K (.own fr st (n + m)) (hput (kill H o) fr (true, .cols (n + m) es)) (fr + 1)) False) False
    | none => appF test H fr st o n a m K
  | _, _ => appF test H fr st o n a m K
def appA (H : Heap) (fr st : Nat) (o : Option Nat) (n : Nat) (a : PA) (m : Nat) (K : PV → Heap → Nat → Prop) : Prop :=
  match oldList H st o n, srcList H st a m with
  | some l, some r => K (.own fr st (n + m)) (hput (kill H o) fr (true, .cells (l ++ r))) (fr + 1)
  | _, _ => appC test H fr st o n a m K
/-- append of the elements of a slice. -/
def app (H : Heap) (fr st : Nat) (s x : PV) (K : PV → Heap → Nat → Prop) : Prop := match oldOf H st s with
  | none => False
  | some (o, n) => match x with
    | .nils | .emp | .zer _ => K s H fr
    | _ => match spanOf x with
      | none => False
      | some (a, m) => test (decide (n + m ≤ most)) (appA test H fr st o n a m K) False

/-- Other values from place p on, n of them. -/
def overf {α : Type} (p n : Nat) (f g : Nat → α) : Nat → α := fun j => bif Nat.ble p j then (bif Nat.blt j (p + n) then g (j - p) else f j) else f j
def colO (p n : Nat) : Col → Col → Option Col
  | .int k f, .int k' g => match keq k k' with
    | true => some (.int k (overf p n f g))
    | false => none
  | .bool f, .bool g => some (.bool (overf p n f g))
  | .str f, .str g => some (.str (overf p n f g))
  | .val f, .val g => some (.val (overf p n f g))
  | _, _ => none
def colsO (p n : Nat) : List Col → List Col → Option (List Col)
  | [], [] => some []
  | c :: cs, d :: ds => match colO p n c d, colsO p n cs ds with
    | some e, some es => some (e :: es)
    | _, _ => none
  | _, _ => none
/-- copy of k elements of a source that has m. -/
def cpyC (H : Heap) (fr st : Nat) (d s : PA) (m k : Nat) (K : PV → Heap → Nat → Prop) : Prop := match Nat.beq d.st st, Nat.beq d.off 0, hget H d.nm with
  | true, true, some (true, .cols n' cs) => match srcC H st s m, Nat.beq (lenc cs) st with
    | some (b, ds), true => match colsO d.ix k cs ds with
      | some es => test (decide (d.ix + k ≤ n')) (test b (K (.int .i64 k) (hput H d.nm (true, .cols n' es)) fr) False) False
      | none => False
    | _, _ => False
  | _, _, _ => False
def cpyA (H : Heap) (fr st : Nat) (d s : PA) (m k : Nat) (K : PV → Heap → Nat → Prop) : Prop := match hget H d.nm with
  | some (true, .cells cs) => match Nat.beq d.st st, srcList H st s k with
    | true, some r => match splice cs (pos d) r, ones r with
      | some cs', true => K (.int .i64 k) (hput H d.nm (true, .cells cs')) fr
      | _, _ => False
    | _, _ => False
  | _ => cpyC test H fr st d s m k K
/-- What a slice has: nothing, or so many elements from a place on. -/
def cntOf : PV → Option (Option (PA × Nat))
  | .nils | .emp | .zer _ => some none
  | v => match spanOf v with
    | some x => some (some x)
    | none => none
def cpy (H : Heap) (fr st : Nat) (d s : PV) (K : PV → Heap → Nat → Prop) : Prop := match cntOf d, cntOf s with
  | some none, some _ => K (.int .i64 0) H fr
  | some _, some none => K (.int .i64 0) H fr
  | some (some (a, n)), some (some (b, m)) => cpyA test H fr st a b m (min n m) K
  | _, _ => False

/-- append of made elements to nothing. -/
def appZ (H : Heap) (fr st : Nat) (z : List PV) (s x : PV) (K : PV → Heap → Nat → Prop) : Prop := match s, x with
  | .nils, .int _ n | .emp, .int _ n => match colsOf z with
    | some cs => test (decide (0 ≤ n ∧ n ≤ (most : Int))) (K (.own fr st n.toNat) (hput H fr (true, .cols n.toNat cs)) (fr + 1)) False
    | none => False
  | _, _ => False

def minl : List PV → Option PV
  | [.int k a] => some (.int k a)
  | [.int k a, .int k' b] => match keq k k' with | true => some (.int k (min a b)) | false => none
  | [.int k a, .int k' b, .int k'' c] => match keq k k', keq k k'' with | true, true => some (.int k (min (min a b) c)) | _, _ => none
  | _ => none
def maxl : List PV → Option PV
  | [.int k a] => some (.int k a)
  | [.int k a, .int k' b] => match keq k k' with | true => some (.int k (max a b)) | false => none
  | [.int k a, .int k' b, .int k'' c] => match keq k k', keq k k'' with | true, true => some (.int k (max (max a b) c)) | _, _ => none
  | _ => none

def lenOf (d : TD) (x : PV) : Option Int := match d, x with
  | .string, .str s => some s.size
  | .array n _, _ => some n
  | .slice _, .nils => some 0
  | .slice _, .emp => some 0
  | .slice _, .zer _ => some 0
  | .slice _, .loose _ n => some n
  | .slice _, .sl _ n => some n
  | .slice _, .own _ _ n => some n
  | _, _ => none

/-- The room of a slice, where it is known. -/
def capOf (d : TD) (x : PV) : Option Int := match d, x with
  | .slice _, .nils => some 0
  | _, _ => none

def optInt (T : Tmps) : Option Operand → Option (Option Int)
  | none => some none
  | some x => match ev T x with
    | .int _ n => some (some n)
    | _ => none

def wide : IntKind → IntKind → Bool
  | .i8, .i8 | .i8, .i16 | .i8, .i32 | .i8, .i64 | .i16, .i16 | .i16, .i32 | .i16, .i64 | .i32, .i32 | .i32, .i64 | .i64, .i64 => true
  | .u8, .u8 | .u8, .u16 | .u8, .u32 | .u8, .u64 | .u8, .i16 | .u8, .i32 | .u8, .i64 | .u16, .u16 | .u16, .u32 | .u16, .u64 | .u16, .i32 | .u16, .i64 => true
  | .u32, .u32 | .u32, .u64 | .u32, .i64 | .u64, .u64 => true
  | _, _ => false

abbrev Kon := PV → Heap → Nat → Prop
def oAlloc (H : Heap) (fr : Nat) (e : TypeId) (K : Kon) : Prop := match nthT E.ty e with
  | some i => match i.zero with
    | some cs => K (.ptr ⟨fr, 0, 0, 0⟩) (hput H fr (true, .cells cs)) (fr + 1)
    | none => False
  | none => False
def oBox (H : Heap) (fr : Nat) (v : PV) (K : Kon) : Prop := match pcells v with
  | some cs => match ones cs with
    | true => K (.ptr ⟨fr, 0, 0, 0⟩) (hput H fr (true, .cells cs)) (fr + 1)
    | false => False
  | none => False
def placeS (fs : List (Nat × TypeId)) (i : Nat) : Option (Nat × Nat) := match nthD fs i with
  | some (off, t) => match szT E t with
    | some n => some (off, n)
    | none => none
  | none => none
def allKnown : List (Nat × TypeId) → Bool
  | [] => true
  | (_, t) :: l => match nthT E.ty t with
    | some i => match i.known with
      | true => allKnown l
      | false => false
    | none => false
def oBuild (H : Heap) (fr : Nat) (t : TypeId) (ps : List (Nat × PV)) (K : Kon) : Prop := match nthT E.ty t with
  | none => False
  | some i => match i.zero with
    | none => False
    | some z => match i.d with
      | .struct fs => match allKnown E fs, fillp (placeS E fs) z ps with
        | true, some cs => K (.agg cs) H fr
        | _, _ => False
      | .array _ e => match szT E e with
        | some n => match fillp (fun i => some (i * n, n)) z ps with
          | some cs => K (.agg cs) H fr
          | _ => False
        | none => False
      | _ => False
def elemT (t : TypeId) : Option (TypeId × TyI) := match nthT E.ty t with
  | some i => match i.d with
    | .slice e => match nthT E.ty e with
      | some j => some (e, j)
      | none => none
    | _ => none
  | none => none
def oBuildSlice (H : Heap) (fr : Nat) (t : TypeId) (n : Nat) (ps : List (Nat × PV)) (K : Kon) : Prop := match elemT E t with
  | none => False
  | some (_, j) => match j.zero with
    | none => False
    | some z => match Nat.beq (len z) j.size, Nat.blt 0 j.size, Nat.blt (n * j.size) 16777217 with
      | true, true, true => match fillp (fun i => some (i * j.size, j.size)) (rep z n) ps with
        | some cs => match ones cs with
          | true => K (.own fr j.size n) (hput H fr (true, .cells cs)) (fr + 1)
          | false => False
        | none => False
      | _, _, _ => False
def oStore (H : Heap) (fr : Nat) (t : TypeId) (a x : PV) (K : Kon) : Prop := match a, pcells x, szT E t with
  | .ptr p, some cs, some n => match Nat.beq (len cs) n with
    | true => stn test H p cs fun H' => K .unk H' fr
    | false => False
  | _, _, _ => False
/-- The bytes of a string as a list. -/
def oConvS (H : Heap) (fr : Nat) (e : TypeId) (s : ByteArray) (K : Kon) : Prop := match nthT E.ty e with
  | some y => match y.d with
    | .int .u8 => K (.own fr 1 s.size) (hput H fr (true, .cols s.size [.int .u8 fun j => keys s j])) (fr + 1)
    | _ => False
  | none => False
/-- The string of a list of bytes. -/
def oConvB (H : Heap) (fr : Nat) (e : TypeId) (v : PV) (K : Kon) : Prop := match nthT E.ty e with
  | some y => match y.d with
    | .int .u8 => match v with
      | .nils | .emp => K (.str (S.ofB (fun _ => 0) 0)) H fr
      | v => match spanOf v with
        | some (a, n) => match srcC H 1 a n with
          | some (b, [.int .u8 f]) => test b (K (.str (S.ofB f n)) H fr) False
          | _ => False
        | none => False
    | _ => False
  | none => False
def oConvert0 (H : Heap) (fr : Nat) (src dst : TypeId) (x : PV) (K : Kon) : Prop := match nthT E.ty src, nthT E.ty dst with
  | some i, some j => match i.d, j.d, x with
    | .int _, .int k, .int k' n => match wide k' k with
      | true => test (lim k n) (K (.int k n) H fr) False
      | false => K (.int k (k.wrap n)) H fr
    | .string, .string, .str s => K (.str s) H fr
    | _, _, _ => False
  | _, _ => False
def oConvert (H : Heap) (fr : Nat) (src dst : TypeId) (x : PV) (K : Kon) : Prop := match nthT E.ty src, nthT E.ty dst with
  | some i, some j => match i.d, j.d, x with
    | .string, .slice e, .str s => oConvS E H fr e s K
    | .slice e, .string, v => oConvB test E H fr e v K
    | _, _, _ => oConvert0 test E H fr src dst x K
  | _, _ => False
def oMake2 (sy : Bool) (H : Heap) (fr n sz : Nat) (z : List PV) (K : Kon) : Prop := match sy with
  | false => K (.own fr sz n) (hput H fr (true, .cells (rep z n))) (fr + 1)
  | true => match colsOf z with
    | some cs => K (.own fr sz n) (hput H fr (true, .cols n cs)) (fr + 1)
    | none => K (.own fr sz n) (hput H fr (true, .rows sz n fun _ i => nthd z i)) (fr + 1)
def oMake (sy : Bool) (H : Heap) (fr : Nat) (t : TypeId) (l c : PV) (K : Kon) : Prop := match elemT E t, l, c with
  | some (_, j), .int .i64 n, .int .i64 m => match j.zero with
    | none => False
    | some z => match Nat.beq (len z) j.size, Nat.blt 0 j.size, Nat.blt j.bytes 4097 with
      | true, true, true => test (decide (0 ≤ n ∧ n ≤ m ∧ m ≤ (most : Int))) (oMake2 sy H fr n.toNat j.size z K) False
      | _, _, _ => False
  | _, _, _ => False
/-- A part of a list that is there. -/
def oSliceA (H : Heap) (fr : Nat) (e : TypeId) (v : PV) (lo hi : Option Int) (K : Kon) : Prop := match spanOf v, szT E e with
  | some (a, n), some sz => match Nat.beq a.st sz with
    | true => test (decide (0 ≤ lo.getD 0 ∧ lo.getD 0 ≤ hi.getD n ∧ hi.getD n ≤ n))
        (K (.loose ⟨a.nm, a.st, (lo.getD 0).toNat + a.ix, a.off⟩ ((hi.getD n).toNat - (lo.getD 0).toNat)) H fr) False
    | false => False
  | _, _ => False
/-- The first elements of a list of one's own. -/
def oSliceO (H : Heap) (fr : Nat) (e : TypeId) (nm st n : Nat) (hi : Option Int) (K : Kon) : Prop := match szT E e with
  | some sz => match Nat.beq st sz with
    | true => test (decide (0 ≤ hi.getD n ∧ hi.getD n ≤ n)) (K (.own nm st (hi.getD n).toNat) H fr) False
    | false => False
  | none => False
def oSlice2 (H : Heap) (fr : Nat) (t : TypeId) (v : PV) (lo hi : Option Int) (K : Kon) : Prop := match nthT E.ty t with
  | none => False
  | some i => match i.d, v with
    | .string, .str s => test (decide (0 ≤ lo.getD 0 ∧ lo.getD 0 ≤ hi.getD s.size ∧ hi.getD s.size ≤ s.size))
        (K (.str (S.subS s (lo.getD 0).toNat (hi.getD s.size).toNat)) H fr) False
    | .array n e, .ptr a => match szT E e with
      | some sz => test (decide (0 ≤ lo.getD 0 ∧ lo.getD 0 ≤ hi.getD n ∧ hi.getD n ≤ n))
        (K (.loose ⟨a.nm, sz, (lo.getD 0).toNat, pos a⟩ ((hi.getD n).toNat - (lo.getD 0).toNat)) H fr) False
      | none => False
    | .slice e, .nils => match szT E e with
      | some _ => test (decide (lo.getD 0 = 0 ∧ hi.getD 0 = 0)) (K .nils H fr) False
      | none => False
    | .slice e, .emp => match szT E e with
      | some _ => test (decide (lo.getD 0 = 0 ∧ hi.getD 0 = 0)) (K .emp H fr) False
      | none => False
    | .slice e, .own nm st n => match lo with
      | none => oSliceO test E H fr e nm st n hi K
      | some l => oSliceA test E H fr e (.own nm st n) (some l) hi K
    | .slice e, v => oSliceA test E H fr e v lo hi K
    | _, _ => False
def oSlice3 (H : Heap) (fr : Nat) (t : TypeId) (v : PV) (lo : Option Int) (h c : Int) (K : Kon) : Prop := match nthT E.ty t, lo with
  | some i, none => match i.d with
    | .slice e => match szT E e with
      | some _ => match v with
        | .nils => test (decide (h = 0 ∧ c = 0)) (K .nils H fr) False
        | .emp => test (decide (h = 0 ∧ c = 0)) (K .emp H fr) False
        | v => match spanOf v with
          | some _ => test (decide (h = 0 ∧ c = 0)) (K .emp H fr) False
          | none => False
      | none => False
    | _ => False
  | _, _ => False
def oSlice (T : Tmps) (H : Heap) (fr : Nat) (t : TypeId) (x : Operand) (lo hi mx : Option Operand) (K : Kon) : Prop := match optInt T lo, optInt T hi, mx with
  | some lo, some hi, none => oSlice2 test E H fr t (ev T x) lo hi K
  | some lo, some (some h), some m => match ev T m with
    | .int _ c => oSlice3 test E H fr t (ev T x) lo h c K
    | _ => False
  | _, _, _ => False
def dropP : List PV → Nat → List PV
  | l, 0 => l
  | [], _ + 1 => []
  | _ :: l, n + 1 => dropP l n
/-- The rest of a list of one's own, which is given up for it; where all is written out. -/
def oTail (sy : Bool) (T : Tmps) (H : Heap) (fr : Nat) (t : TypeId) (x : Operand) (lo hi mx : Option Operand) (K : Kon) (other : Prop) : Prop := match sy, hi, mx with
  | false, none, none => match ev T x, optInt T lo, nthT E.ty t with
    | .own nm st n, some (some l), some i => match i.d, hget H nm with
      | .slice e, some (true, .cells cs) => match szT E e with
        | some sz => match Nat.beq st sz with
          | true => test (decide (0 ≤ l ∧ l ≤ n)) (K (.own fr st (n - l.toNat)) (hput (kill H (some nm)) fr (true, .cells (dropP cs (mulc l.toNat st)))) (fr + 1)) False
          | false => other
        | none => other
      | _, _ => other
    | _, _, _ => other
  | _, _, _ => other
def oFieldAddr (H : Heap) (fr : Nat) (s : TypeId) (v : PV) (f : Nat) (K : Kon) : Prop := match v, nthT E.ty s with
  | .ptr a, some i => match i.d with
    | .struct fs => match placeS E fs f with
      | some (off, _ + 1) => K (.ptr ⟨a.nm, a.st, a.ix, off + a.off⟩) H fr
      | _ => False
    | _ => False
  | _, _ => False
def oField (H : Heap) (fr : Nat) (s : TypeId) (v : PV) (f : Nat) (K : Kon) : Prop := match v, nthT E.ty s with
  | .agg cs, some i => match i.d with
    | .struct fs => match nthD fs f with
      | some (off, t) => match part E t cs off with
        | some v => K v H fr
        | none => False
      | none => False
    | _ => False
  | _, _ => False
def oIndexAddr (H : Heap) (fr : Nat) (t : TypeId) (x ix : PV) (K : Kon) : Prop := match nthT E.ty t, ix with
  | some ti, .int _ i => match ti.d with
    | .array n e => match x, szT E e with
      | .ptr a, some sz => test (decide (0 ≤ i ∧ i < n)) (K (.ptr ⟨a.nm, a.st, a.ix, mulc i.toNat sz + a.off⟩) H fr) False
      | _, _ => False
    | .slice e => match spanOf x, szT E e with
      | some (a, n), some sz => match Nat.beq a.st sz with
        | true => test (decide (0 ≤ i ∧ i < n)) (K (.ptr ⟨a.nm, a.st, i.toNat + a.ix, a.off⟩) H fr) False
        | false => False
      | _, _ => False
    | _ => False
  | _, _ => False
def oIndex (H : Heap) (fr : Nat) (t : TypeId) (x ix : PV) (K : Kon) : Prop := match nthT E.ty t, x, ix with
  | some ti, .agg cs, .int _ i => match ti.d with
    | .array n e => match szT E e with
      | some sz => test (decide (0 ≤ i ∧ i < n)) (match part E e cs (i.toNat * sz) with
          | some v => K v H fr
          | none => False) False
      | none => False
    | _ => False
  | some ti, .str s, .int _ i => match ti.d with
    | .string => test (decide (0 ≤ i ∧ i < s.size)) (K (.int .u8 (keys s i.toNat)) H fr) False
    | _ => False
  | _, _, _ => False
def oBuiltin (T : Tmps) (H : Heap) (fr : Nat) (b : Builtin) (args : List Operand) (ts : List TypeId) (K : Kon) : Prop := match b with
  | .len => match args, ts with
    | [x], t :: _ => match nthT E.ty t with
      | some i => match lenOf i.d (ev T x) with
        | some n => K (.int .i64 n) H fr
        | none => False
      | none => False
    | _, _ => False
  | .min => match minl (evs T args) with
    | some v => K v H fr
    | none => False
  | .max => match maxl (evs T args) with
    | some v => K v H fr
    | none => False
  | .append => match args, ts with
    | [s, x], [t, u] => match elemT E t with
      | some (_, j) => match Nat.blt 0 j.size, Nat.blt j.bytes 4097, j.zero with
        | true, true, some z => match Nat.beq (len z) j.size with
          | true => match Nat.beq t u with
            | true => app test H fr j.size (ev T s) (ev T x) K
            | false => match nthT E.ty u with
              | some i => match i.d with
                | .int _ => appZ test H fr j.size z (ev T s) (ev T x) K
                | _ => False
              | none => False
          | false => False
        | _, _, _ => False
      | none => False
    | _, _ => False
  | .copy => match args, ts with
    | [d, s], t :: _ => match elemT E t with
      | some (_, j) => match j.zero with
        | some _ => cpy test H fr j.size (ev T d) (ev T s) K
        | none => False
      | none => False
    | _, _ => False
  | .cap => match args, ts with
    | [x], t :: _ => match nthT E.ty t with
      | some i => match capOf i.d (ev T x) with
        | some n => K (.int .i64 n) H fr
        | none => False
      | none => False
    | _, _ => False
  | _ => False
def oPick (T : Tmps) (H : Heap) (fr : Nat) (c a b : Operand) (K : Kon) : Prop := match ev T c with
  | .bool t => test t (K (ev T a) H fr) (K (ev T b) H fr)
  | .tf t => match t with
    | true => K (ev T a) H fr
    | false => K (ev T b) H fr
  | _ => False
def oLoad (H : Heap) (fr : Nat) (t : TypeId) (v : PV) (K : Kon) : Prop := match v with
  | .ptr p => ldv test E t H p fun v => K v H fr
  | _ => False
def oNil (H : Heap) (fr : Nat) (v : PV) (K : Kon) : Prop := match v with
  | .ptr a => K (.ptr a) H fr
  | .fn (.func f) a b => K (.fn (.func f) a b) H fr
  | _ => False
def oUn (H : Heap) (fr : Nat) (op : UnOp) (v : PV) (K : Kon) : Prop := match op, v with
  | .neg, .int .u64 n => K (.int .u64 (IntKind.u64.wrap (-n))) H fr
  | .neg, .int k n => test (lim k (-n)) (K (.int k (-n)) H fr) False
  | .not, .bool b => K (.bool (!b)) H fr
  | .not, .tf b => K (.tf (!b)) H fr
  | _, _ => False
def oExtract (H : Heap) (fr : Nat) (v : PV) (i : Nat) (K : Kon) : Prop := match v with
  | .tup vs => match nth vs i with
    | some v => K v H fr
    | none => False
  | _ => False

abbrev Handler := FuncId → List PV → Heap → Nat → Kon → Prop
def oCall (X : Handler) (T : Tmps) (H : Heap) (fr : Nat) (c : Callee) (args : List Operand) (ts : List TypeId) (K : Kon) : Prop := match c with
  | .builtin b => oBuiltin test E T H fr b args ts K
  | .value f => match ev T f with
    | .fn (.func g) a b => X g (a ++ evs T args ++ b) H fr K
    | _ => False
  | .invoke _ _ => False

/-- One operation. -/
def opx0 (sy : Bool) (X : Handler) (T : Tmps) (H : Heap) (fr : Nat) (o : Op) (K : Kon) : Prop :=
  match o with
  | .move x => K (ev T x) H fr
  | .assign x => K (ev T x) H fr
  | .pick c a b => oPick test T H fr c a b K
  | .alloc e => oAlloc E H fr e K
  | .box _ x => oBox H fr (ev T x) K
  | .build t ps => oBuild E H fr t (parts T ps.toList) K
  | .buildSlice t n ps => oBuildSlice E H fr t n (parts T ps.toList) K
  | .load t a => oLoad test E H fr t (ev T a) K
  | .store t a x => oStore test E H fr t (ev T a) (ev T x) K
  | .nilCheck x => oNil H fr (ev T x) K
  | .binOp op t x y _ => binW test E sy op t (ev T x) (ev T y) fun v => K v H fr
  | .unOp op _ x => oUn test H fr op (ev T x) K
  | .convert src dst x => oConvert test E H fr src dst (ev T x) K
  | .makeFunc f a b => K (.fn f (evs T a.toList) (evs T b.toList)) H fr
  | .makeSlice t l c => oMake test E sy H fr t (ev T l) (ev T c) K
  | .slice t x lo hi mx => oTail test E sy T H fr t x lo hi mx K (oSlice test E T H fr t x lo hi mx K)
  | .fieldAddr s x i => oFieldAddr E H fr s (ev T x) i K
  | .field s x i => oField E H fr s (ev T x) i K
  | .indexAddr t x ix => oIndexAddr test E H fr t (ev T x) (ev T ix) K
  | .index t x ix => oIndex test E H fr t (ev T x) (ev T ix) K
  | .extract x i => oExtract H fr (ev T x) i K
  | .call c => oCall test E X T H fr c.callee c.args.toList c.argTypes.toList K
  | _ => False

/-- A truth value that an operation yields is asked for at once. -/
def spl (v : PV) (K : PV → Prop) : Prop := match v with
  | .bool b => test b (K (.tf true)) (K (.tf false))
  | v => K v
def opx (sy : Bool) (X : Handler) (T : Tmps) (H : Heap) (fr : Nat) (o : Op) (K : Kon) : Prop :=
  opx0 test E sy X T H fr o fun v H' fr' => spl test v fun v => K v H' fr'
def dryB : Builtin → Bool
  | .len | .min | .max => true
  | _ => false
/-- Does an operation need no memory that is there? -/
def dry : Op → Bool
  | .load .. | .store .. => false
  | .slice _ _ (some _) none none => false
  | .call c => match c.callee with
    | .builtin b => dryB b
    | _ => false
  | _ => true

/-- Items of a function's way that is left. -/
inductive It where
  | cd (c : Code)
  | ib (id : Nat)
  | il (c : Code)
  | sc (c : Code)
  | rg (all rest : List Oper)

structure Cfg where
  fn : FuncId
  todo : List It
  T : Tmps
  H : Heap
  fr : Nat

inductive Leaf where
  | ret (v : PV) (H : Heap) (fr : Nat)
  | stop (k : Nat) (c : Cfg)

def exitI (id : Nat) : List It → Option (List It)
  | [] => none
  | .ib id' :: k => match Nat.beq id' id with
    | true => some k
    | false => exitI id k
  | _ :: k => exitI id k

def resl (T : Tmps) (H : Heap) : List ResultVar → (List PV → Prop) → Prop
  | [], K => K []
  | .tmp t :: l, K => resl T H l fun vs => K (tget T t :: vs)
  | .cell a t :: l, K => match tget T a with
    | .ptr p => ldv test E t H p fun v => resl T H l fun vs => K (v :: vs)
    | _ => False
def tupl : List PV → PV
  | [v] => v
  | vs => .tup vs
def fin (c : Cfg) (K : Leaf → Prop) : Prop := match nthFn E.fs c.fn with
  | some fn => resl test E c.T c.H fn.res fun vs => K (.ret (tupl vs) c.H c.fr)
  | none => False

def opAt : List Oper → Nat → Option Oper
  | [], _ => none
  | o :: _, 0 => some o
  | _ :: l, n + 1 => opAt l n
def tset (f : FuncId) (T : Tmps) (d : Option Tmp) (v : PV) (K : Tmps → Prop) : Prop := match d with
  | none => K T
  | some d => match nthFn E.fs f with
    | some fn => match Nat.blt d fn.nt with
      | true => K ((d, v) :: T)
      | false => False
    | none => False

/-- What an operation of a region that draws its order has left. -/
structure Done where
  dst : Option Tmp
  v : PV
  l : Lvl
  dry : Bool
  writes : Bool
  view : Heap
  see : List Nat

def maskOf (ms : List Nat) : List Edge → Nat
  | [] => 0
  | e :: l => match Region.binds .any e with
    | true => Nat.lor (Nat.lor (Nat.shiftLeft 1 e.on) (ms.getD e.on 0)) (maskOf ms l)
    | false => maskOf ms l
def bitOf (m i : Nat) : Bool := Nat.beq (Nat.mod (Nat.shiftRight m i) 2) 1
/-- The temporaries and the memory that the operations in the mask have left (ds: all operations so far, the last one first; k: how many). -/
def knownT (m : Nat) (T : Tmps) : List Done → Nat → Tmps
  | [], _ => T
  | d :: ds, k => match bitOf m (k - 1), d.dst with
    | true, some t => (t, d.v) :: knownT m T ds (k - 1)
    | _, _ => knownT m T ds (k - 1)
def knownL (m : Nat) : List Done → Nat → Lvl
  | [], _ => []
  | d :: ds, k => match bitOf m (k - 1) with
    | true => d.l ++ knownL m ds (k - 1)
    | false => knownL m ds (k - 1)
/-! The names that a value leads to. -/
def addN (n : Nat) : List Nat → List Nat
  | [] => [n]
  | m :: l => match Nat.beq m n with
    | true => m :: l
    | false => m :: addN n l
mutual
def pnm : PV → List Nat → List Nat
  | .ptr a, l => addN a.nm l
  | .loose a _, l => addN a.nm l
  | .sl a _, l => addN a.nm l
  | .own nm _ _, l => addN nm l
  | .agg cs, l => pnms cs l
  | .tup cs, l => pnms cs l
  | .fn _ a b, l => pnms a (pnms b l)
  | .ifc _ v, l => pnm v l
  | .unk, l | .bool _, l | .tf _, l | .int _ _, l | .str _, l | .nilp, l | .nils, l | .emp, l | .nilf, l | .nili, l | .zer _, l => l
def pnms : List PV → List Nat → List Nat
  | [], l => l
  | v :: vs, l => pnm v (pnms vs l)
end
def bnm : Blk → List Nat → List Nat
  | .cells cs, l => pnms cs l
  | _, l => l
def close1 (H : Heap) : List Nat → List Nat → List Nat
  | [], l => l
  | n :: ns, l => match hget H n with
    | some (_, b) => bnm b (close1 H ns l)
    | none => close1 H ns l
def closeN (H : Heap) : Nat → List Nat → List Nat
  | 0, l => l
  | k + 1, l => closeN H k (close1 H l l)
def below0 : Nat → List Nat
  | 0 => []
  | n + 1 => n :: below0 n
def pickH (H : Heap) : List Nat → Lvl
  | [] => []
  | n :: l => match hget H n with
    | some e => (n, e) :: pickH H l
    | none => pickH H l
/-- The names that an operation's operands lead to. -/
def deepO : Op → Bool
  | .call c => match c.callee with
    | .builtin _ => false
    | _ => true
  | _ => false
def seeOf (T : Tmps) (l : Lvl) (H : Heap) (o : Op) : List Nat := match deepO o with
  | true => closeN (l :: H) 3 (pnms (evs T o.operands.toList) [])
  | false => pnms (evs T o.operands.toList) []
/-- The memory that an operation needs. -/
def tlD (dr : Bool) (see : List Nat) (l : Lvl) (H : Heap) : Heap := match dr with
  | true => []
  | false => [pickH (l :: H) see]
def allT (T : Tmps) : List Done → Tmps
  | [] => T
  | d :: ds => match d.dst with
    | some t => (t, d.v) :: allT T ds
    | none => allT T ds
def allL : List Done → Lvl
  | [] => []
  | d :: ds => d.l ++ allL ds
/-- Does a level hold a name from before? -/
def oldIn (fr : Nat) : Lvl → Bool
  | [] => false
  | (n, _) :: l => match Nat.blt n fr with
    | true => true
    | false => oldIn fr l
/-- Are a level's names not in this memory? -/
def noneOf (V : Heap) : Lvl → Bool
  | [] => true
  | (n, _) :: l => match hget V n with
    | some _ => false
    | none => noneOf V l
def apartM (r s : Done) : Bool :=
  ((r.dry && !r.writes) || (s.dry && !s.writes) || !(r.writes || s.writes)) || (noneOf s.view r.l && noneOf r.view s.l && noneOf [s.l] r.l && noneOf [r.l] s.l)
def apart1 (o : Oper) (ops : List Oper) (r d : Done) (k : Nat) : Bool :=
  apartM r d && match opAt ops k with
    | some o' => Oper.apart ops.toArray o' o
    | none => false
/-- No two unordered operations meet at a temporary or in memory. -/
def apartOk (o : Oper) (m : Nat) (ops : List Oper) (r : Done) : List Done → Nat → Bool
  | [], _ => true
  | d :: ds, k => match bitOf m (k - 1) with
    | true => apartOk o m ops r ds (k - 1)
    | false => match apart1 o ops r d (k - 1) with
      | true => apartOk o m ops r ds (k - 1)
      | false => false

def guardJ : Option (Nat × Bool) → Nat → Bool
  | none, _ => true
  | some (j, _), m => bitOf m j
def fits (f : FuncId) : Option Tmp → Bool
  | none => true
  | some d => match nthFn E.fs f with
    | some fn => Nat.blt d fn.nt
    | none => false

def edgesOk (k : Nat) : List Edge → Bool
  | [] => true
  | e :: l => match Region.binds .any e with
    | true => Nat.blt e.on k && edgesOk k l
    | false => edgesOk k l
def guarded (g : Option (Nat × Bool)) (ops : List Oper) (T : Tmps) (yes no : Prop) : Prop := match g with
  | none => yes
  | some (j, want) => match opAt ops j with
    | some oj => match oj.dst with
      | some tj => match tget T tj with
        | .bool b => test (b == want) yes no
        | .tf b => match b, want with
          | true, true => yes
          | false, false => yes
          | true, false => no
          | false, true => no
        | .tup _ => no
        | _ => False
      | none => False
    | none => False

/-- A region that draws its order, in the order of the text. -/
def drawn (sy : Bool) (X : Handler) (f : FuncId) (T : Tmps) (H : Heap) (all : List Oper) : List Oper → List Nat → List Done → Nat → Nat → (Tmps → Heap → Nat → Prop) → Prop
  | [], _, ds, _, fr, K => K (allT T ds) (hmerge (allL ds) H) fr
  | o :: rest, ms, ds, k, fr, K =>
    match guardJ o.guard (maskOf ms o.after.toList), fits E f o.dst, edgesOk k o.after.toList with
    | true, true, true =>
      guarded test o.guard all (knownT (maskOf ms o.after.toList) T ds k)
        (opx test E sy X (knownT (maskOf ms o.after.toList) T ds k) ([] :: tlD (dry o.op) (seeOf (knownT (maskOf ms o.after.toList) T ds k) (knownL (maskOf ms o.after.toList) ds k) H o.op) (knownL (maskOf ms o.after.toList) ds k) H) fr o.op fun v H' fr' => match H' with
          | l :: _ => match apartOk o (maskOf ms o.after.toList) all ⟨o.dst, v, l, dry o.op, oldIn fr l, tlD (dry o.op) (seeOf (knownT (maskOf ms o.after.toList) T ds k) (knownL (maskOf ms o.after.toList) ds k) H o.op) (knownL (maskOf ms o.after.toList) ds k) H, (seeOf (knownT (maskOf ms o.after.toList) T ds k) (knownL (maskOf ms o.after.toList) ds k) H o.op)⟩ ds k with
            | true => drawn sy X f T H all rest (ms ++ [maskOf ms o.after.toList]) (⟨o.dst, v, l, dry o.op, oldIn fr l, tlD (dry o.op) (seeOf (knownT (maskOf ms o.after.toList) T ds k) (knownL (maskOf ms o.after.toList) ds k) H o.op) (knownL (maskOf ms o.after.toList) ds k) H, (seeOf (knownT (maskOf ms o.after.toList) T ds k) (knownL (maskOf ms o.after.toList) ds k) H o.op)⟩ :: ds) (k + 1) fr' K
            | false => False
          | [] => False)
        (match apartOk o (maskOf ms o.after.toList) all ⟨o.dst, .tup [], [], true, false, [], []⟩ ds k with
          | true => drawn sy X f T H all rest (ms ++ [maskOf ms o.after.toList]) (⟨o.dst, .tup [], [], true, false, [], []⟩ :: ds) (k + 1) fr K
          | false => False)
    | _, _, _ => False

def argT : Nat → List PV → Tmps
  | _, [] => []
  | n, v :: l => (n, v) :: argT (n + 1) l

/-- What is known of functions: an answer, or else what stands behind. -/
abbrev Ext := FuncId → List PV → Heap → Nat → Kon → Prop → Prop
abbrev Self := Cfg → (Leaf → Prop) → Prop

def enter (self : Self) (f : FuncId) (args : List PV) (H : Heap) (fr : Nat) (K : Kon) : Prop := match nthFn E.fs f with
  | some fn => self ⟨f, [.cd fn.body], argT 0 args, [] :: H, fr⟩ fun l => match l with
    | .ret v (l :: H') fr' => K v (hmerge l H') fr'
    | _ => False
  | none => False
def handle (X : Ext) (self : Self) : Handler := fun f args H fr K => X f args H fr K (enter E self f args H fr K)
def stepRg (self : Self) (Y : Handler) (sy : Bool) (c : Cfg) (all rest : List Oper) (k : List It) (K : Leaf → Prop) : Prop := match rest with
  | [] => self ⟨c.fn, k, c.T, c.H, c.fr⟩ K
  | o :: rest => guarded test o.guard all c.T
      (opx test E sy Y c.T c.H c.fr o.op fun v H' fr' => tset E c.fn c.T o.dst v fun T' => self ⟨c.fn, .rg all rest :: k, T', H', fr'⟩ K)
      (tset E c.fn c.T o.dst (.tup []) fun T' => self ⟨c.fn, .rg all rest :: k, T', c.H, c.fr⟩ K)
def stepCd (self : Self) (Y : Handler) (sy stop : Bool) (c : Cfg) (cd : Code) (k : List It) (K : Leaf → Prop) : Prop := match cd with
  | .skip => self ⟨c.fn, k, c.T, c.H, c.fr⟩ K
  | .label _ => self ⟨c.fn, k, c.T, c.H, c.fr⟩ K
  | .seq a b => self ⟨c.fn, .cd a :: .cd b :: k, c.T, c.H, c.fr⟩ K
  | .cond x a b => match ev c.T x with
    | .bool t => test t (self ⟨c.fn, .cd a :: k, c.T, c.H, c.fr⟩ K) (self ⟨c.fn, .cd b :: k, c.T, c.H, c.fr⟩ K)
    | .tf t => match t with
      | true => self ⟨c.fn, .cd a :: k, c.T, c.H, c.fr⟩ K
      | false => self ⟨c.fn, .cd b :: k, c.T, c.H, c.fr⟩ K
    | _ => False
  | .block id b => self ⟨c.fn, .cd b :: .ib id :: k, c.T, c.H, c.fr⟩ K
  | .scope b => self ⟨c.fn, .cd b :: .sc b :: k, c.T, c.H, c.fr⟩ K
  | .loop b => match stop with
    | true => K (.stop 0 ⟨c.fn, .cd b :: .il b :: k, c.T, c.H, c.fr⟩)
    | false => self ⟨c.fn, .cd b :: .il b :: k, c.T, c.H, c.fr⟩ K
  | .exit id => match exitI id k with
    | some k' => self ⟨c.fn, k', c.T, c.H, c.fr⟩ K
    | none => False
  | .ret => fin test E c K
  | .region _ ops d => match d with
    | false => self ⟨c.fn, .rg ops.toList ops.toList :: k, c.T, c.H, c.fr⟩ K
    | true => drawn test E sy Y c.fn c.T c.H ops.toList ops.toList [] [] 0 c.fr fun T' H' fr' => self ⟨c.fn, k, T', H', fr'⟩ K
  | _ => False

/-- The run of a function's frame; loops of the frame itself are stops where 'stop' says so. -/
def run (sy : Bool) (X : Ext) : Bool → Nat → Cfg → (Leaf → Prop) → Prop
  | _, 0, _, _ => False
  | stop, n + 1, c, K => match c.todo with
    | [] => fin test E c K
    | .ib _ :: k => run sy X stop n ⟨c.fn, k, c.T, c.H, c.fr⟩ K
    | .sc _ :: k => run sy X stop n ⟨c.fn, k, c.T, c.H, c.fr⟩ K
    | .il b :: k => match stop with
      | true => K (.stop 1 ⟨c.fn, .cd b :: .il b :: k, c.T, c.H, c.fr⟩)
      | false => run sy X stop n ⟨c.fn, .cd b :: .il b :: k, c.T, c.H, c.fr⟩ K
    | .rg all rest :: k => stepRg test E (run sy X stop n) (handle E X (run sy X false n)) sy c all rest k K
    | .cd cd :: k => stepCd test E (run sy X stop n) (handle E X (run sy X false n)) sy stop c cd k K
end

/-- The tables of a program. -/
def mkD (P : Program) (t : TypeId) : TD := match P.underlying t with
  | some .bool => .bool
  | some (.int k) => .int k
  | some .string => .string
  | some (.pointer e) => .ptr e
  | some (.slice e) => .slice e
  | some (.array n e) => .array n e
  | some (.struct fs) => .struct (fs.toList.map fun f => (f.offset, f.type))
  | some (.func _ _ _) => .func
  | _ => .other
def plainNames (P : Program) (t : TypeId) : Bool := match P.underlying t with
  | some (.struct fs) => fs.toList.all fun f => f.name != "_"
  | _ => true
def mkZ (i : TypeInfo) : Option (List PV) := match i.zero with
  | some v => match pcells (ofV 1 v) with
    | some cs => match ones cs with
      | true => some cs
      | false => none
    | none => none
  | none => none
def mkTy (P : Program) (t : TypeId) : TyI := match P.info? t with
  | some i => ⟨mkD P t, i.size, i.bytes, mkZ i, !P.stoodInHeld t && !P.eqGuardType P.depth t && plainNames P t, true⟩
  | none => ⟨.other, 0, 0, none, false, false⟩
def mkFn (F : Func) : FnI := ⟨F.body.getD .skip, F.ntmps, F.results.toList⟩
end Go.Ev
