/-
  The typed machine: the abstract machine over values whose slices bear lists of numbers, strings, structs; what must hold for a run is a proposition (by cases at each test). Definitions only.
-/
import Derived.Test.YtmfegciehdjicaaAbsMono
import Derived.KernelRfl
set_option linter.unusedVariables false
namespace Go.AbsM

/-! ### Words for what is reckoned with values that are not known (the reader of a run stops at them) -/
namespace W
def add (k : IntKind) (a b : Int) : Int := k.wrap (a + b)
def sub (k : IntKind) (a b : Int) : Int := k.wrap (a - b)
def mul (k : IntKind) (a b : Int) : Int := k.wrap (a * b)
def quo (k : IntKind) (a b : Int) : Int := k.wrap (a.tdiv b)
def rem (a b : Int) : Int := a.tmod b
def and (k : IntKind) (a b : Int) : Int := k.wrap (BitVec.ofInt k.bits a &&& BitVec.ofInt k.bits b).toNat
def or (k : IntKind) (a b : Int) : Int := k.wrap (BitVec.ofInt k.bits a ||| BitVec.ofInt k.bits b).toNat
def xor (k : IntKind) (a b : Int) : Int := k.wrap (BitVec.ofInt k.bits a ^^^ BitVec.ofInt k.bits b).toNat
def andNot (k : IntKind) (a b : Int) : Int := k.wrap (BitVec.ofInt k.bits a &&& ~~~BitVec.ofInt k.bits b).toNat
def shl (k : IntKind) (a b : Int) : Int := k.wrap (a * 2 ^ (min b.toNat k.bits))
def shr (k : IntKind) (a b : Int) : Int := a.fdiv (2 ^ (min b.toNat k.bits))
def neg (k : IntKind) (n : Int) : Int := k.wrap (0 - n)
def inv (k : IntKind) (n : Int) : Int := k.wrap (BitVec.ofInt k.bits (if k.signed then -1 else k.max) ^^^ BitVec.ofInt k.bits n).toNat
def wrap (k : IntKind) (n : Int) : Int := k.wrap n
def bys (b : Nat) (c : Int) : Int := b * c
def imin (a b : Int) : Int := if b < a then b else a
def imax (a b : Int) : Int := if b > a then b else a
def ieq (a b : Int) : Bool := a == b
def ine (a b : Int) : Bool := a != b
def ilt (a b : Int) : Bool := decide (a < b)
def ile (a b : Int) : Bool := decide (a ≤ b)
def igt (a b : Int) : Bool := decide (a > b)
def ige (a b : Int) : Bool := decide (a ≥ b)
def neq (a b : Nat) : Bool := decide (a = b)
def nlt (a b : Nat) : Bool := decide (a < b)
def nle (a b : Nat) : Bool := decide (a ≤ b)
def nadd (a b : Nat) : Nat := a + b
def nsub (a b : Nat) : Nat := a - b
def nmul (a b : Nat) : Nat := a * b
def nmin (a b : Nat) : Nat := min a b
def ofNat (n : Nat) : Int := n
def toNat (n : Int) : Nat := n.toNat
def b8 (n : Int) : UInt8 := UInt8.ofNat n.toNat
def u8 (b : UInt8) : Int := b.toNat
def bnot (b : Bool) : Bool := !b
def beq (a b : Bool) : Bool := a == b
section
variable {α : Type}
def len (l : List α) : Nat := l.length
def app (l r : List α) : List α := l ++ r
def nth (l : List α) (i : Nat) (d : α) : α := l.getD i d
def upd (l : List α) (i : Nat) (x : α) : List α := l.set i x
def take (n : Nat) (l : List α) : List α := l.take n
def drop (n : Nat) (l : List α) : List α := l.drop n
def rep (n : Nat) (x : α) : List α := List.replicate n x
def none (l : List α) : Bool := l.isEmpty
end
def b8s (l : List Int) : List UInt8 := l.map b8
def u8s (l : List UInt8) : List Int := l.map u8
def seq (a b : List UInt8) : Bool := a == b
def sne (a b : List UInt8) : Bool := !(a == b)
def slt (a b : List UInt8) : Bool := Op.bytesLess a b
def sle (a b : List UInt8) : Bool := Op.bytesLess a b || a == b
def sgt (a b : List UInt8) : Bool := !(Op.bytesLess a b || a == b)
def sge (a b : List UInt8) : Bool := !(Op.bytesLess a b)
end W

/-- What stands in a cell, or in a struct of cells. -/
inductive VT where
  | int (k : IntKind)
  | bool
  | str
  | flt (k : FloatKind)
  | cx (k : FloatKind)
  | slc (e : TypeId) (t : VT)
  | unit
  | pair (a b : VT)
  deriving DecidableEq, Inhabited

/-- A slice in a cell: nil, empty without room, or one with elements. -/
inductive NL (α : Type) where
  | nil
  | cap0
  | mk (l : List α)
def NL.list {α : Type} : NL α → List α
  | .mk l => l
  | _ => []
def NL.cut {α : Type} (h b : Nat) : NL α → NL α
  | .mk l => .mk (W.drop b (W.take h l))
  | x => x

def VT.den : VT → Type
  | .int _ => Int
  | .bool => Bool
  | .str => List UInt8
  | .flt _ => Nat
  | .cx _ => Nat × Nat
  | .slc _ t => NL t.den
  | .unit => Unit
  | .pair a b => a.den × b.den

def VT.dflt : (t : VT) → t.den
  | .int _ => (0 : Int)
  | .bool => false
  | .str => ([] : List UInt8)
  | .flt _ => (0 : Nat)
  | .cx _ => ((0, 0) : Nat × Nat)
  | .slc _ _ => NL.nil
  | .unit => ()
  | .pair a b => (a.dflt, b.dflt)

def VT.isAgg : VT → Bool
  | .unit | .pair _ _ => true
  | _ => false

def embOf (t : VT) (cs : List AV) : AV := match t.isAgg with
  | true => .agg cs
  | false => cs.headD .dead
def nlAV {α : Type} (e : TypeId) (f : α → AV) : NL α → AV
  | .nil => .nils
  | .cap0 => .cap0
  | .mk l => .sl e (l.map f)
def VT.cells : (t : VT) → t.den → List AV
  | .int k, n => [.x (.int k n)]
  | .bool, b => [.x (.bool b)]
  | .str, l => [.str l]
  | .flt k, n => [.x (.float k n)]
  | .cx k, z => [.x (.complex k (Prod.fst z) (Prod.snd z))]
  | .slc e t, x => [nlAV e (fun y => embOf t (t.cells y)) x]
  | .unit, _ => []
  | .pair a b, z => a.cells (Prod.fst z) ++ b.cells (Prod.snd z)
def VT.emb (t : VT) (x : t.den) : AV := embOf t (t.cells x)

/-- A cell's value: a plain one, a slice that is only read, a handle to a whole slice of this frame's own, the address of its element. -/
inductive TC where
  | a (x : AV)
  | sl (e : TypeId) (t : VT) (x : NL t.den)
  | h (k : Nat)
  | eh (k j off : Nat)
inductive T1 where
  | c (x : TC)
  | agg (cs : List TC)
  | own (e : TypeId) (t : VT) (xs : List t.den)
inductive TV where
  | o (x : T1)
  | tup (vs : List T1)
  | efz (t : VT) (x : t.den) (off : Nat)
abbrev TV.a (x : AV) : TV := .o (.c (.a x))
abbrev TV.int (k : IntKind) (n : Int) : TV := .o (.c (.a (.x (.int k n))))
abbrev TV.bool (b : Bool) : TV := .o (.c (.a (.x (.bool b))))
abbrev TV.h (k : Nat) : TV := .o (.c (.h k))
abbrev TV.l (e : TypeId) (t : VT) (xs : List t.den) : TV := .o (.c (.sl e t (.mk xs)))

inductive TOb where
  | box (cs : List TC)
  | arr (fz : Bool) (e : TypeId) (t : VT) (xs : List t.den)

abbrev TStore := List (Nat × TOb)
structure TSt where
  slots : List TV
  st : TStore

def lookT : TStore → Nat → Option TOb
  | [], _ => none
  | (k, o) :: r, n => if k = n then some o else lookT r n
def layT : TStore → Nat → TOb → TStore
  | [], _, _ => []
  | (k, o) :: r, n, p => if k = n then (k, p) :: r else (k, o) :: layT r n p
def dropT : TStore → Nat → TStore
  | [], _ => []
  | (k, o) :: r, n => if k = n then dropT r n else (k, o) :: dropT r n

def VT.tc : (t : VT) → t.den → List TC
  | .int k, n => [.a (.x (.int k n))]
  | .bool, b => [.a (.x (.bool b))]
  | .str, l => [.a (.str l)]
  | .flt k, n => [.a (.x (.float k n))]
  | .cx k, z => [.a (.x (.complex k (Prod.fst z) (Prod.snd z)))]
  | .slc e t, x => [.sl e t x]
  | .unit, _ => []
  | .pair a b, z => a.tc (Prod.fst z) ++ b.tc (Prod.snd z)
def VT.t1 (t : VT) (x : t.den) : T1 := match t.isAgg with
  | true => .agg (t.tc x)
  | false => .c ((t.tc x).headD (.a .dead))

/-- A typed cell as what it tells. -/
def VT.ofC : (t : VT) → TC → Option t.den
  | .int k, c => match c with
    | .a (.x (.int k' n)) => if k' = k then some n else none
    | _ => none
  | .bool, c => match c with
    | .a (.x (.bool b)) => some b
    | _ => none
  | .str, c => match c with
    | .a (.str l) => some l
    | _ => none
  | .flt k, c => match c with
    | .a (.x (.float k' n)) => if k' = k then some n else none
    | _ => none
  | .cx k, c => match c with
    | .a (.x (.complex k' a b)) => if k' = k then some (a, b) else none
    | _ => none
  | .slc e t, c => match c with
    | .a .nils => some .nil
    | .a .cap0 => some .cap0
    | .sl e' t' x => if e' = e then if h : t' = t then some (h ▸ x) else none else none
    | _ => none
  | _, _ => none
def ofHead {α : Type} (f : TC → Option α) (cs : List TC) : Option (α × List TC) := match cs with
  | c :: r => match f c with
    | some x => some (x, r)
    | none => none
  | [] => none
def VT.ofTC : (t : VT) → List TC → Option (t.den × List TC)
  | .unit, r => some ((), r)
  | .pair a b, cs => match a.ofTC cs with
    | some (x, r) => match b.ofTC r with
      | some (y, r') => some ((x, y), r')
      | none => none
    | none => none
  | .int k, cs => ofHead (VT.ofC (.int k)) cs
  | .bool, cs => ofHead (VT.ofC .bool) cs
  | .str, cs => ofHead (VT.ofC .str) cs
  | .flt k, cs => ofHead (VT.ofC (.flt k)) cs
  | .cx k, cs => ofHead (VT.ofC (.cx k)) cs
  | .slc e t, cs => ofHead (VT.ofC (.slc e t)) cs
def VT.ofT1 (t : VT) : T1 → Option t.den
  | .c c => match t.isAgg with
    | true => none
    | false => match t.ofTC [c] with
      | some (x, []) => some x
      | _ => none
  | .agg cs => match t.isAgg with
    | true => match t.ofTC cs with
      | some (x, []) => some x
      | _ => none
    | false => none
  | .own .. => none

/-- (for the reader of runs: of which type it is) -/
abbrev asT (α : Type) (x : α) : α := x

/-! ### What they stand for -/
/-- What fits a cell. -/
def AV.one : AV → AV
  | .agg _ => .dead
  | .tup _ => .dead
  | .own .. => .dead
  | .obj _ => .dead
  | y => y
def shapeT (S : TStore) (k : Nat) : Option (TypeId × Nat) := match lookT S k with
  | some (.arr _ e _ xs) => some (e, xs.length)
  | _ => none
def TC.emb (S : TStore) : TC → AV
  | .a x => x.one
  | .sl e t x => nlAV e t.emb x
  | .h k => match shapeT S k with
    | some (e, n) => .arr 0 k e 0 n n
    | none => .dead
  | .eh k j off => match shapeT S k with
    | some (e, n) => .ear 0 k e n j off
    | none => .dead
def T1.emb (S : TStore) : T1 → AV
  | .c x => x.emb S
  | .agg cs => .agg (cs.map (TC.emb S))
  | .own e t xs => .own e (xs.map t.emb)
def TV.emb (S : TStore) : TV → AV
  | .o x => x.emb S
  | .tup vs => .tup (vs.map (T1.emb S))
  | .efz t x off => .efz (t.cells x) off
def TOb.emb (S : TStore) : TOb → Ob
  | .box cs => .box (cs.map (TC.emb S))
  | .arr fz e t xs => .arr fz e (xs.map t.emb)
def embStore (S : TStore) : Store := S.map fun p => (p.1, p.2.emb S)
def TSt.emb (R : List Store) (s : TSt) : St := { slots := s.slots.map (TV.emb s.st), stores := embStore s.st :: R }

/-! ### Propositions by cases -/
def need {α : Type} (o : Option α) (f : α → Prop) : Prop := match o with
  | some a => f a
  | none => False
@[irreducible] def brc (t : Bool) (A B : Prop) : Prop := match t with
  | true => A
  | false => B
@[irreducible] def grd (t : Bool) (A : Prop) : Prop := match t with
  | true => A
  | false => False

/-! ### Changes -/
def TSt.get (s : TSt) (t : Nat) : TV := s.slots.getD t (.o (.c (.a .dead)))
def TSt.put (s : TSt) (d : Option Nat) (v : TV) : TSt := match d with
  | some d => { s with slots := s.slots.set d v }
  | none => s

def TC.kill (k : Nat) : TC → TC
  | .a x => .a (x.killCell k)
  | .h j => if j = k then .a .dead else .h j
  | .eh j m off => if j = k then .a .dead else .eh j m off
  | c => c
def T1.kill (k : Nat) : T1 → T1
  | .c x => .c (x.kill k)
  | .agg cs => .agg (cs.map (TC.kill k))
  | x => x
def TV.kill (k : Nat) : TV → TV
  | .o x => .o (x.kill k)
  | .tup vs => .tup (vs.map (T1.kill k))
  | v => v
def TOb.kill (k : Nat) : TOb → TOb
  | .box cs => .box (cs.map (TC.kill k))
  | o => o
def killT (k : Nat) (S : TStore) : TStore := S.map fun p => (p.1, p.2.kill k)
def TSt.create (s : TSt) (k : Nat) (o : TOb) : TSt := { slots := s.slots.map (TV.kill k), st := (k, o) :: dropT (killT k s.st) k }

/-- What bore the name k, as it was (n elements of e). -/
def TC.stale (k : Nat) (e : TypeId) (n : Nat) : TC → TC
  | .h j => if j = k then .a (.arr 0 k e 0 n n) else .h j
  | .eh j m off => if j = k then .a (.ear 0 k e n m off) else .eh j m off
  | c => c
def T1.stale (k : Nat) (e : TypeId) (n : Nat) : T1 → T1
  | .c x => .c (x.stale k e n)
  | .agg cs => .agg (cs.map (TC.stale k e n))
  | x => x
def TV.stale (k : Nat) (e : TypeId) (n : Nat) : TV → TV
  | .o x => .o (x.stale k e n)
  | .tup vs => .tup (vs.map (T1.stale k e n))
  | v => v
def TOb.stale (k : Nat) (e : TypeId) (n : Nat) : TOb → TOb
  | .box cs => .box (cs.map (TC.stale k e n))
  | o => o
def TSt.grow (s : TSt) (k : Nat) (e : TypeId) (n : Nat) (o : TOb) : TSt := { slots := s.slots.map (TV.stale k e n), st := layT (s.st.map fun p => (p.1, p.2.stale k e n)) k o }
def TSt.lay (s : TSt) (k : Nat) (o : TOb) : TSt := { s with st := layT s.st k o }
def TSt.fz (s : TSt) (k : Nat) : TSt := match lookT s.st k with
  | some (.arr _ e t xs) => s.lay k (.arr true e t xs)
  | _ => s

def resC (s : TSt) (c : TC) (K : TSt → TC → Prop) : Prop := match c with
  | .h k => match lookT s.st k with
    | some (.arr _ e t xs) => K (s.fz k) (.sl e t (.mk xs))
    | _ => False
  | .a (.arr 0 k e lo n tot) => match lookT s.st k with
    | some (.arr _ _ t xs) => grd (W.neq (W.len xs) tot) (K (s.fz k) (.sl e t (.mk (W.take n (W.drop lo xs)))))
    | _ => False
  | .a (.x v) => K s (.a (.x v))
  | .a (.str l) => K s (.a (.str l))
  | .a .nils => K s (.a .nils)
  | .a .cap0 => K s (.a .cap0)
  | .sl e t x => K s (.sl e t x)
  | _ => False
def resCs (s : TSt) (l : List TC) (K : TSt → List TC → Prop) : Prop := match l with
  | [] => K s []
  | c :: r => resC s c fun s1 d => resCs s1 r fun s2 l => K s2 (d :: l)
def resT (s : TSt) (x : T1) (K : TSt → T1 → Prop) : Prop := match x with
  | .c c => resC s c fun s1 d => K s1 (.c d)
  | .agg cs => resCs s cs fun s1 l => K s1 (.agg l)
  | _ => False
def resAllT (s : TSt) (l : List T1) (K : TSt → List T1 → Prop) : Prop := match l with
  | [] => K s []
  | c :: r => resT s c fun s1 d => resAllT s1 r fun s2 l => K s2 (d :: l)

section
variable (P : Program)

def vtOf : Nat → TypeId → Option VT
  | 0, _ => none
  | d + 1, t => match P.underlying t with
    | some (.int k) => some (.int k)
    | some .bool => some .bool
    | some .string => some .str
    | some (.float k) => some (.flt k)
    | some (.complex k) => some (.cx k)
    | some (.slice e) => (vtOf d e).map (.slc e)
    | some (.struct fs) => fs.toList.foldr (fun f r => match vtOf d f.type, r with
      | some a, some b => some (.pair a b)
      | _, _ => none) (some .unit)
    | some (.array n e) => (vtOf d e).map fun v => (List.replicate n v).foldr .pair .unit
    | _ => none

def constT : AV → TV
  | .agg cs => .o (.agg (cs.map .a))
  | a => .o (.c (.a a))
def evalT (s : TSt) : Operand → Option TV
  | .tmp t => some (s.get t)
  | .const v => (constAV v).map constT
  | _ => none
def eval1 (s : TSt) (o : Operand) (K : T1 → Prop) : Prop := match evalT s o with
  | some (.o x) => K x
  | _ => False
def evalA (s : TSt) (o : Operand) (K : AV → Prop) : Prop := match evalT s o with
  | some (.o (.c (.a x))) => K x
  | _ => False
def evalI (s : TSt) (o : Operand) (K : Int → Prop) : Prop := match evalT s o with
  | some (.o (.c (.a (.x (.int _ i))))) => K i
  | _ => False
def evalOsT (s : TSt) (l : List Operand) (K : List T1 → Prop) : Prop := match l with
  | [] => K []
  | o :: r => eval1 s o fun x => evalOsT s r fun l => K (x :: l)
def partsT (s : TSt) (l : List (Nat × Operand)) (K : List (Nat × T1) → Prop) : Prop := match l with
  | [] => K []
  | (i, o) :: r => eval1 s o fun x => partsT s r fun l => K ((i, x) :: l)

def T1.cells : T1 → List TC
  | .c x => [x]
  | .agg cs => cs
  | .own .. => [.eh 0 0 0]

def partT (t : TypeId) (cs : List TC) (off : Nat) (K : T1 → Prop) : Prop := match sizeT P t, aggT P t with
  | some n, some true => grd (decide (off + n ≤ cs.length)) (K (.agg ((cs.drop off).take n)))
  | some _, some false => match cs[off]? with
    | some c => K (.c c)
    | none => False
  | _, _ => False
def layC (cs : List TC) (off : Nat) (ds : List TC) : Option (List TC) :=
  if off + ds.length ≤ cs.length then some (cs.take off ++ (ds ++ cs.drop (off + ds.length))) else none

def TC.isCell (S : TStore) : TC → Bool
  | .a x => x.isCell
  | .sl .. => true
  | .h k => (shapeT S k).isSome
  | .eh .. => false
def TC.isVal : TC → Bool
  | .a x => x.isVal
  | .sl .. => true
  | _ => false
def T1.isVal : T1 → Bool
  | .c x => x.isVal
  | .agg _ => false
  | .own .. => false
/-- No handle in it. -/
def T1.noH : T1 → Bool
  | .c x => x.isVal
  | .agg cs => cs.all TC.isVal
  | .own .. => false

def fillT (S : TStore) (place : Nat → Option (Nat × Nat)) (cells : List TC) : List (Nat × T1) → Option (List TC)
  | [] => some cells
  | (i, v) :: rest => match place i with
    | none => none
    | some (off, size) => if v.cells.length = size ∧ v.cells.all (TC.isCell S) then
        match layC cells off v.cells with
        | some cells' => fillT S place cells' rest
        | none => none
      else none

/-- Two integers of one kind. -/
def intT (op : BinOp) (k : IntKind) (a b : Int) (K : AV → Prop) : Prop := match op with
  | .add => K (.int k (W.add k a b))
  | .sub => K (.int k (W.sub k a b))
  | .mul => K (.int k (W.mul k a b))
  | .quo => brc (W.ieq b 0) False (K (.int k (W.quo k a b)))
  | .rem => brc (W.ieq b 0) False (K (.int k (W.rem a b)))
  | .and => K (.int k (W.and k a b))
  | .or => K (.int k (W.or k a b))
  | .xor => K (.int k (W.xor k a b))
  | .andNot => K (.int k (W.andNot k a b))
  | .eql => K (.bool (W.ieq a b))
  | .neq => K (.bool (W.ine a b))
  | .lss => K (.bool (W.ilt a b))
  | .leq => K (.bool (W.ile a b))
  | .gtr => K (.bool (W.igt a b))
  | .geq => K (.bool (W.ige a b))
  | _ => False
def strT (op : BinOp) (a b : List UInt8) (K : AV → Prop) : Prop := match op with
  | .add => grd (W.nle (W.nadd (W.len a) (W.len b)) 9223372036854775807) (K (.str (W.app a b)))
  | .eql => K (.bool (W.seq a b))
  | .neq => K (.bool (W.sne a b))
  | .lss => K (.bool (W.slt a b))
  | .leq => K (.bool (W.sle a b))
  | .gtr => K (.bool (W.sgt a b))
  | .geq => K (.bool (W.sge a b))
  | _ => False
/-- Two values of integers, strings and the like. -/
def binK (op : BinOp) (t : TypeId) (x y : AV) (K : AV → Prop) : Prop := match y with
  | .x (.int k' b) => match x with
    | .x (.int k a) => match op with
      | .shl => grd (W.ile 0 b) (K (.int k (W.shl k a b)))
      | .shr => grd (W.ile 0 b) (K (.int k (W.shr k a b)))
      | op => if k = k' then intT op k a b K else False
    | _ => False
  | .x (.bool b) => match x with
    | .x (.bool a) => match P.underlying t with
      | some .bool => match op with
        | .eql => K (.bool (W.beq a b))
        | .neq => K (.bool (W.bnot (W.beq a b)))
        | _ => False
      | _ => False
    | _ => False
  | .str b => match x with
    | .str a => strT op a b K
    | _ => False
  | .x (.float k' b) => match x with
    | .x (.float k a) => if k = k' then need (floatBin op k a b) K else False
    | _ => False
  | .x (.complex k' c d) => match x with
    | .x (.complex k a b) => if k = k' then need (complexBin op k a b c d) K else False
    | _ => False
  | _ => False
def unK (op : UnOp) (x : AV) (K : AV → Prop) : Prop := match x with
  | .x (.int k n) => match op with
    | .neg => K (.int k (W.neg k n))
    | .xor => K (.int k (W.inv k n))
    | _ => False
  | .x (.bool b) => match op with
    | .not => K (.bool (W.bnot b))
    | _ => False
  | .x (.float k b) => match op with
    | .neg => K (.x (.float k (Op.negFloat k b)))
    | _ => False
  | .x (.complex k a b) => match op with
    | .neg => K (.x (.complex k (Op.negFloat k a) (Op.negFloat k b)))
    | _ => False
  | _ => False

/-- What stands in a slice of e, or in a string of bytes. -/
def srcT (s : TSt) (e : TypeId) (t : VT) (x : T1) (K : List t.den → Prop) : Prop := match x with
  | .c (.a .nils) => K []
  | .c (.a .cap0) => K []
  | .c (.a (.str l)) => if h : VT.int .u8 = t then if P.cellsOf e = 1 then K (h ▸ (show List (VT.int .u8).den from W.u8s l)) else False else False
  | .c (.sl e' t' x) => if e' = e then if h : t' = t then K (h ▸ x.list) else False else False
  | .c (.h k) => match lookT s.st k with
    | some (.arr _ e' t' xs) => if e' = e then if h : t' = t then K (h ▸ xs) else False else False
    | _ => False
  | .c (.a (.arr 0 k e' lo n tot)) => match lookT s.st k with
    | some (.arr _ _ t' xs) => if e' = e then if h : t' = t then grd (W.neq (W.len xs) tot) (K (h ▸ (W.take n (W.drop lo xs)))) else False else False
    | _ => False
  | _ => False

def freshT (s : TSt) (d : Option Nat) (e : TypeId) (t : VT) (xs : List t.den) (K : TSt → Prop) : Prop := match d with
  | some k => K ((s.create k (.arr false e t xs)).put (some k) (.o (.c (.h k))))
  | none => False

/-- Without a new slice. -/
def convK (s : TSt) (src dst : TypeId) (x : T1) (K : TV → Prop) : Prop := match x with
  | .c (.a (.x (.int k n))) => match P.underlying src, P.underlying dst with
    | some _, some (.int k') => K (TV.int k' (W.wrap k' n))
    | some _, some (.float k') => K (.a (.x (.float k' (k'.nearest n))))
    | _, _ => False
  | .c (.a (.x (.float k b))) => need (convA P ⟨[], []⟩ src dst (.x (.float k b))) fun v => K (.o (.c (.a v)))
  | .c (.a (.str l)) => match P.underlying src, P.underlying dst with
    | some _, some .string => K (.a (.str l))
    | _, _ => False
  | x => match P.underlying src, P.underlying dst with
    | some (.slice e), some .string => match P.underlying e with
      | some (.int .u8) => srcT P s e (.int .u8) x fun xs => K (.a (.str (W.b8s xs)))
      | _ => False
    | _, _ => False
def convertT (s : TSt) (d : Option Nat) (src dst : TypeId) (x : T1) (K : TSt → Prop) : Prop := match P.underlying src, P.underlying dst with
  | some .string, some (.slice e) => match x, P.underlying e with
    | .c (.a (.str l)), some (.int .u8) => if P.cellsOf e = 1 then grd (W.nle (W.len l) 9223372036854775807) (K (s.put d (.o (.c (.sl e (.int .u8) (.mk (W.u8s l))))))) else False
    | _, _ => False
  | _, _ => convK P s src dst x fun v => K (s.put d v)

def boundK (s : TSt) (dflt most : Nat) (o : Option Operand) (K : Nat → Prop) : Prop := match o with
  | none => K dflt
  | some o => evalI s o fun i => grd (W.ile 0 i) (grd (W.ile i (W.ofNat most)) (K (W.toNat i)))

def sliceT (s : TSt) (t : TypeId) (x : T1) (lo hi : Option Operand) (K : TV → Prop) : Prop := match P.underlying t with
  | some .string => match x with
    | .c (.a (.str l)) => boundK s (W.len l) (W.len l) hi fun h => boundK s 0 h lo fun b => K (.a (.str (W.drop b (W.take h l))))
    | _ => False
  | some (.slice e) => match sizeT P e with
    | none => False
    | some _ => match x with
      | .c (.sl e' t' x) => if e' = e then boundK s (W.len x.list) (W.len x.list) hi fun h => boundK s 0 h lo fun b => K (.o (.c (.sl e t' (x.cut h b)))) else False
      | .c (.a .nils) => boundK s 0 0 hi fun h => boundK s 0 h lo fun b => K (.a .nils)
      | .c (.a .cap0) => boundK s 0 0 hi fun h => boundK s 0 h lo fun b => K (.a .cap0)
      | .c (.h k) => match lookT s.st k with
        | some (.arr _ e' t' xs) => if e' = e then boundK s (W.len xs) (W.len xs) hi fun h => boundK s 0 h lo fun b => K (.a (.arr 0 k e b (W.nsub h b) (W.len xs))) else False
        | _ => False
      | .c (.a (.arr 0 k e' lo' n tot)) => match lookT s.st k with
        | some (.arr _ _ t' xs) => if e' = e then grd (W.neq (W.len xs) tot) (boundK s n n hi fun h => boundK s 0 h lo fun b => K (.a (.arr 0 k e' (W.nadd lo' b) (W.nsub h b) tot))) else False
        | _ => False
      | _ => False
  | _ => False

def lenT (s : TSt) (t : TypeId) (x : T1) (K : Nat → Prop) : Prop := match P.underlying t with
  | some .string => match x with
    | .c (.a (.str l)) => K (W.len l)
    | _ => False
  | some (.slice _) => match x with
    | .c (.a .nils) => K 0
    | .c (.a .cap0) => K 0
    | .c (.sl _ _ x) => K (W.len x.list)
    | .c (.h k) => match lookT s.st k with
      | some (.arr _ _ _ xs) => K (W.len xs)
      | _ => False
    | .c (.a (.arr 0 k e lo n tot)) => match lookT s.st k with
      | some (.arr _ _ _ xs) => grd (W.neq (W.len xs) tot) (K n)
      | _ => False
    | _ => False
  | some (.array n _) => K n
  | _ => False

def boxT (s : TSt) (d : Option Nat) (e : TypeId) (x : T1) (K : TSt → Prop) : Prop := match d, sizeT P e with
  | some k, some n => if x.cells.length = n ∧ x.cells.all (TC.isCell s.st) then
      K ((s.create k (.box (x.cells.map (TC.kill k)))).put (some k) (.o (.c (.a (.ref 0 k 0))))) else False
  | _, _ => False

def buildT (s : TSt) (d : Option Nat) (t : TypeId) (l : List (Nat × T1)) (K : TSt → Prop) : Prop := match zeroT P t, P.underlying t with
  | some z, some (.struct fields) => match placesT P fields.toList with
    | some places => need (fillT s.st (places[·]?) (z.cells.map .a) l) fun cs => K (s.put d (.o (.agg cs)))
    | none => False
  | some z, some (.array _ e) => match sizeT P e with
    | some n => need (fillT s.st (fun i => some (i * n, n)) (z.cells.map .a) l) fun cs => K (s.put d (.o (.agg cs)))
    | none => False
  | _, _ => False

def chunksT (t : VT) (es : Nat) : Nat → List TC → Option (List t.den)
  | 0, _ => some []
  | n + 1, cs => match chunksT t es n (cs.drop es) with
    | some r => match t.ofTC (cs.take es) with
      | some (x, []) => some (x :: r)
      | _ => none
    | none => none

/-- The zero of e, as typed. -/
def zvT (e : TypeId) (vt : VT) : Option vt.den := match zeroT P e with
  | some z => match constT z with
    | .o x => vt.ofT1 x
    | _ => none
  | none => none

def buildSliceT (s : TSt) (d : Option Nat) (t : TypeId) (len : Nat) (l : List (Nat × T1)) (K : TSt → Prop) : Prop := match elemT P t with
  | some e => match sizeT P e, zeroT P e, vtOf P 20 e with
    | some n, some z, some vt => if n = 0 ∨ len * n > 16777216 ∨ z.cells.length ≠ n ∨ aggT P e ≠ some vt.isAgg ∨ (vt.isAgg = false ∧ n ≠ 1) then False else
      resAllT s (l.map (·.2)) fun s1 vs => need (fillT s1.st (fun i => some (i * n, n)) ((List.replicate len (z.cells.map TC.a)).flatten) ((l.map (·.1)).zip vs)) fun cs =>
        if cs.all TC.isVal then need (chunksT vt n len cs) fun xs => freshT s1 d e vt xs K else False
    | _, _, _ => False
  | none => False

def makeT (s : TSt) (d : Option Nat) (t : TypeId) (l c : Int) (K : TSt → Prop) : Prop := match elemT P t with
  | none => False
  | some e => match sizeT P e, bytesT P e, zeroT P e, vtOf P 20 e with
    | some n, some by_, some z, some vt => if 0 < n ∧ z.cells.length = n ∧ z.cells.all AV.isVal then
        need (zvT P e vt) fun z => grd (W.ile 0 l) (grd (W.ile l c) (grd (W.ile c 9223372036854775807) (grd (W.ile (W.bys by_ c) 281474976710656) (freshT s d e vt (W.rep (W.toNat l) z) K)))) else False
    | _, _, _, _ => False

def loadT (s : TSt) (t : TypeId) (p : TV) (K : T1 → Prop) : Prop := match p with
  | .o (.c (.a (.ref 0 k off))) => match lookT s.st k with
    | some (.box cs) => partT P t cs off K
    | _ => False
  | .efz vt x off => partT P t (vt.tc x) off K
  | .o (.c (.eh k j off)) => match lookT s.st k with
    | some (.arr _ _ vt xs) => grd (W.nlt j (W.len xs)) (partT P t (vt.tc (W.nth xs j vt.dflt)) off K)
    | _ => False
  | .o (.c (.a (.ear 0 k _ tot j off))) => match lookT s.st k with
    | some (.arr _ _ vt xs) => grd (W.neq (W.len xs) tot) (grd (W.nlt j (W.len xs)) (partT P t (vt.tc (W.nth xs j vt.dflt)) off K))
    | _ => False
  | _ => False

/-- Into an element of a slice. -/
def storeE (s : TSt) (d : Option Nat) (k j off : Nat) (cs : List TC) (K : TSt → Prop) : Prop := resCs s cs fun s1 vs => match lookT s1.st k with
  | some (.arr false e vt xs) => if aggT P e = some vt.isAgg then grd (W.nlt j (W.len xs)) (need (layC (vt.tc (W.nth xs j vt.dflt)) off vs) fun ds => match vt.ofTC ds with
    | some (x, []) => K ((s1.lay k (.arr false e vt (W.upd xs j x))).put d (.a .und))
    | _ => False) else False
  | _ => False
def storeT (s : TSt) (d : Option Nat) (t : TypeId) (p : TV) (v : T1) (K : TSt → Prop) : Prop := match sizeT P t with
  | none => False
  | some n => if v.cells.length = n ∧ v.cells.all (TC.isCell s.st) then match p with
    | .o (.c (.a (.ref 0 k off))) => match lookT s.st k with
      | some (.box cs) => need (layC cs off v.cells) fun ds => K ((s.lay k (.box ds)).put d (.a .und))
      | _ => False
    | .o (.c (.eh k j off)) => storeE P s d k j off v.cells K
    | .o (.c (.a (.ear 0 k e tot j off))) => match lookT s.st k with
      | some (.arr false e' vt xs) => if e' = e then grd (W.neq (W.len xs) tot) (storeE P s d k j off v.cells K) else False
      | _ => False
    | _ => False
    else False

def fwdT (s : TSt) (n : Nat) (v : TV) (K : TV → Prop) : Prop := match v with
  | .o (.c (.a (.ref i k off))) => K (.a (.ref i k (off + n)))
  | .efz vt x off => K (.efz vt x (off + n))
  | .o (.c (.eh k j off)) => match shapeT s.st k with
    | some _ => K (.o (.c (.eh k j (off + n))))
    | none => False
  | _ => False

def indexAddrT (s : TSt) (t : TypeId) (p : TV) (i : Int) (K : TV → Prop) : Prop := match P.underlying t with
  | some (.slice e) => match p with
    | .o (.c (.sl e' vt x)) => if e' = e then grd (W.ile 0 i) (grd (W.nlt (W.toNat i) (W.len x.list)) (K (.efz vt (W.nth x.list (W.toNat i) vt.dflt) 0))) else False
    | .o (.c (.h k)) => match lookT s.st k with
      | some (.arr _ e' vt xs) => if e' = e then grd (W.ile 0 i) (grd (W.nlt (W.toNat i) (W.len xs)) (K (.o (.c (.eh k (W.toNat i) 0))))) else False
      | _ => False
    | .o (.c (.a (.arr 0 k e' lo n tot))) => match lookT s.st k with
      | some (.arr _ _ vt xs) => if e' = e then grd (W.neq (W.len xs) tot) (grd (W.ile 0 i) (grd (W.nlt (W.toNat i) n) (K (.a (.ear 0 k e tot (W.nadd lo (W.toNat i)) 0))))) else False
      | _ => False
    | _ => False
  | some (.array len e) => match sizeT P e with
    | some n => grd (W.ile 0 i) (grd (W.ilt i (W.ofNat len)) (fwdT s (i.toNat * n) p K))
    | none => False
  | _ => False

def appendT (s : TSt) (d : Option Nat) (t : TypeId) (a b : T1) (K : TSt → Prop) : Prop := match elemT P t with
  | none => False
  | some e => match sizeT P e, bytesT P e, zeroT P e, vtOf P 20 e with
    | some es, some by_, some z, some vt =>
      if es = 0 ∨ by_ = 0 ∨ z.cells.length ≠ es then False else srcT P s e vt b fun news =>
      let newly (x : AV) : Prop := brc (W.none news) (K (s.put d (.a x))) (grd (W.nle (W.nmul (W.len news) by_) 140737488355328) (freshT s d e vt news K))
      match a with
      | .c (.a .nils) => newly .nils
      | .c (.a .cap0) => newly .cap0
      | .c (.sl _ _ .nil) => newly .nils
      | .c (.sl _ _ .cap0) => newly .cap0
      | .c (.h k) => match lookT s.st k with
        | some (.arr false e' vt' xs) => if e' = e then if h : vt = vt' then grd (W.nle (W.nmul (W.nadd (W.len xs) (W.len news)) by_) 140737488355328)
            (K ((s.grow k e (W.len xs) (.arr false e vt' (W.app xs (h ▸ news)))).put d (.o (.c (.h k))))) else False else False
        | _ => False
      | _ => False
    | _, _, _, _ => False

def copyT (s : TSt) (d : Option Nat) (t : TypeId) (a b : T1) (K : TSt → Prop) : Prop := match elemT P t with
  | none => False
  | some e => match sizeT P e with
    | none => False
    | some _ => match a with
      | .c (.h k) => match lookT s.st k with
        | some (.arr false e' vt xs) => if e' = e then srcT P s e vt b fun ys =>
            K ((s.lay k (.arr false e vt (W.app (W.take (W.nmin (W.len ys) (W.len xs)) ys) (W.drop (W.nmin (W.len ys) (W.len xs)) xs)))).put d (TV.int .i64 (W.ofNat (W.nmin (W.len ys) (W.len xs))))) else False
        | _ => False
      | .c (.a (.arr 0 k e' lo n tot)) => match lookT s.st k with
        | some (.arr false e2 vt xs) => if e' = e ∧ e2 = e then srcT P s e vt b fun ys => grd (W.neq (W.len xs) tot) (grd (W.nle (W.nadd lo n) tot)
            (K ((s.lay k (.arr false e vt (W.app (W.take lo xs) (W.app (W.take (W.nmin (W.len ys) n) ys) (W.drop (W.nadd lo (W.nmin (W.len ys) n)) xs))))).put d (TV.int .i64 (W.ofNat (W.nmin (W.len ys) n)))))) else False
        | _ => False
      | _ => False

def builtinT (s : TSt) (d : Option Nat) (b : Builtin) (ts : List TypeId) (as : List T1) (K : TSt → Prop) : Prop := match b with
  | .len => match as, ts with
    | [a], t :: _ => lenT P s t a fun n => K (s.put d (TV.int .i64 (W.ofNat n)))
    | _, _ => False
  | .append => match as, ts with
    | [a, b], [t, t2] => match P.underlying t2 with
      | some (.slice _) => appendT P s d t a b K
      | some .string => appendT P s d t a b K
      | _ => False
    | _, _ => False
  | .copy => match as, ts with
    | [a, b], t :: _ => copyT P s d t a b K
    | _, _ => False
  | .real => match as with
    | [.c (.a (.x (.complex k a _)))] => K (s.put d (.a (.x (.float k a))))
    | _ => False
  | .imag => match as with
    | [.c (.a (.x (.complex k _ b)))] => K (s.put d (.a (.x (.float k b))))
    | _ => False
  | .complex => match as with
    | [.c (.a (.x (.float k a))), .c (.a (.x (.float k' b)))] => if k = k' then K (s.put d (.a (.x (.complex k a b)))) else False
    | _ => False
  | .min => match as with
    | [.c (.a (.x (.int k a))), .c (.a (.x (.int _ b)))] => K (s.put d (TV.int k (W.imin a b)))
    | _ => False
  | .max => match as with
    | [.c (.a (.x (.int k a))), .c (.a (.x (.int _ b)))] => K (s.put d (TV.int k (W.imax a b)))
    | _ => False
  | _ => False

/-- Operations that change the slot alone. -/
def pureT (s : TSt) (op : Op) (K : TV → Prop) : Prop := match op with
  | .move x => need (evalT s x) K
  | .assign x => need (evalT s x) K
  | .pick c a b => match evalT s c with
    | some (.o (.c (.a (.x (.bool t))))) => brc t (need (evalT s a) K) (need (evalT s b) K)
    | _ => False
  | .nilCheck x => match evalT s x with
    | some (.o (.c (.a (.ref i k off)))) => K (.a (.ref i k off))
    | _ => False
  | .load t x => need (evalT s x) fun p => loadT P s t p fun v => K (.o v)
  | .fieldAddr t x f => match P.underlying t with
    | some (.struct fields) => match fields[f]? with
      | some fd => match sizeT P fd.type with
        | some (_ + 1) => need (evalT s x) fun p => fwdT s fd.offset p K
        | _ => False
      | none => False
    | _ => False
  | .indexAddr t x y => need (evalT s x) fun p => evalI s y fun i => indexAddrT P s t p i K
  | .field t x f => match P.underlying t, evalT s x with
    | some (.struct fields), some (.o (.agg cs)) => match fields[f]? with
      | some fd => partT P fd.type cs fd.offset fun v => K (.o v)
      | none => False
    | _, _ => False
  | .index t x y => match evalT s x with
    | some (.o a) => evalI s y fun i => match P.underlying t with
      | some (.array len e) => match a, sizeT P e with
        | .agg cs, some n => grd (W.ile 0 i) (grd (W.ilt i (W.ofNat len)) (partT P e cs (i.toNat * n) fun v => K (.o v)))
        | _, _ => False
      | some .string => match a with
        | .c (.a (.str l)) => grd (W.ile 0 i) (grd (W.nlt (W.toNat i) (W.len l)) (K (TV.int .u8 (W.u8 (W.nth l (W.toNat i) 0)))))
        | _ => False
      | _ => False
    | _ => False
  | .slice t x lo hi none => eval1 s x fun a => sliceT P s t a lo hi K
  | .binOp op t x y _ => evalA s x fun a => evalA s y fun b => binK P op t a b fun v => K (.a v)
  | .unOp op _ x => evalA s x fun a => unK op a fun v => K (.a v)
  | .extract x i => match evalT s x with
    | some (.tup vs) => need (vs[i]?) fun v => K (.o v)
    | _ => False
  | _ => False

/-- One operation, calls of functions apart. -/
def opT (s : TSt) (o : Oper) (K : TSt → Prop) : Prop := match o.op with
  | .alloc e => match zeroT P e with
    | some z => match constT z with
      | .o x => boxT P s o.dst e x K
      | _ => False
    | none => False
  | .box e x => eval1 s x fun a => boxT P s o.dst e a K
  | .build t ps => partsT s ps.toList fun l => buildT P s o.dst t l K
  | .buildSlice t len ps => partsT s ps.toList fun l => buildSliceT P s o.dst t len l K
  | .makeSlice t lo co => evalI s lo fun l => evalI s co fun c => makeT P s o.dst t l c K
  | .store t x y => need (evalT s x) fun p => eval1 s y fun v => storeT P s o.dst t p v K
  | .convert src dst x => eval1 s x fun a => convertT P s o.dst src dst a K
  | .call c => match c.callee with
    | .builtin b => evalOsT s c.args.toList fun as => builtinT P s o.dst b c.argTypes.toList as K
    | _ => False
  | op => pureT P s op fun v => K (s.put o.dst v)

/-! ### Calls, regions, code -/

/-- What is known of the functions that are called: what they answer, where that may be. -/
abbrev Ctr := FuncId → List T1 → (TV → Prop) → Prop

def T1.hasSl : T1 → Bool
  | .c (.sl _ _ .nil) => false
  | .c (.sl _ _ .cap0) => false
  | .c (.sl _ _ (.mk _)) => true
  | .c y => !(y.emb []).flat0
  | .agg cs => !(cs.all fun y => (y.emb []).flat0)
  | .own _ t xs => !(xs.all fun x => (t.emb x).flat1)
def VT.plainT : VT → Bool
  | .slc _ _ => false
  | .pair a b => a.plainT && b.plainT
  | _ => true
/-- Might a slice stand in it? -/
def TC.mayS : TC → Bool
  | .sl _ _ _ => true
  | .a x => !x.flat0
  | _ => true
def T1.mayS : T1 → Bool
  | .c x => x.mayS
  | .agg cs => cs.any TC.mayS
  | .own _ t _ => !t.plainT
def TV.mayS : TV → Bool
  | .o x => x.mayS
  | .tup vs => vs.any T1.mayS
  | _ => true
def TV.hasSl : TV → Bool
  | .o x => x.hasSl
  | .tup vs => vs.any T1.hasSl
  | _ => true

/-- What a call may hand back. -/
def T1.outOk : T1 → Bool
  | .c x => x.isVal
  | .agg cs => cs.all TC.isVal
  | .own .. => true
def TV.outOk : TV → Bool
  | .o x => x.outOk
  | .tup vs => vs.all T1.outOk
  | _ => false

def T1.unown : T1 → T1
  | .own e t xs => .c (.sl e t (.mk xs))
  | a => a
def TV.unowns : TV → TV
  | .o x => .o x.unown
  | .tup vs => .tup (vs.map T1.unown)
  | v => v

def inOneT (s : TSt) (k : Nat) (x : T1) : TSt × T1 := match x with
  | .own e t xs => (s.create k (.arr false e t xs), .c (.h k))
  | x => (s, x)
def T1.kills (k : Nat) : Nat → T1 → T1
  | 0, a => a
  | n + 1, a => T1.kills (k + 1) n (a.kill k)
def inAllT (s : TSt) (k : Nat) : List T1 → TSt × List T1
  | [] => (s, [])
  | a :: r =>
    let q := inAllT s (k + 1) r
    let p := inOneT q.1 k (a.kills (k + 1) r.length)
    (p.1, p.2 :: q.2.map (T1.kill k))
def bindT (s : TSt) (d : Option Nat) (r : TV) : TSt := match d with
  | none => s
  | some k => match r with
    | .tup vs => let p := inAllT s (home k 0) vs; p.1.put (some k) (.tup p.2)
    | .o x => let p := inOneT s k x; p.1.put (some k) (.o p.2)
    | r => s.put (some k) r

variable (G : Ctr)

def T1.noRef : T1 → Bool
  | .c (.a (.ref ..)) => false
  | _ => true

def callT (s : TSt) (d : Option Nat) (f : FuncId) (args : List T1) (K : TSt → Prop) : Prop :=
  if args.all T1.noRef then
    if args.all T1.noH then resAllT s args fun _ as => G f as fun r => K (bindT s d r)
    else resAllT s args fun s1 as => G f as fun r => match r.mayS with
      | false => K (bindT s d r)
      | true => brc r.hasSl (K (bindT s1 d r)) (K (bindT s d r))
  else False

def stepOpT (s : TSt) (o : Oper) (K : TSt → Prop) : Prop := match o.op with
  | .call c => match c.callee with
    | .value (.func f) => evalOsT s c.args.toList fun as => callT G s o.dst f as K
    | _ => opT P s o K
  | _ => opT P s o K

def quietT (s : TSt) (o : Oper) (K : TSt → Prop) : Prop := match o.op with
  | .call c => match c.callee with
    | .value (.func f) => evalOsT s c.args.toList fun as => resAllT s as fun _ bs => G f bs fun r =>
        if as.all T1.isVal then K (s.put o.dst r.unowns) else match r.mayS with
          | false => K (s.put o.dst r.unowns)
          | true => grd (!r.hasSl) (K (s.put o.dst r.unowns))
    | .builtin .len => opT P s o K
    | .builtin .min => opT P s o K
    | .builtin .max => opT P s o K
    | .builtin .real => opT P s o K
    | .builtin .imag => opT P s o K
    | .builtin .complex => opT P s o K
    | _ => False
  | .convert src dst x => eval1 s x fun a => convK P s src dst a fun v => K (s.put o.dst v)
  | .build t ps => opT P s o K
  | op => pureT P s op fun v => K (s.put o.dst v)

def drawT (solo : Oper → Bool) (s : TSt) (o : Oper) (K : TSt → Prop) : Prop := match solo o with
  | true => stepOpT P G s o K
  | false => quietT P G s o K

def guardT (ops : Array Oper) (s : TSt) (g : Option (Nat × Bool)) (K : Bool → TSt → Prop) : Prop := match g with
  | none => K true s
  | some (j, want) => match (ops[j]?).bind (·.dst) with
    | some t => match s.get t with
      | .o (.c (.a (.x (.bool b)))) => brc b (K (true == want) (s.put (some t) (TV.bool true))) (K (false == want) (s.put (some t) (TV.bool false)))
      | .o (.c (.a .und)) => K false s
      | _ => False
    | none => False

def opsT (st : TSt → Oper → (TSt → Prop) → Prop) (ops : Array Oper) : List Nat → TSt → (TSt → Prop) → Prop
  | [], s, K => K s
  | i :: r, s, K => match ops[i]? with
    | none => opsT st ops r s K
    | some o => guardT ops s o.guard fun b s1 => match b with
      | true => st s1 o fun s2 => opsT st ops r s2 K
      | false => opsT st ops r (s1.put o.dst (.a .und)) K

/-- A piece of code that is taken by what is known of it. -/
abbrev Piece := TSt → (AExit → TSt → Prop) → Prop
structure Known where
  solo : Oper → Bool
  ok : Array Oper → Bool
  G : Ctr
  blk : Nat → Option Piece
  lab : Nat → Option Piece

def wpT (Λ : Known) : Code → TSt → (AExit → TSt → Prop) → Prop
  | .skip, s, Φ => Φ .normal s
  | .label _, s, Φ => Φ .normal s
  | .region _ ops false, s, Φ => opsT (fun s o K => stepOpT P Λ.G s o K) ops (List.range ops.size) s fun s1 => Φ .normal s1
  | .region _ ops true, s, Φ => match Λ.ok ops with
    | true => opsT (fun s o K => drawT P Λ.G Λ.solo s o K) ops (List.range ops.size) s fun s1 => Φ .normal s1
    | false => False
  | .seq a b, s, Φ => wpT Λ a s fun e s1 => match e with
    | .normal => wpT Λ b s1 Φ
    | .exit i => Φ (.exit i) s1
    | .goto l => Φ (.goto l) s1
    | .ret => Φ .ret s1
  | .cond c a b, s, Φ => match evalT s c with
    | some (.o (.c (.a (.x (.bool t))))) => brc t (wpT Λ a s Φ) (wpT Λ b s Φ)
    | _ => False
  | .block id c, s, Φ => match Λ.blk id with
    | some ψ => ψ s Φ
    | none => wpT Λ c s fun e s1 => match e with
      | .exit i => match i.beq id with
        | true => Φ .normal s1
        | false => Φ (.exit i) s1
      | .normal => Φ .normal s1
      | .goto l => Φ (.goto l) s1
      | .ret => Φ .ret s1
  | .loop _, _, _ => False
  | .exit id, s, Φ => Φ (.exit id) s
  | .goto l, s, Φ => Φ (.goto l) s
  | .ret, s, Φ => Φ .ret s
  | .scope c, s, Φ => wpT Λ c s fun e s1 => match e with
    | .goto l => match findLabel c l with
      | some _ => need (Λ.lab l) fun ψ => ψ s1 Φ
      | none => Φ (.goto l) s1
    | .normal => Φ .normal s1
    | .exit i => Φ (.exit i) s1
    | .ret => Φ .ret s1
  | .rangeFunc .., _, _ => False
  | .refuse _, _, _ => False

/-! ### Functions -/
def resultOneT (s : TSt) (r : ResultVar) (K : T1 → Prop) : Prop := match r with
  | .tmp t => match s.get t with
    | .o x => K x
    | _ => False
  | .cell a t => match s.get a with
    | .o (.c (.a (.ref 0 k off))) => loadT P s t (.a (.ref 0 k off)) K
    | _ => False
def resultAllT (s : TSt) (l : List ResultVar) (K : List T1 → Prop) : Prop := match l with
  | [] => K []
  | r :: l => resultOneT P s r fun a => resultAllT s l fun b => K (a :: b)

def settleOneT (s : TSt) (x : T1) (K : TSt → T1 → Prop) : Prop := match x with
  | .agg cs => resCs s cs fun s1 l => K s1 (.agg l)
  | .c (.h k) => match lookT s.st k with
    | some (.arr false _ _ _) => K s (.c (.h k))
    | some (.arr true e t xs) => K (s.fz k) (.c (.sl e t (.mk xs)))
    | _ => False
  | .c (.a (.arr 0 k e lo n tot)) => match lookT s.st k with
    | some (.arr fz e' t xs) => brc (!fz && W.neq (W.len xs) tot && e' == e && W.neq lo 0 && W.neq n tot) (K s (.c (.h k))) (resC s (.a (.arr 0 k e lo n tot)) fun s1 c => K s1 (.c c))
    | _ => False
  | .c (.eh ..) => False
  | .own .. => False
  | x => K s x
def settleT (s : TSt) (l : List T1) (K : TSt → List T1 → Prop) : Prop := match l with
  | [] => K s []
  | x :: r => settleOneT s x fun s1 y => settleT s1 r fun s2 l => K s2 (y :: l)

def outOneT (s : TSt) (used : List Nat) (x : T1) (K : List Nat → T1 → Prop) : Prop := match x with
  | .c (.h k) => match lookT s.st k with
    | some (.arr false e t xs) => if used.contains k = false then K (k :: used) (.own e t xs) else False
    | _ => False
  | .c (.a (.x v)) => K used x
  | .c (.a (.str l)) => K used x
  | .c (.a .nils) => K used x
  | .c (.a .cap0) => K used x
  | .c (.sl ..) => K used x
  | .agg cs => if cs.all TC.isVal then K used (.agg cs) else False
  | _ => False
def outAllT (s : TSt) (used : List Nat) (l : List T1) (K : List T1 → Prop) : Prop := match l with
  | [] => K []
  | x :: r => outOneT s used x fun u1 y => outAllT s u1 r fun l => K (y :: l)
def oneOfT : List T1 → TV
  | [v] => .o v
  | vs => .tup vs
def outT (s : TSt) (rs : List ResultVar) (K : TV → Prop) : Prop :=
  resultAllT P s rs fun l => settleT s l fun s1 l1 => outAllT s1 [] l1 fun vs => K (oneOfT vs)

def enterT (fn : Func) (args : List T1) : TSt := { slots := args.map TV.o ++ List.replicate (fn.ntmps - args.length) (.a .und), st := [] }

def endT (fn : Func) (K : TV → Prop) (e : AExit) (s : TSt) : Prop := match e with
  | .ret => outT P s fn.results.toList K
  | .normal => outT P s fn.results.toList K
  | _ => False

def wpFn (Λ : Known) (fn : Func) (args : List T1) (K : TV → Prop) : Prop := match fn.body with
  | some c => wpT P Λ c (enterT fn args) (endT P fn K)
  | none => False

/-! ### Loops: a state told by what is still needed -/
def findSlot : List (Nat × TV) → Nat → TV
  | [], _ => .a .dead
  | (k, v) :: r, n => if k = n then v else findSlot r n
def mkS (n : Nat) (sl : List (Nat × TV)) (st : TStore) : TSt := { slots := (List.range n).map (findSlot sl), st := st }
def TC.okIn (S : TStore) : TC → Bool
  | .h k => (lookT S k).isSome
  | .eh k _ _ => (lookT S k).isSome
  | .a (.arr 0 k ..) => (lookT S k).isSome
  | .a (.ear 0 k ..) => (lookT S k).isSome
  | .a (.ref 0 k _) => (lookT S k).isSome
  | .a (.arr (_ + 1) ..) => false
  | .a (.ear (_ + 1) ..) => false
  | .a (.ref (_ + 1) ..) => false
  | _ => true
def T1.okIn (S : TStore) : T1 → Bool
  | .c x => x.okIn S
  | .agg cs => cs.all (TC.okIn S)
  | .own .. => false
def TV.okIn (S : TStore) : TV → Bool
  | .o x => x.okIn S
  | .tup vs => vs.all (T1.okIn S)
  | .efz .. => true
def TOb.okIn (S : TStore) : TOb → Bool
  | .box cs => cs.all (TC.okIn S)
  | .arr .. => true
def pickT (S : TStore) : List Nat → TStore
  | [] => []
  | k :: r => match lookT S k with
    | some o => (k, o) :: pickT S r
    | none => pickT S r
def cleanT (n : Nat) (ls ks : List Nat) (s : TSt) (K : TSt → Prop) : Prop :=
  let st := pickT s.st ks
  let sl := ls.map fun t => (t, s.get t)
  if s.slots.length = n ∧ (sl.all fun p => p.2.okIn st) ∧ (st.all fun p => p.2.okIn st) then K (mkS n sl st) else False
end
end Go.AbsM
