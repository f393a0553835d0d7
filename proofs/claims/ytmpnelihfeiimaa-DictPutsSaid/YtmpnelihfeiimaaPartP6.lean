/-
  Texts of a proof over the translated program: proved evaluators and walks, part 6 of 19.
-/
import Derived.Test.YtmpnelihfeiimaaPartP5
import Derived.Below
import Derived.Great.BuildSlice
import Derived.KernelRfl
import Derived.Laws.IdiomStrings
import Derived.Orders
import Derived.WalkKit
set_option linter.unusedVariables false
set_option linter.unusedSimpArgs false
set_option linter.unusedSectionVars false
set_option linter.unnecessarySimpa false
section
namespace Go.AbsM
namespace W
def add (k : IntKind) (a b : Int) : Int := k.wrap (a + b)
def sub (k : IntKind) (a b : Int) : Int := k.wrap (a - b)
def mul (k : IntKind) (a b : Int) : Int := k.wrap (a * b)
def quo (k : IntKind) (a b : Int) : Int := k.wrap (a.tdiv b)
def rem (a b : Int) : Int := a.tmod b
def and (k : IntKind) (a b : Int) : Int := k.wrap (BitVec.ofInt k.bits a &&& BitVec.ofInt k.bits b).toNat
def or (k : IntKind) (a b : Int) : Int := k.wrap (BitVec.ofInt k.bits a ||| BitVec.ofInt k.bits b).toNat
def xor (k : IntKind) (a b : Int) : Int := k.wrap (BitVec.ofInt k.bits a ^^^ BitVec.ofInt k.bits b).toNat
def andNot (k : IntKind) (a b : Int) : Int := k.wrap (BitVec.ofInt k.bits a &&& ~~~BitVec.ofInt k.bits b).toNat
def shl (k : IntKind) (a b : Int) : Int := k.wrap (a * 2 ^ (min b.toNat k.bits))
def shr (k : IntKind) (a b : Int) : Int := a.fdiv (2 ^ (min b.toNat k.bits))
def neg (k : IntKind) (n : Int) : Int := k.wrap (0 - n)
def inv (k : IntKind) (n : Int) : Int := k.wrap (BitVec.ofInt k.bits (if k.signed then -1 else k.max) ^^^ BitVec.ofInt k.bits n).toNat
def wrap (k : IntKind) (n : Int) : Int := k.wrap n
def bys (b : Nat) (c : Int) : Int := b * c
def imin (a b : Int) : Int := if b < a then b else a
def imax (a b : Int) : Int := if b > a then b else a
def ieq (a b : Int) : Bool := a == b
def ine (a b : Int) : Bool := a != b
def ilt (a b : Int) : Bool := decide (a < b)
def ile (a b : Int) : Bool := decide (a ≤ b)
def igt (a b : Int) : Bool := decide (a > b)
def ige (a b : Int) : Bool := decide (a ≥ b)
def neq (a b : Nat) : Bool := decide (a = b)
def nlt (a b : Nat) : Bool := decide (a < b)
def nle (a b : Nat) : Bool := decide (a ≤ b)
def nadd (a b : Nat) : Nat := a + b
def nsub (a b : Nat) : Nat := a - b
def nmul (a b : Nat) : Nat := a * b
def nmin (a b : Nat) : Nat := min a b
def ofNat (n : Nat) : Int := n
def toNat (n : Int) : Nat := n.toNat
def b8 (n : Int) : UInt8 := UInt8.ofNat n.toNat
def u8 (b : UInt8) : Int := b.toNat
def bnot (b : Bool) : Bool := !b
def beq (a b : Bool) : Bool := a == b
section
variable {α : Type}
def len (l : List α) : Nat := l.length
def app (l r : List α) : List α := l ++ r
def nth (l : List α) (i : Nat) (d : α) : α := l.getD i d
def upd (l : List α) (i : Nat) (x : α) : List α := l.set i x
def take (n : Nat) (l : List α) : List α := l.take n
def drop (n : Nat) (l : List α) : List α := l.drop n
def rep (n : Nat) (x : α) : List α := List.replicate n x
def none (l : List α) : Bool := l.isEmpty
end
def b8s (l : List Int) : List UInt8 := l.map b8
def u8s (l : List UInt8) : List Int := l.map u8
def seq (a b : List UInt8) : Bool := a == b
def sne (a b : List UInt8) : Bool := !(a == b)
def slt (a b : List UInt8) : Bool := Op.bytesLess a b
def sle (a b : List UInt8) : Bool := Op.bytesLess a b || a == b
def sgt (a b : List UInt8) : Bool := !(Op.bytesLess a b || a == b)
def sge (a b : List UInt8) : Bool := !(Op.bytesLess a b)
end W
inductive VT where
  | int (k : IntKind)
  | bool
  | str
  | flt (k : FloatKind)
  | cx (k : FloatKind)
  | slc (e : TypeId) (t : VT)
  | unit
  | pair (a b : VT)
  deriving DecidableEq, Inhabited
inductive NL (α : Type) where
  | nil
  | cap0
  | mk (l : List α)
def NL.list {α : Type} : NL α → List α
  | .mk l => l
  | _ => []
def NL.cut {α : Type} (h b : Nat) : NL α → NL α
  | .mk l => .mk (W.drop b (W.take h l))
  | x => x
def VT.den : VT → Type
  | .int _ => Int
  | .bool => Bool
  | .str => List UInt8
  | .flt _ => Nat
  | .cx _ => Nat × Nat
  | .slc _ t => NL t.den
  | .unit => Unit
  | .pair a b => a.den × b.den
def VT.dflt : (t : VT) → t.den
  | .int _ => (0 : Int)
  | .bool => false
  | .str => ([] : List UInt8)
  | .flt _ => (0 : Nat)
  | .cx _ => ((0, 0) : Nat × Nat)
  | .slc _ _ => NL.nil
  | .unit => ()
  | .pair a b => (a.dflt, b.dflt)
def VT.isAgg : VT → Bool
  | .unit | .pair _ _ => true
  | _ => false
def embOf (t : VT) (cs : List AV) : AV := match t.isAgg with
  | true => .agg cs
  | false => cs.headD .dead
def nlAV {α : Type} (e : TypeId) (f : α → AV) : NL α → AV
  | .nil => .nils
  | .cap0 => .cap0
  | .mk l => .sl e (l.map f)
def VT.cells : (t : VT) → t.den → List AV
  | .int k, n => [.x (.int k n)]
  | .bool, b => [.x (.bool b)]
  | .str, l => [.str l]
  | .flt k, n => [.x (.float k n)]
  | .cx k, z => [.x (.complex k (Prod.fst z) (Prod.snd z))]
  | .slc e t, x => [nlAV e (fun y => embOf t (t.cells y)) x]
  | .unit, _ => []
  | .pair a b, z => a.cells (Prod.fst z) ++ b.cells (Prod.snd z)
def VT.emb (t : VT) (x : t.den) : AV := embOf t (t.cells x)
inductive TC where
  | a (x : AV)
  | sl (e : TypeId) (t : VT) (x : NL t.den)
  | h (k : Nat)
  | eh (k j off : Nat)
inductive T1 where
  | c (x : TC)
  | agg (cs : List TC)
  | own (e : TypeId) (t : VT) (xs : List t.den)
inductive TV where
  | o (x : T1)
  | tup (vs : List T1)
  | efz (t : VT) (x : t.den) (off : Nat)
abbrev TV.a (x : AV) : TV := .o (.c (.a x))
abbrev TV.int (k : IntKind) (n : Int) : TV := .o (.c (.a (.x (.int k n))))
abbrev TV.bool (b : Bool) : TV := .o (.c (.a (.x (.bool b))))
abbrev TV.h (k : Nat) : TV := .o (.c (.h k))
abbrev TV.l (e : TypeId) (t : VT) (xs : List t.den) : TV := .o (.c (.sl e t (.mk xs)))
inductive TOb where
  | box (cs : List TC)
  | arr (fz : Bool) (e : TypeId) (t : VT) (xs : List t.den)
  | hb (t : VT) (xs : List t.den)
abbrev TStore := List (Nat × TOb)
structure TSt where
  slots : List TV
  st : TStore
def lookT : TStore → Nat → Option TOb
  | [], _ => none
  | (k, o) :: r, n => if k = n then some o else lookT r n
def layT : TStore → Nat → TOb → TStore
  | [], _, _ => []
  | (k, o) :: r, n, p => if k = n then (k, p) :: r else (k, o) :: layT r n p
def dropT : TStore → Nat → TStore
  | [], _ => []
  | (k, o) :: r, n => if k = n then dropT r n else (k, o) :: dropT r n
def VT.tc : (t : VT) → t.den → List TC
  | .int k, n => [.a (.x (.int k n))]
  | .bool, b => [.a (.x (.bool b))]
  | .str, l => [.a (.str l)]
  | .flt k, n => [.a (.x (.float k n))]
  | .cx k, z => [.a (.x (.complex k (Prod.fst z) (Prod.snd z)))]
  | .slc e t, x => [.sl e t x]
  | .unit, _ => []
  | .pair a b, z => a.tc (Prod.fst z) ++ b.tc (Prod.snd z)
def VT.t1 (t : VT) (x : t.den) : T1 := match t.isAgg with
  | true => .agg (t.tc x)
  | false => .c ((t.tc x).headD (.a .dead))
def VT.ofC : (t : VT) → TC → Option t.den
  | .int k, c => match c with
    | .a (.x (.int k' n)) => if k' = k then some n else none
    | _ => none
  | .bool, c => match c with
    | .a (.x (.bool b)) => some b
    | _ => none
  | .str, c => match c with
    | .a (.str l) => some l
    | _ => none
  | .flt k, c => match c with
    | .a (.x (.float k' n)) => if k' = k then some n else none
    | _ => none
  | .cx k, c => match c with
    | .a (.x (.complex k' a b)) => if k' = k then some (a, b) else none
    | _ => none
  | .slc e t, c => match c with
    | .a .nils => some .nil
    | .a .cap0 => some .cap0
    | .sl e' t' x => if e' = e then if h : t' = t then some (h ▸ x) else none else none
    | _ => none
  | _, _ => none
def ofHead {α : Type} (f : TC → Option α) (cs : List TC) : Option (α × List TC) := match cs with
  | c :: r => match f c with
    | some x => some (x, r)
    | none => none
  | [] => none
def VT.ofTC : (t : VT) → List TC → Option (t.den × List TC)
  | .unit, r => some ((), r)
  | .pair a b, cs => match a.ofTC cs with
    | some (x, r) => match b.ofTC r with
      | some (y, r') => some ((x, y), r')
      | none => none
    | none => none
  | .int k, cs => ofHead (VT.ofC (.int k)) cs
  | .bool, cs => ofHead (VT.ofC .bool) cs
  | .str, cs => ofHead (VT.ofC .str) cs
  | .flt k, cs => ofHead (VT.ofC (.flt k)) cs
  | .cx k, cs => ofHead (VT.ofC (.cx k)) cs
  | .slc e t, cs => ofHead (VT.ofC (.slc e t)) cs
def VT.ofT1 (t : VT) : T1 → Option t.den
  | .c c => match t.isAgg with
    | true => none
    | false => match t.ofTC [c] with
      | some (x, []) => some x
      | _ => none
  | .agg cs => match t.isAgg with
    | true => match t.ofTC cs with
      | some (x, []) => some x
      | _ => none
    | false => none
  | .own .. => none
abbrev asT (α : Type) (x : α) : α := x
def AV.one : AV → AV
  | .agg _ => .dead
  | .tup _ => .dead
  | .own .. => .dead
  | .obj _ => .dead
  | y => y
def shapeT (S : TStore) (k : Nat) : Option (TypeId × Nat) := match lookT S k with
  | some (.arr _ e _ xs) => some (e, xs.length)
  | _ => none
def TC.emb (S : TStore) : TC → AV
  | .a x => x.one
  | .sl e t x => nlAV e t.emb x
  | .h k => match shapeT S k with
    | some (e, n) => .arr 0 k e 0 n n
    | none => .dead
  | .eh k j off => match shapeT S k with
    | some (e, n) => .ear 0 k e n j off
    | none => .dead
def T1.emb (S : TStore) : T1 → AV
  | .c x => x.emb S
  | .agg cs => .agg (cs.map (TC.emb S))
  | .own e t xs => .own e (xs.map t.emb)
def TV.emb (S : TStore) : TV → AV
  | .o x => x.emb S
  | .tup vs => .tup (vs.map (T1.emb S))
  | .efz t x off => .efz (t.cells x) off
def TOb.emb (S : TStore) : TOb → Ob
  | .box cs => .box (cs.map (TC.emb S))
  | .arr fz e t xs => .arr fz e (xs.map t.emb)
  | .hb t xs => .box (xs.map t.emb)
def embStore (S : TStore) : Store := S.map fun p => (p.1, p.2.emb S)
def TSt.emb (R : List Store) (s : TSt) : St := { slots := s.slots.map (TV.emb s.st), stores := embStore s.st :: R }
def need {α : Type} (o : Option α) (f : α → Prop) : Prop := match o with
  | some a => f a
  | none => False
@[irreducible] def brc (t : Bool) (A B : Prop) : Prop := match t with
  | true => A
  | false => B
@[irreducible] def grd (t : Bool) (A : Prop) : Prop := match t with
  | true => A
  | false => False
def TSt.get (s : TSt) (t : Nat) : TV := s.slots.getD t (.o (.c (.a .dead)))
def TSt.put (s : TSt) (d : Option Nat) (v : TV) : TSt := match d with
  | some d => { s with slots := s.slots.set d v }
  | none => s
def TC.kill (k : Nat) : TC → TC
  | .a x => .a (x.killCell k)
  | .h j => if j = k then .a .dead else .h j
  | .eh j m off => if j = k then .a .dead else .eh j m off
  | c => c
def T1.kill (k : Nat) : T1 → T1
  | .c x => .c (x.kill k)
  | .agg cs => .agg (cs.map (TC.kill k))
  | x => x
def TV.kill (k : Nat) : TV → TV
  | .o x => .o (x.kill k)
  | .tup vs => .tup (vs.map (T1.kill k))
  | v => v
def TOb.kill (k : Nat) : TOb → TOb
  | .box cs => .box (cs.map (TC.kill k))
  | o => o
def killT (k : Nat) (S : TStore) : TStore := S.map fun p => (p.1, p.2.kill k)
def TSt.create (s : TSt) (k : Nat) (o : TOb) : TSt := { slots := s.slots.map (TV.kill k), st := (k, o) :: dropT (killT k s.st) k }
def TC.stale (k : Nat) (e : TypeId) (n : Nat) : TC → TC
  | .h j => if j = k then .a (.arr 0 k e 0 n n) else .h j
  | .eh j m off => if j = k then .a (.ear 0 k e n m off) else .eh j m off
  | c => c
def T1.stale (k : Nat) (e : TypeId) (n : Nat) : T1 → T1
  | .c x => .c (x.stale k e n)
  | .agg cs => .agg (cs.map (TC.stale k e n))
  | x => x
def TV.stale (k : Nat) (e : TypeId) (n : Nat) : TV → TV
  | .o x => .o (x.stale k e n)
  | .tup vs => .tup (vs.map (T1.stale k e n))
  | v => v
def TOb.stale (k : Nat) (e : TypeId) (n : Nat) : TOb → TOb
  | .box cs => .box (cs.map (TC.stale k e n))
  | o => o
def TSt.grow (s : TSt) (k : Nat) (e : TypeId) (n : Nat) (o : TOb) : TSt := { slots := s.slots.map (TV.stale k e n), st := layT (s.st.map fun p => (p.1, p.2.stale k e n)) k o }
def TSt.lay (s : TSt) (k : Nat) (o : TOb) : TSt := { s with st := layT s.st k o }
def TSt.fz (s : TSt) (k : Nat) : TSt := match lookT s.st k with
  | some (.arr _ e t xs) => s.lay k (.arr true e t xs)
  | _ => s
def resC (s : TSt) (c : TC) (K : TSt → TC → Prop) : Prop := match c with
  | .h k => match lookT s.st k with
    | some (.arr _ e t xs) => K (s.fz k) (.sl e t (.mk xs))
    | _ => False
  | .a (.arr 0 k e lo n tot) => match lookT s.st k with
    | some (.arr _ _ t xs) => grd (W.neq (W.len xs) tot) (K (s.fz k) (.sl e t (.mk (W.take n (W.drop lo xs)))))
    | _ => False
  | .a (.x v) => K s (.a (.x v))
  | .a (.str l) => K s (.a (.str l))
  | .a .nils => K s (.a .nils)
  | .a .cap0 => K s (.a .cap0)
  | .sl e t x => K s (.sl e t x)
  | _ => False
def resCs (s : TSt) (l : List TC) (K : TSt → List TC → Prop) : Prop := match l with
  | [] => K s []
  | c :: r => resC s c fun s1 d => resCs s1 r fun s2 l => K s2 (d :: l)
def resT (s : TSt) (x : T1) (K : TSt → T1 → Prop) : Prop := match x with
  | .c c => resC s c fun s1 d => K s1 (.c d)
  | .agg cs => resCs s cs fun s1 l => K s1 (.agg l)
  | _ => False
def resAllT (s : TSt) (l : List T1) (K : TSt → List T1 → Prop) : Prop := match l with
  | [] => K s []
  | c :: r => resT s c fun s1 d => resAllT s1 r fun s2 l => K s2 (d :: l)
section
variable (P : Program)
def vtOf : Nat → TypeId → Option VT
  | 0, _ => none
  | d + 1, t => match P.underlying t with
    | some (.int k) => some (.int k)
    | some .bool => some .bool
    | some .string => some .str
    | some (.float k) => some (.flt k)
    | some (.complex k) => some (.cx k)
    | some (.slice e) => (vtOf d e).map (.slc e)
    | some (.struct fs) => fs.toList.foldr (fun f r => match vtOf d f.type, r with
      | some a, some b => some (.pair a b)
      | _, _ => none) (some .unit)
    | some (.array n e) => (vtOf d e).map fun v => (List.replicate n v).foldr .pair .unit
    | _ => none
def constT : AV → TV
  | .agg cs => .o (.agg (cs.map .a))
  | a => .o (.c (.a a))
def evalT (s : TSt) : Operand → Option TV
  | .tmp t => some (s.get t)
  | .const v => (constAV v).map constT
  | .func f => some (.o (.c (.a (.x (.func (.func f) #[] #[])))))
  | _ => none
def calleeT (s : TSt) : Callee → Option FuncId
  | .value (.func f) => some f
  | .value (.tmp t) => match s.get t with
    | .o (.c (.a x)) => funcOf x
    | _ => none
  | _ => none
def eval1 (s : TSt) (o : Operand) (K : T1 → Prop) : Prop := match evalT s o with
  | some (.o x) => K x
  | _ => False
def evalA (s : TSt) (o : Operand) (K : AV → Prop) : Prop := match evalT s o with
  | some (.o (.c (.a x))) => K x
  | _ => False
def evalI (s : TSt) (o : Operand) (K : Int → Prop) : Prop := match evalT s o with
  | some (.o (.c (.a (.x (.int _ i))))) => K i
  | _ => False
def evalOsT (s : TSt) (l : List Operand) (K : List T1 → Prop) : Prop := match l with
  | [] => K []
  | o :: r => eval1 s o fun x => evalOsT s r fun l => K (x :: l)
def partsT (s : TSt) (l : List (Nat × Operand)) (K : List (Nat × T1) → Prop) : Prop := match l with
  | [] => K []
  | (i, o) :: r => eval1 s o fun x => partsT s r fun l => K ((i, x) :: l)
def T1.cells : T1 → List TC
  | .c x => [x]
  | .agg cs => cs
  | .own .. => [.eh 0 0 0]
def partT (t : TypeId) (cs : List TC) (off : Nat) (K : T1 → Prop) : Prop := match sizeT P t, aggT P t with
  | some n, some true => grd (decide (off + n ≤ cs.length)) (K (.agg ((cs.drop off).take n)))
  | some _, some false => match cs[off]? with
    | some c => K (.c c)
    | none => False
  | _, _ => False
def layC (cs : List TC) (off : Nat) (ds : List TC) : Option (List TC) :=
  if off + ds.length ≤ cs.length then some (cs.take off ++ (ds ++ cs.drop (off + ds.length))) else none
def TC.isCell (S : TStore) : TC → Bool
  | .a x => x.isCell
  | .sl .. => true
  | .h k => (shapeT S k).isSome
  | .eh .. => false
def TC.isVal : TC → Bool
  | .a x => x.isVal
  | .sl .. => true
  | _ => false
def T1.isVal : T1 → Bool
  | .c x => x.isVal
  | .agg _ => false
  | .own .. => false
def T1.noH : T1 → Bool
  | .c x => x.isVal
  | .agg cs => cs.all TC.isVal
  | .own .. => false
def fillT (S : TStore) (place : Nat → Option (Nat × Nat)) (cells : List TC) : List (Nat × T1) → Option (List TC)
  | [] => some cells
  | (i, v) :: rest => match place i with
    | none => none
    | some (off, size) => if v.cells.length = size ∧ v.cells.all (TC.isCell S) then
        match layC cells off v.cells with
        | some cells' => fillT S place cells' rest
        | none => none
      else none
def intT (op : BinOp) (k : IntKind) (a b : Int) (K : AV → Prop) : Prop := match op with
  | .add => K (.int k (W.add k a b))
  | .sub => K (.int k (W.sub k a b))
  | .mul => K (.int k (W.mul k a b))
  | .quo => brc (W.ieq b 0) False (K (.int k (W.quo k a b)))
  | .rem => brc (W.ieq b 0) False (K (.int k (W.rem a b)))
  | .and => K (.int k (W.and k a b))
  | .or => K (.int k (W.or k a b))
  | .xor => K (.int k (W.xor k a b))
  | .andNot => K (.int k (W.andNot k a b))
  | .eql => K (.bool (W.ieq a b))
  | .neq => K (.bool (W.ine a b))
  | .lss => K (.bool (W.ilt a b))
  | .leq => K (.bool (W.ile a b))
  | .gtr => K (.bool (W.igt a b))
  | .geq => K (.bool (W.ige a b))
  | _ => False
def strT (op : BinOp) (a b : List UInt8) (K : AV → Prop) : Prop := match op with
  | .add => grd (W.nle (W.nadd (W.len a) (W.len b)) 9223372036854775807) (K (.str (W.app a b)))
  | .eql => K (.bool (W.seq a b))
  | .neq => K (.bool (W.sne a b))
  | .lss => K (.bool (W.slt a b))
  | .leq => K (.bool (W.sle a b))
  | .gtr => K (.bool (W.sgt a b))
  | .geq => K (.bool (W.sge a b))
  | _ => False
def binK (op : BinOp) (t : TypeId) (x y : AV) (K : AV → Prop) : Prop := match y with
  | .x (.int k' b) => match x with
    | .x (.int k a) => match op with
      | .shl => grd (W.ile 0 b) (K (.int k (W.shl k a b)))
      | .shr => grd (W.ile 0 b) (K (.int k (W.shr k a b)))
      | op => if k = k' then intT op k a b K else False
    | _ => False
  | .x (.bool b) => match x with
    | .x (.bool a) => match P.underlying t with
      | some .bool => match op with
        | .eql => K (.bool (W.beq a b))
        | .neq => K (.bool (W.bnot (W.beq a b)))
        | _ => False
      | _ => False
    | _ => False
  | .str b => match x with
    | .str a => strT op a b K
    | _ => False
  | .x (.float k' b) => match x with
    | .x (.float k a) => if k = k' then need (floatBin op k a b) K else False
    | _ => False
  | .x (.complex k' c d) => match x with
    | .x (.complex k a b) => if k = k' then need (complexBin op k a b c d) K else False
    | _ => False
  | .x (.pointer none) => match x with
    | .ref _ _ _ => match P.underlying t with
      | some (.pointer _) => match op with
        | .eql => K (.bool false)
        | .neq => K (.bool true)
        | _ => False
      | _ => False
    | _ => False
  | _ => False
def eqK : List Field → List TC → List TC → (Bool → Prop) → Prop
  | [], _, _, K => K true
  | f :: r, xs, ys, K => if f.name = "_" then False else match P.underlying f.type, sizeT P f.type, xs[f.offset]?, ys[f.offset]? with
    | some (.int _), some _, some (.a (.x (.int k a))), some (.a (.x (.int k' b))) => if k = k' then brc (W.ieq a b) (eqK r xs ys K) (K false) else False
    | some .bool, some _, some (.a (.x (.bool a))), some (.a (.x (.bool b))) => brc (W.beq a b) (eqK r xs ys K) (K false)
    | _, _, _, _ => False
def aggK (op : BinOp) (t : TypeId) (xs ys : List TC) (K : AV → Prop) : Prop := match P.underlying t with
  | some (.struct fields) => if P.eqGuardType P.depth t then False else if P.stoodInHeld t then False else match op with
    | .eql => eqK P fields.toList xs ys fun b => K (.bool b)
    | .neq => eqK P fields.toList xs ys fun b => K (.bool (!b))
    | _ => False
  | _ => False
def unK (op : UnOp) (x : AV) (K : AV → Prop) : Prop := match x with
  | .x (.int k n) => match op with
    | .neg => K (.int k (W.neg k n))
    | .xor => K (.int k (W.inv k n))
    | _ => False
  | .x (.bool b) => match op with
    | .not => K (.bool (W.bnot b))
    | _ => False
  | .x (.float k b) => match op with
    | .neg => K (.x (.float k (Op.negFloat k b)))
    | _ => False
  | .x (.complex k a b) => match op with
    | .neg => K (.x (.complex k (Op.negFloat k a) (Op.negFloat k b)))
    | _ => False
  | _ => False
def srcT (s : TSt) (e : TypeId) (t : VT) (x : T1) (K : List t.den → Prop) : Prop := match x with
  | .c (.a .nils) => K []
  | .c (.a .cap0) => K []
  | .c (.a (.str l)) => if h : VT.int .u8 = t then if P.cellsOf e = 1 then K (h ▸ (show List (VT.int .u8).den from W.u8s l)) else False else False
  | .c (.sl e' t' x) => if e' = e then if h : t' = t then K (h ▸ x.list) else False else False
  | .c (.h k) => match lookT s.st k with
    | some (.arr _ e' t' xs) => if e' = e then if h : t' = t then K (h ▸ xs) else False else False
    | _ => False
  | .c (.a (.arr 0 k e' lo n tot)) => match lookT s.st k with
    | some (.arr _ _ t' xs) => if e' = e then if h : t' = t then grd (W.neq (W.len xs) tot) (K (h ▸ (W.take n (W.drop lo xs)))) else False else False
    | _ => False
  | _ => False
def freshT (s : TSt) (d : Option Nat) (e : TypeId) (t : VT) (xs : List t.den) (K : TSt → Prop) : Prop := match d with
  | some k => if k < 500000 then K ((s.create k (.arr false e t xs)).put (some k) (.o (.c (.h k)))) else False
  | none => False
def convK (s : TSt) (src dst : TypeId) (x : T1) (K : TV → Prop) : Prop := match x with
  | .c (.a (.x (.int k n))) => match P.underlying src, P.underlying dst with
    | some _, some (.int k') => K (TV.int k' (W.wrap k' n))
    | some _, some (.float k') => K (.a (.x (.float k' (k'.nearest n))))
    | _, _ => False
  | .c (.a (.x (.float k b))) => need (convA P ⟨[], []⟩ src dst (.x (.float k b))) fun v => K (.o (.c (.a v)))
  | .c (.a (.str l)) => match P.underlying src, P.underlying dst with
    | some _, some .string => K (.a (.str l))
    | _, _ => False
  | x => match P.underlying src, P.underlying dst with
    | some (.slice e), some .string => match P.underlying e with
      | some (.int .u8) => srcT P s e (.int .u8) x fun xs => K (.a (.str (W.b8s xs)))
      | _ => False
    | _, _ => False
def convertT (s : TSt) (d : Option Nat) (src dst : TypeId) (x : T1) (K : TSt → Prop) : Prop := match P.underlying src, P.underlying dst with
  | some .string, some (.slice e) => match x, P.underlying e with
    | .c (.a (.str l)), some (.int .u8) => if P.cellsOf e = 1 then grd (W.nle (W.len l) 9223372036854775807) (K (s.put d (.o (.c (.sl e (.int .u8) (.mk (W.u8s l))))))) else False
    | _, _ => False
  | _, _ => convK P s src dst x fun v => K (s.put d v)
def boundK (s : TSt) (dflt most : Nat) (o : Option Operand) (K : Nat → Prop) : Prop := match o with
  | none => K dflt
  | some o => evalI s o fun i => grd (W.ile 0 i) (grd (W.ile i (W.ofNat most)) (K (W.toNat i)))
def sliceT (s : TSt) (t : TypeId) (x : T1) (lo hi : Option Operand) (K : TV → Prop) : Prop := match P.underlying t with
  | some .string => match x with
    | .c (.a (.str l)) => boundK s (W.len l) (W.len l) hi fun h => boundK s 0 h lo fun b => K (.a (.str (W.drop b (W.take h l))))
    | _ => False
  | some (.slice e) => match sizeT P e with
    | none => False
    | some _ => match x with
      | .c (.sl e' t' x) => if e' = e then boundK s (W.len x.list) (W.len x.list) hi fun h => boundK s 0 h lo fun b => K (.o (.c (.sl e t' (x.cut h b)))) else False
      | .c (.a .nils) => boundK s 0 0 hi fun h => boundK s 0 h lo fun b => K (.a .nils)
      | .c (.a .cap0) => boundK s 0 0 hi fun h => boundK s 0 h lo fun b => K (.a .cap0)
      | .c (.h k) => match lookT s.st k with
        | some (.arr _ e' t' xs) => if e' = e then boundK s (W.len xs) (W.len xs) hi fun h => boundK s 0 h lo fun b => K (.a (.arr 0 k e b (W.nsub h b) (W.len xs))) else False
        | _ => False
      | .c (.a (.arr 0 k e' lo' n tot)) => match lookT s.st k with
        | some (.arr _ _ t' xs) => if e' = e then grd (W.neq (W.len xs) tot) (boundK s n n hi fun h => boundK s 0 h lo fun b => K (.a (.arr 0 k e' (W.nadd lo' b) (W.nsub h b) tot))) else False
        | _ => False
      | _ => False
  | _ => False
def lenT (s : TSt) (t : TypeId) (x : T1) (K : Nat → Prop) : Prop := match P.underlying t with
  | some .string => match x with
    | .c (.a (.str l)) => K (W.len l)
    | _ => False
  | some (.slice _) => match x with
    | .c (.a .nils) => K 0
    | .c (.a .cap0) => K 0
    | .c (.sl _ _ x) => K (W.len x.list)
    | .c (.h k) => match lookT s.st k with
      | some (.arr _ _ _ xs) => K (W.len xs)
      | _ => False
    | .c (.a (.arr 0 k e lo n tot)) => match lookT s.st k with
      | some (.arr _ _ _ xs) => grd (W.neq (W.len xs) tot) (K n)
      | _ => False
    | _ => False
  | some (.array n _) => K n
  | _ => False
def boxT (s : TSt) (d : Option Nat) (e : TypeId) (x : T1) (K : TSt → Prop) : Prop := match d, sizeT P e with
  | some k, some n => if (x.cells.length = n ∧ x.cells.all (TC.isCell s.st)) ∧ k < 500000 then
      K ((s.create k (.box (x.cells.map (TC.kill k)))).put (some k) (.o (.c (.a (.ref 0 k 0))))) else False
  | _, _ => False
def buildT (s : TSt) (d : Option Nat) (t : TypeId) (l : List (Nat × T1)) (K : TSt → Prop) : Prop := match zeroT P t, P.underlying t with
  | some z, some (.struct fields) => match placesT P fields.toList with
    | some places => need (fillT s.st (places[·]?) (z.cells.map .a) l) fun cs => K (s.put d (.o (.agg cs)))
    | none => False
  | some z, some (.array _ e) => match sizeT P e with
    | some n => need (fillT s.st (fun i => some (i * n, n)) (z.cells.map .a) l) fun cs => K (s.put d (.o (.agg cs)))
    | none => False
  | _, _ => False
def chunksT (t : VT) (es : Nat) : Nat → List TC → Option (List t.den)
  | 0, _ => some []
  | n + 1, cs => match chunksT t es n (cs.drop es) with
    | some r => match t.ofTC (cs.take es) with
      | some (x, []) => some (x :: r)
      | _ => none
    | none => none
def zvT (e : TypeId) (vt : VT) : Option vt.den := match zeroT P e with
  | some z => match constT z with
    | .o x => vt.ofT1 x
    | _ => none
  | none => none
def buildSliceT (s : TSt) (d : Option Nat) (t : TypeId) (len : Nat) (l : List (Nat × T1)) (K : TSt → Prop) : Prop := match elemT P t with
  | some e => match sizeT P e, zeroT P e, vtOf P 20 e with
    | some n, some z, some vt => if n = 0 ∨ len * n > 16777216 ∨ z.cells.length ≠ n ∨ aggT P e ≠ some vt.isAgg ∨ (vt.isAgg = false ∧ n ≠ 1) then False else
      resAllT s (l.map (·.2)) fun s1 vs => need (fillT s1.st (fun i => some (i * n, n)) ((List.replicate len (z.cells.map TC.a)).flatten) ((l.map (·.1)).zip vs)) fun cs =>
        if cs.all TC.isVal then need (chunksT vt n len cs) fun xs => freshT s1 d e vt xs K else False
    | _, _, _ => False
  | none => False
def makeT (s : TSt) (d : Option Nat) (t : TypeId) (l c : Int) (K : TSt → Prop) : Prop := match elemT P t with
  | none => False
  | some e => match sizeT P e, bytesT P e, zeroT P e, vtOf P 20 e with
    | some n, some by_, some z, some vt => if 0 < n ∧ z.cells.length = n ∧ z.cells.all AV.isVal then
        need (zvT P e vt) fun z => grd (W.ile 0 l) (grd (W.ile l c) (grd (W.ile c 9223372036854775807) (grd (W.ile (W.bys by_ c) 281474976710656) (freshT s d e vt (W.rep (W.toNat l) z) K)))) else False
    | _, _, _, _ => False
def loadT (s : TSt) (t : TypeId) (p : TV) (K : T1 → Prop) : Prop := match p with
  | .o (.c (.a (.ref 0 k off))) => match lookT s.st k with
    | some (.box cs) => partT P t cs off K
    | some (.hb vt xs) => match sizeT P t, aggT P t with
      | some _, some false => grd (W.nlt off (W.len xs)) (K (vt.t1 (W.nth xs off vt.dflt)))
      | _, _ => False
    | _ => False
  | .efz vt x off => partT P t (vt.tc x) off K
  | .o (.c (.eh k j off)) => match lookT s.st k with
    | some (.arr _ _ vt xs) => grd (W.nlt j (W.len xs)) (partT P t (vt.tc (W.nth xs j vt.dflt)) off K)
    | _ => False
  | .o (.c (.a (.ear 0 k _ tot j off))) => match lookT s.st k with
    | some (.arr _ _ vt xs) => grd (W.neq (W.len xs) tot) (grd (W.nlt j (W.len xs)) (partT P t (vt.tc (W.nth xs j vt.dflt)) off K))
    | _ => False
  | _ => False
def storeE (s : TSt) (d : Option Nat) (k j off : Nat) (cs : List TC) (K : TSt → Prop) : Prop := resCs s cs fun s1 vs => match lookT s1.st k with
  | some (.arr false e vt xs) => if aggT P e = some vt.isAgg then grd (W.nlt j (W.len xs)) (need (layC (vt.tc (W.nth xs j vt.dflt)) off vs) fun ds => match vt.ofTC ds with
    | some (x, []) => K ((s1.lay k (.arr false e vt (W.upd xs j x))).put d (.a .und))
    | _ => False) else False
  | _ => False
def storeT (s : TSt) (d : Option Nat) (t : TypeId) (p : TV) (v : T1) (K : TSt → Prop) : Prop := match sizeT P t with
  | none => False
  | some n => if v.cells.length = n ∧ v.cells.all (TC.isCell s.st) then match p with
    | .o (.c (.a (.ref 0 k off))) => match lookT s.st k with
      | some (.box cs) => need (layC cs off v.cells) fun ds => K ((s.lay k (.box ds)).put d (.a .und))
      | some (.hb vt xs) => match vt.isAgg with
        | false => need (vt.ofT1 v) fun x => grd (W.nlt off (W.len xs)) (K ((s.lay k (.hb vt (W.upd xs off x))).put d (.a .und)))
        | true => False
      | _ => False
    | .o (.c (.eh k j off)) => storeE P s d k j off v.cells K
    | .o (.c (.a (.ear 0 k e tot j off))) => match lookT s.st k with
      | some (.arr false e' vt xs) => if e' = e then grd (W.neq (W.len xs) tot) (storeE P s d k j off v.cells K) else False
      | _ => False
    | _ => False
    else False
def fwdT (s : TSt) (n : Nat) (v : TV) (K : TV → Prop) : Prop := match v with
  | .o (.c (.a (.ref i k off))) => K (.a (.ref i k (off + n)))
  | .efz vt x off => K (.efz vt x (off + n))
  | .o (.c (.eh k j off)) => match shapeT s.st k with
    | some _ => K (.o (.c (.eh k j (off + n))))
    | none => False
  | _ => False
def hbAt (s : TSt) (p : TV) : Option Nat := match p with
  | .o (.c (.a (.ref 0 k 0))) => match lookT s.st k with
    | some (.hb _ _) => some k
    | _ => none
  | _ => none
def indexAddrT (s : TSt) (t : TypeId) (p : TV) (i : Int) (K : TV → Prop) : Prop := match P.underlying t with
  | some (.slice e) => match p with
    | .o (.c (.sl e' vt x)) => if e' = e then grd (W.ile 0 i) (grd (W.nlt (W.toNat i) (W.len x.list)) (K (.efz vt (W.nth x.list (W.toNat i) vt.dflt) 0))) else False
    | .o (.c (.h k)) => match lookT s.st k with
      | some (.arr _ e' vt xs) => if e' = e then grd (W.ile 0 i) (grd (W.nlt (W.toNat i) (W.len xs)) (K (.o (.c (.eh k (W.toNat i) 0))))) else False
      | _ => False
    | .o (.c (.a (.arr 0 k e' lo n tot))) => match lookT s.st k with
      | some (.arr _ _ vt xs) => if e' = e then grd (W.neq (W.len xs) tot) (grd (W.ile 0 i) (grd (W.nlt (W.toNat i) n) (K (.a (.ear 0 k e tot (W.nadd lo (W.toNat i)) 0))))) else False
      | _ => False
    | _ => False
  | some (.array len e) => match sizeT P e with
    | some n => grd (W.ile 0 i) (grd (W.ilt i (W.ofNat len)) (match hbAt s p with
      | some k => if n = 1 then K (.a (.ref 0 k (W.toNat i))) else False
      | none => fwdT s (i.toNat * n) p K))
    | none => False
  | _ => False
def appendT (s : TSt) (d : Option Nat) (t : TypeId) (a b : T1) (K : TSt → Prop) : Prop := match elemT P t with
  | none => False
  | some e => match sizeT P e, bytesT P e, zeroT P e, vtOf P 20 e with
    | some es, some by_, some z, some vt =>
      if es = 0 ∨ by_ = 0 ∨ z.cells.length ≠ es then False else srcT P s e vt b fun news =>
      let newly (x : AV) : Prop := brc (W.none news) (K (s.put d (.a x))) (grd (W.nle (W.nmul (W.len news) by_) 140737488355328) (freshT s d e vt news K))
      match a with
      | .c (.a .nils) => newly .nils
      | .c (.a .cap0) => newly .cap0
      | .c (.sl _ _ .nil) => newly .nils
      | .c (.sl _ _ .cap0) => newly .cap0
      | .c (.h k) => match lookT s.st k with
        | some (.arr false e' vt' xs) => if e' = e then if h : vt = vt' then grd (W.nle (W.nmul (W.nadd (W.len xs) (W.len news)) by_) 140737488355328)
            (K ((s.grow k e (W.len xs) (.arr false e vt' (W.app xs (h ▸ news)))).put d (.o (.c (.h k))))) else False else False
        | _ => False
      | _ => False
    | _, _, _, _ => False
def copyT (s : TSt) (d : Option Nat) (t : TypeId) (a b : T1) (K : TSt → Prop) : Prop := match elemT P t with
  | none => False
  | some e => match sizeT P e with
    | none => False
    | some _ => match a with
      | .c (.h k) => match lookT s.st k with
        | some (.arr false e' vt xs) => if e' = e then srcT P s e vt b fun ys =>
            K ((s.lay k (.arr false e vt (W.app (W.take (W.nmin (W.len ys) (W.len xs)) ys) (W.drop (W.nmin (W.len ys) (W.len xs)) xs)))).put d (TV.int .i64 (W.ofNat (W.nmin (W.len ys) (W.len xs))))) else False
        | _ => False
      | .c (.a (.arr 0 k e' lo n tot)) => match lookT s.st k with
        | some (.arr false e2 vt xs) => if e' = e ∧ e2 = e then srcT P s e vt b fun ys => grd (W.neq (W.len xs) tot) (grd (W.nle (W.nadd lo n) tot)
            (K ((s.lay k (.arr false e vt (W.app (W.take lo xs) (W.app (W.take (W.nmin (W.len ys) n) ys) (W.drop (W.nadd lo (W.nmin (W.len ys) n)) xs))))).put d (TV.int .i64 (W.ofNat (W.nmin (W.len ys) n)))))) else False
        | _ => False
      | _ => False
def builtinT (s : TSt) (d : Option Nat) (b : Builtin) (ts : List TypeId) (as : List T1) (K : TSt → Prop) : Prop := match b with
  | .len => match as, ts with
    | [a], t :: _ => lenT P s t a fun n => K (s.put d (TV.int .i64 (W.ofNat n)))
    | _, _ => False
  | .append => match as, ts with
    | [a, b], [t, t2] => match P.underlying t2 with
      | some (.slice _) => appendT P s d t a b K
      | some .string => appendT P s d t a b K
      | _ => False
    | _, _ => False
  | .copy => match as, ts with
    | [a, b], t :: _ => copyT P s d t a b K
    | _, _ => False
  | .real => match as with
    | [.c (.a (.x (.complex k a _)))] => K (s.put d (.a (.x (.float k a))))
    | _ => False
  | .imag => match as with
    | [.c (.a (.x (.complex k _ b)))] => K (s.put d (.a (.x (.float k b))))
    | _ => False
  | .complex => match as with
    | [.c (.a (.x (.float k a))), .c (.a (.x (.float k' b)))] => if k = k' then K (s.put d (.a (.x (.complex k a b)))) else False
    | _ => False
  | .min => match as with
    | [.c (.a (.x (.int k a))), .c (.a (.x (.int _ b)))] => K (s.put d (TV.int k (W.imin a b)))
    | _ => False
  | .max => match as with
    | [.c (.a (.x (.int k a))), .c (.a (.x (.int _ b)))] => K (s.put d (TV.int k (W.imax a b)))
    | _ => False
  | _ => False
def nilK (s : TSt) (x : T1) (K : Bool → Prop) : Prop := match x with
  | .c (.a .nils) => K true
  | .c (.sl _ _ .nil) => K true
  | .c (.sl _ _ (.mk l)) => grd (W.bnot (W.none l)) (K false)
  | .c (.h k) => match lookT s.st k with
    | some (.arr _ _ _ xs) => grd (W.bnot (W.none xs)) (K false)
    | _ => False
  | .c (.a (.arr 0 k _ _ n tot)) => match lookT s.st k with
    | some (.arr _ _ _ xs) => grd (W.neq (W.len xs) tot) (grd (W.nlt 0 n) (K false))
    | _ => False
  | _ => False
def isNilC : Operand → Bool
  | .const (.slice none 0 0) => true
  | _ => false
def pureT (s : TSt) (op : Op) (K : TV → Prop) : Prop := match op with
  | .move x => need (evalT s x) K
  | .assign x => need (evalT s x) K
  | .pick c a b => match evalT s c with
    | some (.o (.c (.a (.x (.bool t))))) => brc t (need (evalT s a) K) (need (evalT s b) K)
    | _ => False
  | .nilCheck x => match evalT s x with
    | some (.o (.c (.a (.ref i k off)))) => K (.a (.ref i k off))
    | _ => False
  | .load t x => need (evalT s x) fun p => loadT P s t p fun v => K (.o v)
  | .fieldAddr t x f => match P.underlying t with
    | some (.struct fields) => match fields[f]? with
      | some fd => match sizeT P fd.type with
        | some (_ + 1) => need (evalT s x) fun p => fwdT s fd.offset p K
        | _ => False
      | none => False
    | _ => False
  | .indexAddr t x y => need (evalT s x) fun p => evalI s y fun i => indexAddrT P s t p i K
  | .field t x f => match P.underlying t, evalT s x with
    | some (.struct fields), some (.o (.agg cs)) => match fields[f]? with
      | some fd => partT P fd.type cs fd.offset fun v => K (.o v)
      | none => False
    | _, _ => False
  | .index t x y => match evalT s x with
    | some (.o a) => evalI s y fun i => match P.underlying t with
      | some (.array len e) => match a, sizeT P e with
        | .agg cs, some n => grd (W.ile 0 i) (grd (W.ilt i (W.ofNat len)) (partT P e cs (i.toNat * n) fun v => K (.o v)))
        | _, _ => False
      | some .string => match a with
        | .c (.a (.str l)) => grd (W.ile 0 i) (grd (W.nlt (W.toNat i) (W.len l)) (K (TV.int .u8 (W.u8 (W.nth l (W.toNat i) 0)))))
        | _ => False
      | _ => False
    | _ => False
  | .slice t x lo hi none => eval1 s x fun a => sliceT P s t a lo hi K
  | .binOp op t x y _ => match isNilC y, P.underlying t with
    | true, some (.slice _) => match op with
      | .eql => eval1 s x fun a => nilK s a fun b => K (TV.bool b)
      | .neq => eval1 s x fun a => nilK s a fun b => K (TV.bool (!b))
      | _ => False
    | _, _ => match evalT s x with
      | some (.o (.agg xs)) => match evalT s y with
        | some (.o (.agg ys)) => aggK P op t xs ys fun v => K (.a v)
        | _ => False
      | _ => evalA s x fun a => evalA s y fun b => binK P op t a b fun v => K (.a v)
  | .unOp op _ x => evalA s x fun a => unK op a fun v => K (.a v)
  | .extract x i => match evalT s x with
    | some (.tup vs) => need (vs[i]?) fun v => K (.o v)
    | _ => False
  | _ => False
def rowsOf (e : TypeId) (z : AV) : Option (Sigma fun _ : VT => Nat) := match P.underlying e, sizeT P e with
  | some (.array n el), some m => match vtOf P 2 el, z with
    | some vt, .agg cs => match vt.cells vt.dflt with
      | [.x v] => if (64 ≤ n ∧ m = n) ∧ vt.isAgg = false ∧ leq aveq cs (List.replicate n (.x v)) = true then some ⟨vt, n⟩ else none
      | _ => none
    | _, _ => none
  | _, _ => none
def allocT (s : TSt) (d : Option Nat) (e : TypeId) (z : AV) (K : TSt → Prop) : Prop := match rowsOf P e z with
  | some q => match d with
    | some k => if k < 500000 then K ((s.create k (.hb q.1 (W.rep q.2 q.1.dflt))).put (some k) (.o (.c (.a (.ref 0 k 0))))) else False
    | none => False
  | none => match constT z with
    | .o x => boxT P s d e x K
    | _ => False
def opT (s : TSt) (o : Oper) (K : TSt → Prop) : Prop := match o.op with
  | .alloc e => match zeroT P e with
    | some z => allocT P s o.dst e z K
    | none => False
  | .box e x => eval1 s x fun a => boxT P s o.dst e a K
  | .build t ps => partsT s ps.toList fun l => buildT P s o.dst t l K
  | .buildSlice t len ps => partsT s ps.toList fun l => buildSliceT P s o.dst t len l K
  | .makeSlice t lo co => evalI s lo fun l => evalI s co fun c => makeT P s o.dst t l c K
  | .store t x y => need (evalT s x) fun p => eval1 s y fun v => storeT P s o.dst t p v K
  | .convert src dst x => eval1 s x fun a => convertT P s o.dst src dst a K
  | .call c => match c.callee with
    | .builtin b => evalOsT s c.args.toList fun as => builtinT P s o.dst b c.argTypes.toList as K
    | _ => False
  | op => pureT P s op fun v => K (s.put o.dst v)
abbrev Ctr := FuncId → List T1 → (TV → Prop) → Prop
def T1.hasSl : T1 → Bool
  | .c (.sl _ _ .nil) => false
  | .c (.sl _ _ .cap0) => false
  | .c (.sl _ _ (.mk _)) => true
  | .c y => !(y.emb []).flat0
  | .agg cs => !(cs.all fun y => (y.emb []).flat0)
  | .own _ t xs => !(xs.all fun x => (t.emb x).flat1)
def VT.plainT : VT → Bool
  | .slc _ _ => false
  | .pair a b => a.plainT && b.plainT
  | _ => true
def TC.mayS : TC → Bool
  | .sl _ _ _ => true
  | .a x => !x.flat0
  | _ => true
def T1.mayS : T1 → Bool
  | .c x => x.mayS
  | .agg cs => cs.any TC.mayS
  | .own _ t _ => !t.plainT
def TV.mayS : TV → Bool
  | .o x => x.mayS
  | .tup vs => vs.any T1.mayS
  | _ => true
def TV.hasSl : TV → Bool
  | .o x => x.hasSl
  | .tup vs => vs.any T1.hasSl
  | _ => true
def T1.outOk : T1 → Bool
  | .c x => x.isVal
  | .agg cs => cs.all TC.isVal
  | .own e t xs => !(Nat.beq e objE) || (t.isAgg && xs.length == 1)
def TV.outOk : TV → Bool
  | .o x => x.outOk
  | .tup vs => vs.all T1.outOk
  | _ => false
def T1.unown : T1 → T1
  | .own e t xs => match Nat.beq e objE with
    | true => .c (.a .dead)
    | false => .c (.sl e t (.mk xs))
  | a => a
def TV.unowns : TV → TV
  | .o x => .o x.unown
  | .tup vs => .tup (vs.map T1.unown)
  | v => v
def inOneT (s : TSt) (k : Nat) (x : T1) : TSt × T1 := match x with
  | .own e t xs => match Nat.beq e objE with
    | true => match xs with
      | [x] => (s.create k (.box (t.tc x)), .c (.a (.ref 0 k 0)))
      | _ => (s, .c (.a .dead))
    | false => (s.create k (.arr false e t xs), .c (.h k))
  | x => (s, x)
def T1.kills (k : Nat) : Nat → T1 → T1
  | 0, a => a
  | n + 1, a => T1.kills (k + 1) n (a.kill k)
def inAllT (s : TSt) (k : Nat) : List T1 → TSt × List T1
  | [] => (s, [])
  | a :: r =>
    let q := inAllT s (k + 1) r
    let p := inOneT q.1 k (a.kills (k + 1) r.length)
    (p.1, p.2 :: q.2.map (T1.kill k))
def bindT (s : TSt) (d : Option Nat) (r : TV) : TSt := match d with
  | none => s
  | some k => match r with
    | .tup vs => if home k 0 + vs.length ≤ 500000 then let p := inAllT s (home k 0) vs; p.1.put (some k) (.tup p.2) else s.put (some k) (.a .dead)
    | .o x => if k < 500000 then let p := inOneT s k x; p.1.put (some k) (.o p.2) else s.put (some k) (.a .dead)
    | r => s.put (some k) r
abbrev Lend := TSt → List T1 → (TSt → TV → Prop) → Prop
abbrev Lends := FuncId → Option Lend
variable (G : Ctr) (D : Lends)
def T1.noRef : T1 → Bool
  | .c (.a (.ref ..)) => false
  | _ => true
def callT (s : TSt) (d : Option Nat) (f : FuncId) (args : List T1) (K : TSt → Prop) : Prop := match D f with
  | some L => L s args fun s1 r => K (bindT s1 d r)
  | none => if args.all T1.noRef then
    if args.all T1.noH then resAllT s args fun _ as => G f as fun r => K (bindT s d r)
    else resAllT s args fun s1 as => G f as fun r => match r.mayS with
      | false => K (bindT s d r)
      | true => brc r.hasSl (K (bindT s1 d r)) (K (bindT s d r))
  else False
def stepOpT (s : TSt) (o : Oper) (K : TSt → Prop) : Prop := match o.op with
  | .call c => match calleeT s c.callee with
    | some f => evalOsT s c.args.toList fun as => callT G D s o.dst f as K
    | none => opT P s o K
  | _ => opT P s o K
def quietT (s : TSt) (o : Oper) (K : TSt → Prop) : Prop := match o.op with
  | .call c => match calleeT s c.callee with
    | some f => evalOsT s c.args.toList fun as => resAllT s as fun _ bs => G f bs fun r =>
        if as.all T1.isVal then K (s.put o.dst r.unowns) else match r.mayS with
          | false => K (s.put o.dst r.unowns)
          | true => grd (!r.hasSl) (K (s.put o.dst r.unowns))
    | none => (match c.callee with
      | .builtin .len => opT P s o K
      | .builtin .min => opT P s o K
      | .builtin .max => opT P s o K
      | .builtin .real => opT P s o K
      | .builtin .imag => opT P s o K
      | .builtin .complex => opT P s o K
      | _ => False)
  | .convert src dst x => eval1 s x fun a => convK P s src dst a fun v => K (s.put o.dst v)
  | .build t ps => opT P s o K
  | op => pureT P s op fun v => K (s.put o.dst v)
def drawT (solo : Oper → Bool) (s : TSt) (o : Oper) (K : TSt → Prop) : Prop := match solo o with
  | true => stepOpT P G D s o K
  | false => quietT P G s o K
def guardT (ops : Array Oper) (s : TSt) (g : Option (Nat × Bool)) (K : Bool → TSt → Prop) : Prop := match g with
  | none => K true s
  | some (j, want) => match (ops[j]?).bind (·.dst) with
    | some t => match s.get t with
      | .o (.c (.a (.x (.bool b)))) => brc b (K (true == want) (s.put (some t) (TV.bool true))) (K (false == want) (s.put (some t) (TV.bool false)))
      | .o (.c (.a .und)) => K false s
      | _ => False
    | none => False
def opsT (st : TSt → Oper → (TSt → Prop) → Prop) (ops : Array Oper) : List Nat → TSt → (TSt → Prop) → Prop
  | [], s, K => K s
  | i :: r, s, K => match ops[i]? with
    | none => opsT st ops r s K
    | some o => guardT ops s o.guard fun b s1 => match b with
      | true => st s1 o fun s2 => opsT st ops r s2 K
      | false => opsT st ops r (s1.put o.dst (.a .und)) K
abbrev Piece := TSt → (AExit → TSt → Prop) → Prop
structure Known where
  solo : Oper → Bool
  ok : Array Oper → Bool
  G : Ctr
  D : Lends
  blk : Nat → Option Piece
  lab : Nat → Option Piece
def wpT (Λ : Known) : Code → TSt → (AExit → TSt → Prop) → Prop
  | .skip, s, Φ => Φ .normal s
  | .label _, s, Φ => Φ .normal s
  | .region _ ops false, s, Φ => opsT (fun s o K => stepOpT P Λ.G Λ.D s o K) ops (List.range ops.size) s fun s1 => Φ .normal s1
  | .region _ ops true, s, Φ => match Λ.ok ops with
    | true => opsT (fun s o K => drawT P Λ.G Λ.D Λ.solo s o K) ops (List.range ops.size) s fun s1 => Φ .normal s1
    | false => False
  | .seq a b, s, Φ => wpT Λ a s fun e s1 => match e with
    | .normal => wpT Λ b s1 Φ
    | .exit i => Φ (.exit i) s1
    | .goto l => Φ (.goto l) s1
    | .ret => Φ .ret s1
  | .cond c a b, s, Φ => match evalT s c with
    | some (.o (.c (.a (.x (.bool t))))) => brc t (wpT Λ a s Φ) (wpT Λ b s Φ)
    | _ => False
  | .block id c, s, Φ => match Λ.blk id with
    | some ψ => ψ s Φ
    | none => wpT Λ c s fun e s1 => match e with
      | .exit i => match i.beq id with
        | true => Φ .normal s1
        | false => Φ (.exit i) s1
      | .normal => Φ .normal s1
      | .goto l => Φ (.goto l) s1
      | .ret => Φ .ret s1
  | .loop _, _, _ => False
  | .exit id, s, Φ => Φ (.exit id) s
  | .goto l, s, Φ => Φ (.goto l) s
  | .ret, s, Φ => Φ .ret s
  | .scope c, s, Φ => wpT Λ c s fun e s1 => match e with
    | .goto l => match findLabel c l with
      | some _ => need (Λ.lab l) fun ψ => ψ s1 Φ
      | none => Φ (.goto l) s1
    | .normal => Φ .normal s1
    | .exit i => Φ (.exit i) s1
    | .ret => Φ .ret s1
  | .rangeFunc .., _, _ => False
  | .refuse _, _, _ => False
def resultOneT (s : TSt) (r : ResultVar) (K : T1 → Prop) : Prop := match r with
  | .tmp t => match s.get t with
    | .o x => K x
    | _ => False
  | .cell a t => match s.get a with
    | .o (.c (.a (.ref 0 k off))) => loadT P s t (.a (.ref 0 k off)) K
    | _ => False
def resultAllT (s : TSt) (l : List ResultVar) (K : List T1 → Prop) : Prop := match l with
  | [] => K []
  | r :: l => resultOneT P s r fun a => resultAllT s l fun b => K (a :: b)
def settleOneT (s : TSt) (x : T1) (K : TSt → T1 → Prop) : Prop := match x with
  | .agg cs => resCs s cs fun s1 l => K s1 (.agg l)
  | .c (.h k) => match lookT s.st k with
    | some (.arr false _ _ _) => K s (.c (.h k))
    | some (.arr true e t xs) => K (s.fz k) (.c (.sl e t (.mk xs)))
    | _ => False
  | .c (.a (.arr 0 k e lo n tot)) => match lookT s.st k with
    | some (.arr fz e' t xs) => brc (!fz && W.neq (W.len xs) tot && e' == e && W.neq lo 0 && W.neq n tot) (K s (.c (.h k))) (resC s (.a (.arr 0 k e lo n tot)) fun s1 c => K s1 (.c c))
    | _ => False
  | .c (.eh ..) => False
  | .own .. => False
  | x => K s x
def settleT (s : TSt) (l : List T1) (K : TSt → List T1 → Prop) : Prop := match l with
  | [] => K s []
  | x :: r => settleOneT s x fun s1 y => settleT s1 r fun s2 l => K s2 (y :: l)
def cellVT : TC → Option (Sigma VT.den)
  | .a (.x (.int k n)) => some ⟨.int k, n⟩
  | .a (.x (.bool b)) => some ⟨.bool, b⟩
  | .a (.x (.float k n)) => some ⟨.flt k, n⟩
  | .a (.x (.complex k a b)) => some ⟨.cx k, (a, b)⟩
  | .a (.str l) => some ⟨.str, l⟩
  | .sl e t x => some ⟨.slc e t, x⟩
  | _ => none
def objVT : List TC → Option (Sigma VT.den)
  | [] => some ⟨.unit, ()⟩
  | c :: r => match cellVT c, objVT r with
    | some ⟨a, x⟩, some ⟨b, y⟩ => some ⟨.pair a b, (x, y)⟩
    | _, _ => none
def outOneT (s : TSt) (used : List Nat) (x : T1) (K : List Nat → T1 → Prop) : Prop := match x with
  | .c (.h k) => match lookT s.st k with
    | some (.arr false e t xs) => match Nat.beq e objE with
      | false => if used.contains k = false then K (k :: used) (.own e t xs) else False
      | true => False
    | _ => False
  | .c (.a (.ref 0 k 0)) => match lookT s.st k with
    | some (.box cs) => match objVT cs with
      | some p => if used.contains k = false then K (k :: used) (.own objE p.1 [p.2]) else False
      | none => False
    | _ => False
  | .c (.a (.x v)) => K used x
  | .c (.a (.str l)) => K used x
  | .c (.a .nils) => K used x
  | .c (.a .cap0) => K used x
  | .c (.sl ..) => K used x
  | .agg cs => if cs.all TC.isVal then K used (.agg cs) else False
  | _ => False
def outAllT (s : TSt) (used : List Nat) (l : List T1) (K : List T1 → Prop) : Prop := match l with
  | [] => K []
  | x :: r => outOneT s used x fun u1 y => outAllT s u1 r fun l => K (y :: l)
def oneOfT : List T1 → TV
  | [v] => .o v
  | vs => .tup vs
def outT (s : TSt) (rs : List ResultVar) (K : TV → Prop) : Prop :=
  resultAllT P s rs fun l => settleT s l fun s1 l1 => outAllT s1 [] l1 fun vs => K (oneOfT vs)
def enterT (fn : Func) (args : List T1) : TSt := { slots := args.map TV.o ++ List.replicate (fn.ntmps - args.length) (.a .und), st := [] }
def endT (fn : Func) (K : TV → Prop) (e : AExit) (s : TSt) : Prop := match e with
  | .ret => outT P s fn.results.toList K
  | .normal => outT P s fn.results.toList K
  | _ => False
def wpFn (Λ : Known) (fn : Func) (args : List T1) (K : TV → Prop) : Prop := match fn.body with
  | some c => wpT P Λ c (enterT fn args) (endT P fn K)
  | none => False
def findSlot : List (Nat × TV) → Nat → TV
  | [], _ => .a .dead
  | (k, v) :: r, n => if k = n then v else findSlot r n
def mkS (n : Nat) (sl : List (Nat × TV)) (st : TStore) : TSt := { slots := (List.range n).map (findSlot sl), st := st }
def TC.okIn (S : TStore) : TC → Bool
  | .h k => (lookT S k).isSome
  | .eh k _ _ => (lookT S k).isSome
  | .a (.arr 0 k ..) => (lookT S k).isSome
  | .a (.ear 0 k ..) => (lookT S k).isSome
  | .a (.ref 0 k _) => (lookT S k).isSome
  | .a (.arr (_ + 1) ..) => false
  | .a (.ear (_ + 1) ..) => false
  | .a (.ref (_ + 1) ..) => false
  | _ => true
def T1.okIn (S : TStore) : T1 → Bool
  | .c x => x.okIn S
  | .agg cs => cs.all (TC.okIn S)
  | .own .. => false
def TV.okIn (S : TStore) : TV → Bool
  | .o x => x.okIn S
  | .tup vs => vs.all (T1.okIn S)
  | .efz .. => true
def TOb.okIn (S : TStore) : TOb → Bool
  | .box cs => cs.all (TC.okIn S)
  | .arr .. => true
  | .hb .. => true
def pickT (S : TStore) : List Nat → TStore
  | [] => []
  | k :: r => match lookT S k with
    | some o => (k, o) :: pickT S r
    | none => pickT S r
def cleanT (n : Nat) (ls ks : List Nat) (s : TSt) (K : TSt → Prop) : Prop :=
  let st := pickT s.st ks
  let sl := ls.map fun t => (t, s.get t)
  if s.slots.length = n ∧ (sl.all fun p => p.2.okIn st) ∧ (st.all fun p => p.2.okIn st) ∧ (s.st.all fun p => Nat.blt p.1 500000 || ks.contains p.1) then K (mkS n sl st) else False
end
end Go.AbsM
end

section
namespace Go.AbsM
def predM (o : Oper) : Nat := o.after.toList.foldl (fun m e => if Region.binds .any e then m ||| (1 <<< e.on) else m) 0
def candM (i : Nat) : List Nat → Nat → Nat → Nat
  | [], _, m => m
  | p :: r, j, m => candM i r (j + 1) (if j < i then m ||| (1 <<< j) else if j = i then m else if p &&& m = p then m ||| (1 <<< j) else m)
def closM (i m : Nat) : List Nat → Nat → Bool
  | [], _ => true
  | p :: r, j => (m.testBit j || j == i || (p &&& m) != p) && closM i m r (j + 1)
def commM (solo : Oper → Bool) (ops : Array Oper) (i m : Nat) : List Nat → Bool
  | [] => true
  | j :: r => (!m.testBit j || decide (j < i) || commB solo ops i j) && commM solo ops i m r
def oneM (solo : Oper → Bool) (ops : Array Oper) (ps : List Nat) (i : Nat) : Bool :=
  let m := candM i ps 0 0
  let p := ps.getD i 0
  (p &&& (2 ^ i - 1)) == p && (List.range i).all (m.testBit ·) && closM i m ps 0 && commM solo ops i m (List.range ops.size)
def allM (solo : Oper → Bool) (ops : Array Oper) (ps : List Nat) : List Nat → Bool
  | [] => true
  | i :: r => oneM solo ops ps i && allM solo ops ps r
def drawM (solo : Oper → Bool) (ops : Array Oper) : Bool := allM solo ops (ops.toList.map predM) (List.range ops.size)
theorem predM_fold (l : List Edge) (m b : Nat) : (l.foldl (fun m e => if Region.binds .any e then m ||| (1 <<< e.on) else m) m).testBit b = (m.testBit b || l.any fun e => Region.binds .any e && e.on == b) := by
  induction l generalizing m with
  | nil => simp
  | cons e r ih =>
    rw [List.foldl_cons, ih, List.any_cons]
    by_cases hb : Region.binds .any e = true
    · rw [if_pos hb, Nat.testBit_or, hb]
      have : (1 <<< e.on).testBit b = (e.on == b) := by
        rw [Nat.testBit_shiftLeft]
        by_cases h : e.on = b
        · subst h; simp
        · by_cases h2 : e.on ≤ b
          · have : b - e.on ≠ 0 := by omega
            obtain ⟨c, hc⟩ : ∃ c, b - e.on = c + 1 := ⟨b - e.on - 1, by omega⟩
            simp [hc, Nat.testBit_succ, h]
          · simp [h2, h]
      rw [this]; simp [Bool.or_assoc]
    · rw [if_neg hb]
      simp [hb]
theorem predM_bit (o : Oper) (b : Nat) : (predM o).testBit b = o.after.toList.any fun e => Region.binds .any e && e.on == b := by
  unfold predM
  rw [predM_fold]; simp
theorem sub_and {p m : Nat} (h : ∀ b, p.testBit b = true → m.testBit b = true) : p &&& m = p := by
  apply Nat.eq_of_testBit_eq
  intro b
  rw [Nat.testBit_and]
  cases hp : p.testBit b with
  | false => rfl
  | true => rw [h b hp]; rfl
theorem and_sub {p m : Nat} (h : p &&& m = p) (b : Nat) (hb : p.testBit b = true) : m.testBit b = true := by
  rw [← h, Nat.testBit_and] at hb
  simp at hb; exact hb.2
theorem closM_spec {i m : Nat} : ∀ (ps : List Nat) (j0 : Nat), closM i m ps j0 = true → ∀ (j p : Nat), ps[j]? = some p → m.testBit (j0 + j) = true ∨ j0 + j = i ∨ (p &&& m) ≠ p
  | [], _, _, j, p, hj => by simp at hj
  | q :: r, j0, h, j, p, hj => by
    simp only [closM, Bool.and_eq_true, Bool.or_eq_true, beq_iff_eq, bne_iff_ne] at h
    cases j with
    | zero =>
      simp at hj; subst hj
      rcases h.1 with (h1 | h1) | h1
      · exact .inl h1
      · exact .inr (.inl h1)
      · exact .inr (.inr h1)
    | succ j =>
      have := closM_spec r (j0 + 1) h.2 j p (by simpa using hj)
      rw [show j0 + (j + 1) = j0 + 1 + j by omega]
      exact this
theorem commM_spec {solo : Oper → Bool} {ops : Array Oper} {i m : Nat} {l : List Nat} (h : commM solo ops i m l = true) (j : Nat) (hj : j ∈ l) : m.testBit j = false ∨ j < i ∨ commB solo ops i j = true := by
  induction l with
  | nil => cases hj
  | cons a r ih =>
    simp only [commM, Bool.and_eq_true, Bool.or_eq_true, Bool.not_eq_true', decide_eq_true_eq] at h
    rcases List.mem_cons.1 hj with rfl | hj
    · rcases h.1 with (h1 | h1) | h1
      · exact .inl h1
      · exact .inr (.inl h1)
      · exact .inr (.inr h1)
    · exact ih h.2 hj
theorem allM_spec {solo : Oper → Bool} {ops : Array Oper} {ps l : List Nat} (h : allM solo ops ps l = true) (i : Nat) (hi : i ∈ l) : oneM solo ops ps i = true := by
  induction l with
  | nil => cases hi
  | cons a r ih =>
    simp only [allM, Bool.and_eq_true] at h
    rcases List.mem_cons.1 hi with rfl | hi
    · exact h.1
    · exact ih h.2 hi
section
variable {ops : Array Oper} {st : Oper → St → Option St}
def maskA (n m : Nat) : Array Bool := ((List.range n).map fun j => m.testBit j).toArray
theorem maskA_size (n m : Nat) : (maskA n m).size = n := by simp [maskA]
theorem maskA_get (n m j : Nat) (d : Bool) : (maskA n m).getD j d = if j < n then m.testBit j else d := by
  rw [Array.getD_eq_getD_getElem?]
  unfold maskA
  rw [List.getElem?_toArray, List.getElem?_map]
  by_cases h : j < n
  · rw [List.getElem?_range h]; simp [h]
  · rw [List.getElem?_eq_none (by simp; omega)]; simp [h]
theorem AnyA.lexM {solo : Oper → Bool} (hc : ∀ i j, commB solo ops i j = true → Comm (ab st ops) i j) (hB : drawM solo ops = true) : ∀ (n k : Nat) (listed : Array Bool) (s s' : St), k + n = ops.size → listed.size = ops.size →
    (∀ j, j < ops.size → listed.getD j false = decide (j < k)) → opsA st ops (List.range' k n) s = some s' → AnyA (ab st ops) ops n listed s s' := by
  intro n
  induction n with
  | zero =>
    intro k listed s s' hk hsz hl h
    simp only [List.range'_zero, opsA, Option.some.injEq] at h
    refine ⟨?_, h⟩
    cases hr : Region.ready .any ops listed with
    | nil => rfl
    | cons x xs =>
      have hx : x ∈ Region.ready .any ops listed := by rw [hr]; exact List.mem_cons_self
      obtain ⟨h1, o, ho, _⟩ := mem_ready.1 hx
      have hxs : x < ops.size := (Array.getElem?_eq_some_iff.1 ho).1
      have := hl x hxs
      rw [decide_eq_true (by omega)] at this
      have hx2 : x < listed.size := by omega
      simp [hx2] at h1 this
      rw [h1] at this; cases this
  | succ n ih =>
    intro k listed s s' hk hsz hl h
    have hks : k < ops.size := by omega
    have h1 := allM_spec hB k (List.mem_range.2 hks)
    simp only [oneM, Bool.and_eq_true, beq_iff_eq, List.all_eq_true, List.mem_range] at h1
    obtain ⟨⟨⟨q1, q2⟩, q3⟩, q4⟩ := h1
    rw [List.range'_succ, opsA_cons] at h
    cases hab : ab st ops k s with
    | none => rw [hab] at h; cases h
    | some s1 =>
      rw [hab] at h
      have hget : ∀ (j : Nat) (o : Oper), ops[j]? = some o → (ops.toList.map predM)[j]? = some (predM o) := by
        intro j o ho
        rw [List.getElem?_map, Array.getElem?_toList, ho]; rfl
      have hready : k ∈ Region.ready .any ops listed := by
        refine mem_ready.2 ⟨?_, ops[k], Array.getElem?_eq_getElem hks, fun e he hb => ?_⟩
        · have := hl k hks
          have hkl : k < listed.size := by omega
          simp [hkl] at this ⊢; exact this
        · have hp : (ops.toList.map predM).getD k 0 = predM ops[k] := by
            rw [List.getD_eq_getElem?_getD, hget k _ (Array.getElem?_eq_getElem hks)]; rfl
          rw [hp] at q1
          have hbit : (predM ops[k]).testBit e.on = true := by
            rw [predM_bit]
            exact List.any_eq_true.2 ⟨e, by simpa using he, by simp [hb]⟩
          have := and_sub q1 _ hbit
          rw [Nat.testBit_two_pow_sub_one] at this
          have hlt : e.on < k := by simpa using this
          rw [hl e.on (by omega)]; simpa using hlt
      refine AnyA.first (R := maskA ops.size (candM k (ops.toList.map predM) 0 0)) (listed0 := listed) (maskA_size _ _) (fun j hj => ?_) (fun j hj hlj => ?_) n listed s s1 s' (fun j hj => ?_) (fun j hj => hj) hready hab (ih (k + 1) _ _ _ (by omega) (by simp [hsz]) (fun j hj => ?_) h)
      · obtain ⟨r1, o, ho, r2⟩ := mem_ready.1 hj
        have hjs : j < ops.size := (Array.getElem?_eq_some_iff.1 ho).1
        rw [maskA_get, if_pos hjs] at r1
        rcases closM_spec _ 0 q3 j _ (hget j o ho) with h' | h' | h'
        · rw [Nat.zero_add] at h'; rw [h'] at r1; cases r1
        · omega
        · refine absurd (sub_and fun b hb => ?_) h'
          rw [predM_bit, List.any_eq_true] at hb
          obtain ⟨e, he, hbb⟩ := hb
          simp only [Bool.and_eq_true, beq_iff_eq] at hbb
          have := r2 e (by simpa using he) hbb.1
          rw [maskA_get] at this
          rw [hbb.2] at this
          split at this
          · exact this
          · cases this
      · rw [maskA_get] at hj
        split at hj
        · rename_i hjs
          rcases commM_spec q4 j (List.mem_range.2 hjs) with h' | h' | h'
          · rw [h'] at hj; cases hj
          · have := hl j hjs
            rw [decide_eq_true h'] at this
            have hjl : j < listed.size := by omega
            simp [hjl] at this hlj
            rw [this] at hlj; cases hlj
          · exact hc k j h'
        · cases hj
      · rw [maskA_get]
        have hjs : j < ops.size := by
          rcases Nat.lt_or_ge j listed.size with h' | h'
          · omega
          · simp [Array.getElem?_eq_none h'] at hj
        rw [if_pos hjs]
        have := hl j hjs
        rw [hj] at this
        exact q2 j (by simpa using this.symm)
      · by_cases hjk : k = j
        · subst hjk
          have hkl : k < listed.size := by omega
          simp [Array.getD, hkl]
        · rw [getD_set_ne false hjk, hl j hj]
          congr 1
          apply propext
          omega
variable {P : Program} {E : Env}
theorem draw_okM {ops : Array Oper} (h : drawM E.solo ops = true) (rec : Rec) (s s1 : St) (t : Nat) (hr : opsA (fun o s => drawOp P E rec s o) ops (List.range ops.size) s = some s1) :
    opsA (fun o s => drawOp P E rec s o) ops (Region.schedule true ops t) s = some s1 := by
  have hsch : Region.schedule true ops t = Region.linearise.go .any ops ops.size t (Array.replicate ops.size false) [] := by simp [Region.schedule, Region.linearise]
  rw [hsch]
  refine AnyA.sound _ _ _ _ _ (AnyA.lexM (solo := E.solo) (fun i j hc => ?_) h ops.size 0 _ s s1 (by omega) (by simp) (fun j hj => by simp [Array.getD, hj]) (by rw [← List.range_eq_range']; exact hr))
  unfold commB at hc
  split at hc
  · rename_i x y hi hj
    simp only [Bool.and_eq_true, Bool.not_eq_true'] at hc
    obtain ⟨⟨h1, h2⟩, h3⟩ := hc
    have dep : ∀ {o : Oper}, E.solo o = false → Dep (fun o s => drawOp P E rec s o) ops o := by
      intro o ho s s1 h
      simp only [drawOp, ho, Bool.false_eq_true, if_false] at h
      obtain ⟨v, hv, hq⟩ := quiet_dep (ops := ops) s s1 h
      exact ⟨v, hv, fun s' hs hl => by simp only [drawOp, ho, Bool.false_eq_true, if_false]; exact hq s' hs hl⟩
    exact comm_of_dep hi hj (dep h1) (dep h2) h3
  · cases hc
end
end Go.AbsM
end

section
namespace Go.AbsM
def embAux (S l : TStore) : Store := l.map fun p => (p.1, p.2.emb S)
theorem look_embAux (S l : TStore) (k : Nat) : look (embAux S l) k = (lookT l k).map (TOb.emb S) := by
  induction l with
  | nil => rfl
  | cons p r ih =>
    obtain ⟨j, o⟩ := p
    simp only [embAux, List.map_cons, look, lookT]
    by_cases h : j = k
    · simp [h]
    · rw [if_neg h, if_neg h]; exact ih
theorem getOb_emb (R : List Store) (s : TSt) (k : Nat) : getOb (s.emb R).stores 0 k = (lookT s.st k).map (TOb.emb s.st) := look_embAux s.st s.st k
theorem emb_get (R : List Store) (s : TSt) (t : Nat) : (s.emb R).get t = (s.get t).emb s.st := by
  simp only [St.get, TSt.emb, TSt.get, List.getD_eq_getElem?_getD, List.getElem?_map]
  cases s.slots[t]? <;> rfl
theorem emb_put (R : List Store) (s : TSt) (d : Option Nat) (v : TV) : (s.put d v).emb R = (s.emb R).put d (v.emb s.st) := by
  cases d with
  | none => rfl
  | some d => simp [TSt.put, St.put, TSt.emb, List.map_set]
def Alike (S S' : TStore) : Prop := ∀ k, shapeT S k = shapeT S' k
theorem Alike.tc {S S' : TStore} (h : Alike S S') (c : TC) : c.emb S = c.emb S' := by
  cases c with
  | h k => simp only [TC.emb, h k]
  | eh k j off => simp only [TC.emb, h k]
  | _ => rfl
theorem Alike.tcs {S S' : TStore} (h : Alike S S') (cs : List TC) : cs.map (TC.emb S) = cs.map (TC.emb S') := List.map_congr_left fun c _ => h.tc c
theorem Alike.t1 {S S' : TStore} (h : Alike S S') (c : T1) : c.emb S = c.emb S' := by
  cases c with
  | c x => exact h.tc x
  | agg cs => simp only [T1.emb, h.tcs cs]
  | own => rfl
theorem Alike.t1s {S S' : TStore} (h : Alike S S') (cs : List T1) : cs.map (T1.emb S) = cs.map (T1.emb S') := List.map_congr_left fun c _ => h.t1 c
theorem Alike.tv {S S' : TStore} (h : Alike S S') (c : TV) : c.emb S = c.emb S' := by
  cases c with
  | o x => exact h.t1 x
  | tup vs => simp only [TV.emb, h.t1s vs]
  | efz => rfl
theorem Alike.tvs {S S' : TStore} (h : Alike S S') (cs : List TV) : cs.map (TV.emb S) = cs.map (TV.emb S') := List.map_congr_left fun c _ => h.tv c
theorem Alike.ob {S S' : TStore} (h : Alike S S') (o : TOb) : o.emb S = o.emb S' := by
  cases o with
  | box cs => simp only [TOb.emb, h.tcs cs]
  | arr => rfl
  | hb => rfl
theorem Alike.store {S S' : TStore} (h : Alike S S') (l : TStore) : embAux S l = embAux S' l := List.map_congr_left fun p _ => by rw [h.ob]
theorem Alike.symm {S S' : TStore} (h : Alike S S') : Alike S' S := fun k => (h k).symm
theorem lookT_lay (st : TStore) (n m : Nat) (p : TOb) : lookT (layT st n p) m = if m = n then (lookT st n).map (fun _ => p) else lookT st m := by
  induction st with
  | nil => simp [layT, lookT]
  | cons x r ih =>
    obtain ⟨k, o⟩ := x
    simp only [layT]
    by_cases hk : k = n
    · subst hk
      simp only [if_pos, lookT]
      by_cases hm : m = k
      · subst hm; simp [lookT]
      · rw [if_neg (Ne.symm hm), if_neg hm, if_neg (Ne.symm hm)]
    · simp only [if_neg hk, lookT, ih]
      by_cases hm : m = n
      · subst hm; simp [hk]
      · simp [hm]
theorem lookT_drop (st : TStore) (n m : Nat) : lookT (dropT st n) m = if m = n then none else lookT st m := by
  induction st with
  | nil => simp [dropT, lookT]
  | cons x r ih =>
    obtain ⟨k, o⟩ := x
    simp only [dropT]
    by_cases hk : k = n
    · subst hk
      simp only [if_pos, ih, lookT]
      by_cases hm : m = k
      · simp [hm]
      · simp [hm, Ne.symm hm]
    · simp only [if_neg hk, lookT, ih]
      by_cases hm : m = n
      · subst hm; simp [hk]
      · simp [hm]
theorem lookT_map (f : TOb → TOb) (st : TStore) (m : Nat) : lookT (st.map fun p => (p.1, f p.2)) m = (lookT st m).map f := by
  induction st with
  | nil => rfl
  | cons x r ih =>
    obtain ⟨j, o⟩ := x
    simp only [List.map_cons, lookT, ih]
    split <;> rfl
theorem emb_lay (R : List Store) (s : TSt) (k : Nat) (o : TOb) (h : Alike s.st (layT s.st k o)) : (s.lay k o).emb R = { s.emb R with stores := setOb (s.emb R).stores 0 k (o.emb s.st) } := by
  have e : ∀ (S l : TStore), embAux S (layT l k o) = lay (embAux S l) k (o.emb S) := by
    intro S l
    induction l with
    | nil => rfl
    | cons p r ih =>
      obtain ⟨j, q⟩ := p
      simp only [layT, embAux, List.map_cons, lay]
      by_cases hj : j = k
      · simp [hj]
      · rw [if_neg hj, if_neg hj]; simp only [List.map_cons]; congr 1
  simp only [TSt.lay, TSt.emb, setOb]
  congr 1
  · exact h.symm.tvs _
  · congr 1
    show embAux _ _ = _
    rw [← h.store, e]; rfl
theorem shape_lay {st : TStore} {k : Nat} {o o' : TOb} (hl : lookT st k = some o) (h : (match o with | .arr _ e _ xs => some (e, xs.length) | _ => none) = (match o' with | .arr _ e _ xs => some (e, xs.length) | _ => (none : Option (TypeId × Nat)))) : Alike st (layT st k o') := by
  intro m
  simp only [shapeT, lookT_lay]
  by_cases hm : m = k
  · subst hm
    rw [if_pos rfl, hl]
    cases o <;> cases o' <;> exact h
  · rw [if_neg hm]
theorem emb_fz (R : List Store) (s : TSt) (k : Nat) : (s.fz k).emb R = (s.emb R).setFz 0 k := by
  unfold TSt.fz St.setFz
  rw [getOb_emb]
  cases h : lookT s.st k with
  | none => rfl
  | some o =>
    cases o with
    | box cs => rfl
    | hb t xs => rfl
    | arr f e t xs => rw [emb_lay R s k _ (shape_lay h rfl)]; rfl
theorem fz_alike (s : TSt) (k : Nat) : Alike s.st (s.fz k).st := by
  unfold TSt.fz
  split
  · rename_i h; exact shape_lay h rfl
  · exact fun _ => rfl
theorem one_val {x : AV} (h : x.isVal = true) : x.one = x := by cases x <;> first | rfl | simp [AV.isVal] at h
theorem one_cell {x : AV} (h : x.isCell = true) : x.one = x := by cases x <;> first | rfl | simp [AV.isCell] at h
theorem isVal_emb {c : TC} (h : c.isVal = true) (S S' : TStore) : c.emb S = c.emb S' := by
  cases c <;> first | rfl | simp [TC.isVal] at h
theorem nlAV_isVal {α : Type} (e : TypeId) (f : α → AV) (x : NL α) : (nlAV e f x).isVal = true := by cases x <;> rfl
theorem isVal_is {c : TC} (h : c.isVal = true) (S : TStore) : (c.emb S).isVal = true := by
  cases c with
  | a x => simp only [TC.isVal] at h; simp only [TC.emb, one_val h]; exact h
  | sl e t x => exact nlAV_isVal _ _ _
  | _ => simp [TC.isVal] at h
theorem noH_emb {c : T1} (h : c.noH = true) (S S' : TStore) : c.emb S = c.emb S' := by
  cases c with
  | c x => exact isVal_emb h S S'
  | agg cs =>
    simp only [T1.noH, List.all_eq_true] at h
    simp only [T1.emb]
    congr 1
    exact List.map_congr_left fun c hc => isVal_emb (h c hc) S S'
  | own => simp [T1.noH] at h
theorem cells_length (t : VT) (x : t.den) : (t.cells x).length = (t.tc x).length := by
  induction t with
  | pair a b ha hb => simp only [VT.cells, VT.tc, List.length_append, ha, hb]
  | _ => rfl
theorem tc_emb (t : VT) (x : t.den) (S : TStore) : (t.tc x).map (TC.emb S) = t.cells x := by
  induction t with
  | pair a b ha hb => simp only [VT.cells, VT.tc, List.map_append, ha, hb]
  | slc e t _ => rfl
  | _ => rfl
theorem tc_val (t : VT) (x : t.den) : ∀ c, c ∈ t.tc x → c.isVal = true := by
  induction t with
  | pair a b ha hb => intro c hc; simp only [VT.tc, List.mem_append] at hc; rcases hc with h | h; exact ha _ _ h; exact hb _ _ h
  | unit => intro c hc; simp [VT.tc] at hc
  | _ => intro c hc; simp only [VT.tc, List.mem_singleton] at hc; subst hc; rfl
theorem cells_one {t : VT} (h : t.isAgg = false) (x : t.den) : ∃ c, t.cells x = [c] ∧ c.isVal = true := by
  cases t with
  | unit => cases h
  | pair a b => cases h
  | slc e t => exact ⟨_, rfl, nlAV_isVal _ _ _⟩
  | _ => exact ⟨_, rfl, rfl⟩
theorem emb_cells (t : VT) (x : t.den) : (t.emb x).cells = t.cells x := by
  unfold VT.emb embOf
  cases h : t.isAgg with
  | true => rfl
  | false =>
    obtain ⟨c, hc, hv⟩ := cells_one h x
    rw [hc]
    cases c <;> first | rfl | simp [AV.isVal] at hv
theorem t1_emb (t : VT) (x : t.den) (S : TStore) : (t.t1 x).emb S = t.emb x := by
  unfold VT.t1 VT.emb embOf
  cases h : t.isAgg with
  | true => simp only [T1.emb, tc_emb]
  | false =>
    have := tc_emb t x S
    obtain ⟨c, hc, hv⟩ := cells_one h x
    rw [hc] at this ⊢
    cases ht : t.tc x with
    | nil => rw [ht] at this; cases this
    | cons a r => rw [ht] at this; simp at this; simp [T1.emb, this.1]
theorem ofC_emb {t : VT} {c : TC} {x : t.den} (S : TStore) (h : t.ofC c = some x) : t.cells x = [c.emb S] := by
  cases t with
  | slc e t =>
    cases c with
    | a y =>
      cases y <;> simp only [VT.ofC] at h <;> first | (cases h; rfl) | cases h
    | sl e' t' y =>
      simp only [VT.ofC] at h
      split at h
      · rename_i he
        split at h
        · rename_i ht
          subst he; subst ht
          cases h; rfl
        · cases h
      · cases h
    | _ => simp [VT.ofC] at h
  | unit => cases h
  | pair a b => cases h
  | _ =>
    simp only [VT.ofC] at h
    split at h
    · first
      | (split at h
         · rename_i hk; subst hk; cases h; rfl
         · cases h)
      | (cases h; rfl)
    · cases h
theorem ofTC_emb : ∀ (t : VT) (cs r : List TC) (x : t.den) (S : TStore), t.ofTC cs = some (x, r) → cs.map (TC.emb S) = t.cells x ++ r.map (TC.emb S) := by
  intro t
  induction t with
  | pair a b ha hb =>
    intro cs r x S h
    simp only [VT.ofTC] at h
    split at h
    · rename_i x1 r1 h1
      split at h
      · rename_i y r2 h2
        simp only [Option.some.injEq, Prod.mk.injEq] at h
        obtain ⟨rfl, rfl⟩ := h
        rw [ha _ _ _ S h1, hb _ _ _ S h2]
        simp [VT.cells]
      · cases h
    · cases h
  | unit =>
    intro cs r x S h
    simp only [VT.ofTC, Option.some.injEq, Prod.mk.injEq] at h
    obtain ⟨rfl, rfl⟩ := h
    rfl
  | _ =>
    intro cs r x S h
    simp only [VT.ofTC, ofHead] at h
    split at h
    · split at h
      · rename_i hx
        simp only [Option.some.injEq, Prod.mk.injEq] at h
        obtain ⟨rfl, rfl⟩ := h
        rw [ofC_emb S hx]; rfl
      · cases h
    · cases h
theorem ofT1_emb {t : VT} {x : T1} {y : t.den} (S : TStore) (h : t.ofT1 x = some y) : t.emb y = x.emb S := by
  unfold VT.ofT1 at h
  cases x with
  | c c =>
    simp only at h
    split at h
    · cases h
    · rename_i ha
      split at h
      · rename_i z hz
        simp only [Option.some.injEq] at h; subst h
        have := ofTC_emb _ _ _ _ S hz
        simp at this
        unfold VT.emb embOf
        rw [ha, ← this]; rfl
      · cases h
  | agg cs =>
    simp only at h
    split at h
    · rename_i ha
      split at h
      · rename_i z hz
        simp only [Option.some.injEq] at h; subst h
        have := ofTC_emb _ _ _ _ S hz
        simp at this
        unfold VT.emb embOf
        rw [ha, ← this]; rfl
      · cases h
    · cases h
  | own => cases h
theorem one_kill (x : AV) (k : Nat) : (x.killCell k).one = x.one.killCell k := by
  cases x with
  | arr i j e lo n tot => cases i <;> by_cases hj : j = k <;> simp [AV.killCell, AV.one, hj]
  | ref i j off => cases i <;> by_cases hj : j = k <;> simp [AV.killCell, AV.one, hj]
  | ear i j e tot m off => cases i <;> by_cases hj : j = k <;> simp [AV.killCell, AV.one, hj]
  | _ => rfl
theorem tc_kill {S S' : TStore} {k : Nat} (h : ∀ j, j ≠ k → shapeT S j = shapeT S' j) (c : TC) : (c.kill k).emb S' = (c.emb S).killCell k := by
  cases c with
  | a x => exact one_kill x k
  | sl e t x => cases x <;> rfl
  | h j =>
    simp only [TC.kill]
    by_cases hj : j = k
    · rw [if_pos hj]; simp only [TC.emb, AV.one]
      cases shapeT S j <;> simp [AV.killCell, hj]
    · rw [if_neg hj]; simp only [TC.emb, ← h j hj]
      cases shapeT S j <;> simp [AV.killCell, hj]
  | eh j m off =>
    simp only [TC.kill]
    by_cases hj : j = k
    · rw [if_pos hj]; simp only [TC.emb, AV.one]
      cases shapeT S j <;> simp [AV.killCell, hj]
    · rw [if_neg hj]; simp only [TC.emb, ← h j hj]
      cases shapeT S j <;> simp [AV.killCell, hj]
theorem tc_simple (c : TC) (S : TStore) : ((∀ cs, c.emb S ≠ .agg cs) ∧ (∀ vs, c.emb S ≠ .tup vs) ∧ (∀ e xs, c.emb S ≠ .own e xs)) := by
  cases c with
  | a x => cases x <;> exact ⟨fun _ h => (nomatch h), fun _ h => (nomatch h), fun _ _ h => (nomatch h)⟩
  | sl e t x => cases x <;> exact ⟨fun _ h => (nomatch h), fun _ h => (nomatch h), fun _ _ h => (nomatch h)⟩
  | h j => simp only [TC.emb]; split <;> exact ⟨fun _ h => (nomatch h), fun _ h => (nomatch h), fun _ _ h => (nomatch h)⟩
  | eh j m off => simp only [TC.emb]; split <;> exact ⟨fun _ h => (nomatch h), fun _ h => (nomatch h), fun _ _ h => (nomatch h)⟩
theorem kill1_simple {x : AV} (h : ∀ cs, x ≠ .agg cs) (k : Nat) : x.kill1 k = x.killCell k := by
  cases x <;> first | rfl | exact absurd rfl (h _)
theorem kill_simple {x : AV} (h : ∀ cs, x ≠ .tup cs) (k : Nat) : x.kill k = x.kill1 k := by
  cases x <;> first | rfl | exact absurd rfl (h _)
theorem t1_simple (x : T1) (S : TStore) (vs : List AV) : x.emb S ≠ .tup vs := by
  cases x with
  | c x => exact (tc_simple x S).2.1 vs
  | agg cs => simp [T1.emb]
  | own e t xs => simp [T1.emb]
theorem t1_kill {S S' : TStore} {k : Nat} (h : ∀ j, j ≠ k → shapeT S j = shapeT S' j) (c : T1) : (c.kill k).emb S' = (c.emb S).kill1 k := by
  cases c with
  | c x => show (x.kill k).emb S' = _; rw [tc_kill h, ← kill1_simple (tc_simple x S).1]; rfl
  | agg cs =>
    simp only [T1.kill, T1.emb, AV.kill1, List.map_map]
    congr 1
    exact List.map_congr_left fun c _ => tc_kill h c
  | own e t xs => rfl
theorem tv_kill {S S' : TStore} {k : Nat} (h : ∀ j, j ≠ k → shapeT S j = shapeT S' j) (c : TV) : (c.kill k).emb S' = (c.emb S).kill k := by
  cases c with
  | o x => show (x.kill k).emb S' = _; rw [t1_kill h, ← kill_simple (t1_simple x S)]; rfl
  | tup cs =>
    simp only [TV.kill, TV.emb, AV.kill, List.map_map]
    congr 1
    exact List.map_congr_left fun c _ => t1_kill h c
  | efz t x off => rfl
theorem emb_val (t : VT) (x : t.den) : (t.emb x).isVal = true ∨ ∃ cs, t.emb x = .agg cs := by
  unfold VT.emb embOf
  cases h : t.isAgg with
  | true => exact .inr ⟨_, rfl⟩
  | false =>
    obtain ⟨c, hc, hv⟩ := cells_one h x
    rw [hc]; exact .inl hv
theorem emb_killCell (t : VT) (x : t.den) (k : Nat) : (t.emb x).killCell k = t.emb x := by
  rcases emb_val t x with h | ⟨cs, h⟩
  · cases hy : t.emb x <;> rw [hy] at h <;> first | rfl | cases h
  · rw [h]; rfl
theorem ob_kill {S S' : TStore} {k : Nat} (h : ∀ j, j ≠ k → shapeT S j = shapeT S' j) (c : TOb) : (c.kill k).emb S' = (c.emb S).kill k := by
  cases c with
  | box cs =>
    simp only [TOb.kill, TOb.emb, Ob.kill, List.map_map]
    congr 1
    exact List.map_congr_left fun c _ => tc_kill h c
  | arr => rfl
  | hb t xs =>
    simp only [TOb.kill, TOb.emb, Ob.kill, List.map_map]
    congr 1
    exact List.map_congr_left fun c _ => (emb_killCell t c k).symm
theorem shape_create (s : TSt) (k : Nat) (o : TOb) (j : Nat) (hj : j ≠ k) : shapeT s.st j = shapeT (s.create k o).st j := by
  simp only [shapeT, TSt.create, lookT, if_neg (Ne.symm hj), lookT_drop, if_neg hj, killT]
  rw [lookT_map]
  cases h : lookT s.st j with
  | none => rfl
  | some q => cases q <;> rfl
theorem emb_create (R : List Store) (s : TSt) (k : Nat) (o : TOb) : (s.create k o).emb R = (s.emb R).create k (o.emb (s.create k o).st) := by
  have hsh := shape_create s k o
  have e1 : ∀ (l : TStore), embAux (s.create k o).st (dropT (killT k l) k) = drop (killStore k (embAux s.st l)) k := by
    intro l
    induction l with
    | nil => rfl
    | cons p r ih =>
      obtain ⟨j, q⟩ := p
      simp only [killT, List.map_cons, dropT, embAux, killStore, drop]
      by_cases hj : j = k
      · rw [if_pos hj, if_pos hj]; exact ih
      · rw [if_neg hj, if_neg hj]; simp only [List.map_cons]
        rw [ob_kill hsh]; congr 1
  simp only [TSt.emb, St.create, List.map_map]
  congr 1
  · simp only [TSt.create, List.map_map]
    exact List.map_congr_left fun v _ => tv_kill hsh v
  · congr 1
    show embAux _ _ = _
    have : (s.create k o).st = (k, o) :: dropT (killT k s.st) k := rfl
    conv => lhs; rw [this]
    simp only [embAux, List.map_cons]
    congr 1
    exact e1 s.st
theorem tc_stale {S S' : TStore} {k : Nat} {e : TypeId} {n : Nat} (hk : shapeT S k = some (e, n)) (h : ∀ j, j ≠ k → shapeT S j = shapeT S' j) (c : TC) : (c.stale k e n).emb S' = c.emb S := by
  cases c with
  | a x => rfl
  | sl e t x => rfl
  | h j =>
    simp only [TC.stale]
    by_cases hj : j = k
    · subst hj; rw [if_pos rfl]; simp only [TC.emb, hk, AV.one]
    · rw [if_neg hj]; simp only [TC.emb, h j hj]
  | eh j m off =>
    simp only [TC.stale]
    by_cases hj : j = k
    · subst hj; rw [if_pos rfl]; simp only [TC.emb, hk, AV.one]
    · rw [if_neg hj]; simp only [TC.emb, h j hj]
theorem t1_stale {S S' : TStore} {k : Nat} {e : TypeId} {n : Nat} (hk : shapeT S k = some (e, n)) (h : ∀ j, j ≠ k → shapeT S j = shapeT S' j) (c : T1) : (c.stale k e n).emb S' = c.emb S := by
  cases c with
  | c x => exact tc_stale hk h x
  | agg cs =>
    simp only [T1.stale, T1.emb, List.map_map]
    congr 1
    exact List.map_congr_left fun c _ => tc_stale hk h c
  | own e t xs => rfl
theorem tv_stale {S S' : TStore} {k : Nat} {e : TypeId} {n : Nat} (hk : shapeT S k = some (e, n)) (h : ∀ j, j ≠ k → shapeT S j = shapeT S' j) (c : TV) : (c.stale k e n).emb S' = c.emb S := by
  cases c with
  | o x => exact t1_stale hk h x
  | tup cs =>
    simp only [TV.stale, TV.emb, List.map_map]
    congr 1
    exact List.map_congr_left fun c _ => t1_stale hk h c
  | efz t x off => rfl
theorem ob_stale {S S' : TStore} {k : Nat} {e : TypeId} {n : Nat} (hk : shapeT S k = some (e, n)) (h : ∀ j, j ≠ k → shapeT S j = shapeT S' j) (c : TOb) : (c.stale k e n).emb S' = c.emb S := by
  cases c with
  | box cs =>
    simp only [TOb.stale, TOb.emb, List.map_map]
    congr 1
    exact List.map_congr_left fun c _ => tc_stale hk h c
  | arr => rfl
  | hb => rfl
theorem emb_grow (R : List Store) (s : TSt) (k : Nat) (e : TypeId) (n : Nat) (o : TOb) (hk : shapeT s.st k = some (e, n)) (ho : ∀ S S', o.emb S = o.emb S') :
    (s.grow k e n o).emb R = { s.emb R with stores := setOb (s.emb R).stores 0 k (o.emb s.st) } := by
  have hsh : ∀ j, j ≠ k → shapeT s.st j = shapeT (s.grow k e n o).st j := by
    intro j hj
    simp only [shapeT, TSt.grow, lookT_lay, if_neg hj]
    rw [lookT_map]
    cases h : lookT s.st j with
    | none => rfl
    | some q => cases q <;> rfl
  have e1 : ∀ (l : TStore), embAux (s.grow k e n o).st (layT (l.map fun p => (p.1, p.2.stale k e n)) k o) = lay (embAux s.st l) k (o.emb s.st) := by
    intro l
    induction l with
    | nil => rfl
    | cons p r ih =>
      obtain ⟨j, q⟩ := p
      simp only [List.map_cons, layT, embAux, lay]
      by_cases hj : j = k
      · rw [if_pos hj, if_pos hj]
        simp only [List.map_cons, List.map_map]
        rw [ho _ s.st]
        congr 1
        refine List.map_congr_left fun p _ => ?_
        simp only [Function.comp]
        rw [ob_stale hk hsh]
      · rw [if_neg hj, if_neg hj]; simp only [List.map_cons]
        rw [ob_stale hk hsh]; congr 1
  simp only [TSt.emb, setOb]
  congr 1
  · simp only [TSt.grow, List.map_map]
    exact List.map_congr_left fun v _ => tv_stale hk hsh v
  · congr 1
    exact e1 s.st
end Go.AbsM
end

section
namespace Go.AbsM
theorem need_some {α : Type} {o : Option α} {f : α → Prop} (h : need o f) : ∃ a, o = some a ∧ f a := by
  cases o with
  | none => exact h.elim
  | some a => exact ⟨a, rfl, h⟩
theorem brc_iff {t : Bool} {A B : Prop} : brc t A B ↔ (t = true → A) ∧ (t = false → B) := by
  unfold brc
  cases t <;> simp
theorem grd_iff {t : Bool} {A : Prop} : grd t A ↔ t = true ∧ A := by
  unfold grd
  cases t <;> simp
theorem brc_cases {t : Bool} {A B : Prop} (h : brc t A B) : (t = true ∧ A) ∨ (t = false ∧ B) := by
  obtain ⟨h1, h2⟩ := brc_iff.1 h
  cases t
  · exact .inr ⟨rfl, h2 rfl⟩
  · exact .inl ⟨rfl, h1 rfl⟩
section
variable {P : Program} {R : List Store} {s : TSt}
theorem constCell_one {v : Value} {a : AV} (h : constCell v = some a) : a.one = a := by
  unfold constCell at h
  split at h <;> cases h <;> rfl
theorem constCells_one : ∀ {l : List Value} {cs : List AV}, constCells l = some cs → cs.map AV.one = cs
  | [], cs, h => by simp [constCells] at h; subst h; rfl
  | v :: r, cs, h => by
    simp only [constCells] at h
    split at h
    · rename_i a l h1 h2
      simp only [Option.some.injEq] at h; subst h
      simp only [List.map_cons, constCell_one h1, constCells_one h2]
    · cases h
theorem constT_emb {v : Value} {a : AV} (h : constAV v = some a) (S : TStore) : (constT a).emb S = a := by
  unfold constAV at h
  split at h
  · simp only [Option.map_eq_some_iff] at h
    obtain ⟨cs, hc, rfl⟩ := h
    show AV.agg ((cs.map TC.a).map (TC.emb S)) = _
    rw [List.map_map]
    congr 1
    exact constCells_one hc
  · have := constCell_one h
    unfold constT
    split
    · rename_i cs; simp [AV.one] at this
    · exact this
theorem evalT_ok {o : Operand} {v : TV} (h : evalT s o = some v) : evalO (s.emb R) o = some (v.emb s.st) := by
  cases o with
  | tmp t => simp only [evalT, Option.some.injEq] at h; subst h; simp only [evalO, emb_get]
  | const c =>
    simp only [evalT, Option.map_eq_some_iff] at h
    obtain ⟨a, ha, rfl⟩ := h
    simp only [evalO, ha, constT_emb ha]
  | func f => simp only [evalT, Option.some.injEq] at h; subst h; rfl
  | _ => cases h
theorem eval1_ok {o : Operand} {K : T1 → Prop} (h : eval1 s o K) : ∃ x, evalT s o = some (.o x) ∧ evalO (s.emb R) o = some (x.emb s.st) ∧ K x := by
  unfold eval1 at h
  split at h
  · rename_i x hx; exact ⟨x, hx, evalT_ok hx, h⟩
  · exact h.elim
theorem evalA_ok {o : Operand} {K : AV → Prop} (h : evalA s o K) : ∃ x, evalO (s.emb R) o = some x.one ∧ K x := by
  unfold evalA at h
  split at h
  · rename_i x hx; exact ⟨x, evalT_ok hx, h⟩
  · exact h.elim
theorem evalI_ok {o : Operand} {K : Int → Prop} (h : evalI s o K) : ∃ k i, evalO (s.emb R) o = some (.x (.int k i)) ∧ K i := by
  unfold evalI at h
  split at h
  · rename_i k i hx; exact ⟨k, i, evalT_ok hx, h⟩
  · exact h.elim
theorem evalOsT_ok {l : List Operand} {K : List T1 → Prop} (h : evalOsT s l K) : ∃ xs, evalOs (s.emb R) l = some (xs.map (T1.emb s.st)) ∧ K xs := by
  induction l generalizing K with
  | nil => exact ⟨[], rfl, h⟩
  | cons o r ih =>
    obtain ⟨x, _, hx, h⟩ := eval1_ok (R := R) h
    obtain ⟨xs, hxs, h⟩ := ih h
    exact ⟨x :: xs, by simp only [evalOs, hx, hxs, List.map_cons], h⟩
theorem partsT_ok {l : List (Nat × Operand)} {K : List (Nat × T1) → Prop} (h : partsT s l K) : ∃ xs, partsA (s.emb R) l = some (xs.map fun p => (p.1, p.2.emb s.st)) ∧ K xs := by
  induction l generalizing K with
  | nil => exact ⟨[], rfl, h⟩
  | cons p r ih =>
    obtain ⟨i, o⟩ := p
    obtain ⟨x, _, hx, h⟩ := eval1_ok (R := R) h
    obtain ⟨xs, hxs, h⟩ := ih h
    exact ⟨(i, x) :: xs, by simp only [partsA, hx, hxs, List.map_cons], h⟩
theorem resC_ok {c : TC} {K : TSt → TC → Prop} (h : resC s c K) : ∃ s1 d, resolve1 (s.emb R) (c.emb s.st) = some (s1.emb R, d.emb []) ∧ d.isVal = true ∧ Alike s.st s1.st ∧ K s1 d := by
  unfold resC at h
  split at h
  · rename_i k
    split at h
    · rename_i f e t xs hl
      refine ⟨_, _, ?_, rfl, fz_alike s k, h⟩
      have hsh : shapeT s.st k = some (e, xs.length) := by simp only [shapeT, hl]
      simp only [TC.emb, hsh, resolve1, St.elems, getOb_emb, hl, Option.map_some, TOb.emb, List.length_map, if_true, emb_fz, nlAV, List.drop_zero]
      rw [List.take_of_length_le (by simp)]
    · exact h.elim
  · rename_i k e lo n tot
    split at h
    · rename_i f e' t xs hl
      obtain ⟨ht, h⟩ := grd_iff.1 h
      refine ⟨_, _, ?_, rfl, fz_alike s k, h⟩
      have ht : xs.length = tot := of_decide_eq_true ht
      simp only [TC.emb, AV.one, resolve1, St.elems, getOb_emb, hl, Option.map_some, TOb.emb, List.length_map, ht, if_true, emb_fz, W.take, W.drop, nlAV]
      simp [List.map_take, List.map_drop]
    · exact h.elim
  · exact ⟨s, _, rfl, rfl, fun _ => rfl, h⟩
  · exact ⟨s, _, rfl, rfl, fun _ => rfl, h⟩
  · exact ⟨s, _, rfl, rfl, fun _ => rfl, h⟩
  · exact ⟨s, _, rfl, rfl, fun _ => rfl, h⟩
  · rename_i e t x
    refine ⟨s, _, ?_, rfl, fun _ => rfl, h⟩
    cases x <;> rfl
  · exact h.elim
theorem resCs_ok {cs : List TC} {K : TSt → List TC → Prop} (h : resCs s cs K) : ∃ s1 ds, resolveL (s.emb R) (cs.map (TC.emb s.st)) = some (s1.emb R, ds.map (TC.emb [])) ∧ (∀ d, d ∈ ds → d.isVal = true) ∧ Alike s.st s1.st ∧ ds.length = cs.length ∧ K s1 ds := by
  induction cs generalizing s K with
  | nil => exact ⟨s, [], rfl, (fun d hd => by cases hd), fun _ => rfl, rfl, h⟩
  | cons c r ih =>
    obtain ⟨s1, d, h1, hv, ha, h⟩ := resC_ok (R := R) h
    obtain ⟨s2, ds, h2, hvs, ha2, hl, h⟩ := ih h
    refine ⟨s2, d :: ds, ?_, fun x hx => ?_, fun k => (ha k).trans (ha2 k), by simp [hl], h⟩
    · rw [← ha.tcs r] at h2
      simp only [List.map_cons, resolveL, h1, h2]
    · rcases List.mem_cons.1 hx with rfl | hx
      · exact hv
      · exact hvs x hx
theorem resT_ok {x : T1} {K : TSt → T1 → Prop} (h : resT s x K) : ∃ s1 d, resolve (s.emb R) (x.emb s.st) = some (s1.emb R, d.emb []) ∧ d.noH = true ∧ Alike s.st s1.st ∧ K s1 d := by
  unfold resT at h
  split at h
  · rename_i c
    obtain ⟨s1, d, h1, hv, ha, h⟩ := resC_ok (R := R) h
    refine ⟨s1, .c d, ?_, hv, ha, h⟩
    show resolve (s.emb R) (c.emb s.st) = some (s1.emb R, d.emb [])
    rw [← h1]
    unfold resolve
    split
    · rename_i cs he; exact absurd he ((tc_simple c s.st).1 cs)
    · rfl
  · rename_i cs
    obtain ⟨s1, ds, h1, hv, ha, hl, h⟩ := resCs_ok (R := R) h
    refine ⟨s1, .agg ds, ?_, List.all_eq_true.2 hv, ha, h⟩
    simp only [T1.emb, resolve, h1]
  · exact h.elim
theorem resAllT_ok {cs : List T1} {K : TSt → List T1 → Prop} (h : resAllT s cs K) : ∃ s1 ds, resolveAll (s.emb R) (cs.map (T1.emb s.st)) = some (s1.emb R, ds.map (T1.emb [])) ∧ (∀ d, d ∈ ds → d.noH = true) ∧ Alike s.st s1.st ∧ K s1 ds := by
  induction cs generalizing s K with
  | nil => exact ⟨s, [], rfl, (fun d hd => by cases hd), fun _ => rfl, h⟩
  | cons c r ih =>
    obtain ⟨s1, d, h1, hv, ha, h⟩ := resT_ok (R := R) h
    obtain ⟨s2, ds, h2, hvs, ha2, h⟩ := ih h
    refine ⟨s2, d :: ds, ?_, fun x hx => ?_, fun k => (ha k).trans (ha2 k), h⟩
    · rw [← ha.t1s r] at h2
      simp only [List.map_cons, resolveAll, h1, h2]
    · rcases List.mem_cons.1 hx with rfl | hx
      · exact hv
      · exact hvs x hx
theorem t1_cells (x : T1) (S : TStore) (h : ∀ e t xs, x ≠ .own e t xs) : (x.emb S).cells = x.cells.map (TC.emb S) := by
  cases x with
  | c x =>
    show (x.emb S).cells = _
    have := (tc_simple x S).1
    simp only [T1.cells, List.map_cons, List.map_nil]
    cases hx : x.emb S <;> first | rfl | exact absurd hx (this _)
  | agg cs => rfl
  | own e t xs => exact absurd rfl (h e t xs)
theorem partT_ok {t : TypeId} {cs : List TC} {off : Nat} {K : T1 → Prop} (S : TStore) (h : partT P t cs off K) : ∃ x, partA P t (cs.map (TC.emb S)) off = some (x.emb S) ∧ K x := by
  unfold partT at h
  unfold partA
  split at h
  · rename_i n hn ha
    obtain ⟨hc, h⟩ := grd_iff.1 h
    refine ⟨_, ?_, h⟩
    rw [hn, ha]
    simp only [List.length_map]
    rw [if_pos (by simpa using hc)]
    simp [T1.emb, List.map_take, List.map_drop]
  · rename_i n hn ha
    split at h
    · rename_i c hc
      refine ⟨_, ?_, h⟩
      rw [hn, ha]
      simp [hc, T1.emb]
    · exact h.elim
  · exact h.elim
theorem layC_ok {cs ds es : List TC} {off : Nat} (S : TStore) (h : layC cs off ds = some es) : layA (cs.map (TC.emb S)) off (ds.map (TC.emb S)) = some (es.map (TC.emb S)) := by
  unfold layC at h
  unfold layA
  split at h
  · rename_i hc
    simp only [Option.some.injEq] at h; subst h
    simp only [List.length_map]
    rw [if_pos hc]
    simp [List.map_take, List.map_drop]
  · cases h
theorem isCell_emb {c : TC} (S : TStore) (h : c.isCell S = true) : (c.emb S).isCell = true := by
  cases c with
  | a x => simp only [TC.isCell] at h; simp only [TC.emb, one_cell h]; exact h
  | sl e t x => cases x <;> rfl
  | h k =>
    simp only [TC.isCell] at h
    simp only [TC.emb]
    cases hs : shapeT S k with
    | none => rw [hs] at h; cases h
    | some p => rfl
  | eh => cases h
theorem isCells_emb {cs : List TC} (S : TStore) (h : cs.all (TC.isCell S) = true) : (cs.map (TC.emb S)).all AV.isCell = true := by
  rw [List.all_map, List.all_eq_true]
  exact fun c hc => isCell_emb S (List.all_eq_true.1 h c hc)
theorem isVals_emb {cs : List TC} (S : TStore) (h : cs.all TC.isVal = true) : (cs.map (TC.emb S)).all AV.isVal = true := by
  rw [List.all_map, List.all_eq_true]
  exact fun c hc => isVal_is (List.all_eq_true.1 h c hc) S
end
end Go.AbsM
end

section
namespace Go.AbsM
section
variable {P : Program} {R : List Store} {s : TSt}
theorem intT_ok {op : BinOp} {k : IntKind} {a b : Int} {K : AV → Prop} (h : intT op k a b K) : ∃ v : AV, intBin op k a b = some v ∧ v.one = v ∧ K v := by
  unfold intT at h
  split at h <;> first
    | exact ⟨_, rfl, rfl, h⟩
    | (rcases brc_cases h with ⟨_, h⟩ | ⟨hb, h⟩
       · exact h.elim
       · refine ⟨_, ?_, rfl, h⟩
         have hb : b ≠ 0 := by
           intro e; subst e; simp [W.ieq] at hb
         simp only [intBin, if_neg hb]; rfl)
    | exact h.elim
theorem strT_ok {op : BinOp} {a b : List UInt8} {K : AV → Prop} (h : strT op a b K) : ∃ v : AV, strBin op a b = some v ∧ v.one = v ∧ K v := by
  unfold strT at h
  split at h <;> first
    | exact ⟨_, rfl, rfl, h⟩
    | (have h : grd (W.nle (W.nadd (W.len a) (W.len b)) 9223372036854775807) (K (.str (W.app a b))) := h
       obtain ⟨hg, h⟩ := grd_iff.1 h
       refine ⟨_, ?_, rfl, h⟩
       have hg : a.length + b.length ≤ 9223372036854775807 := of_decide_eq_true hg
       simp only [strBin]
       rw [if_pos hg]; rfl)
    | exact h.elim
theorem floatBin_one {op : BinOp} {k : FloatKind} {a b : Nat} {v : AV} (h : floatBin op k a b = some v) : v.one = v := by
  unfold floatBin at h
  simp only at h
  split at h <;> first
    | (simp only [Option.map_eq_some_iff] at h; obtain ⟨r, _, rfl⟩ := h; rfl)
    | (simp only [Option.some.injEq] at h; subst h; rfl)
    | cases h
theorem complexBin_one {op : BinOp} {k : FloatKind} {a b c d : Nat} {v : AV} (h : complexBin op k a b c d = some v) : v.one = v := by
  unfold complexBin at h
  split at h
  · split at h
    · simp only [Option.some.injEq] at h; subst h; rfl
    · cases h
  · split at h
    · simp only [Option.some.injEq] at h; subst h; rfl
    · cases h
  · split at h
    · split at h
      · split at h
        · simp only [Option.some.injEq] at h; subst h; rfl
        · cases h
      · cases h
    · cases h
  · simp only [Option.some.injEq] at h; subst h; rfl
  · simp only [Option.some.injEq] at h; subst h; rfl
  · cases h
theorem binK_ok {op : BinOp} {t : TypeId} {x y : AV} {K : AV → Prop} (s : St) (h : binK P op t x y K) : ∃ v : AV, binA P s op t x.one y.one = some v ∧ v.one = v ∧ K v := by
  unfold binK at h
  split at h
  · split at h
    · rename_i k' b _ k a
      split at h
      · obtain ⟨hb, h⟩ := grd_iff.1 h
        refine ⟨_, ?_, rfl, h⟩
        simp only [AV.one, binA, shiftA]
        rw [if_neg (by simpa [W.ile] using hb)]; rfl
      · obtain ⟨hb, h⟩ := grd_iff.1 h
        refine ⟨_, ?_, rfl, h⟩
        simp only [AV.one, binA, shiftA]
        rw [if_neg (by simpa [W.ile] using hb)]; rfl
      · split at h
        · rename_i n1 n2 hk
          obtain ⟨v, h1, h2, h⟩ := intT_ok h
          refine ⟨v, ?_, h2, h⟩
          subst hk
          simp only [AV.one, binA, if_true]
          cases op <;> first | exact h1 | exact absurd rfl n1 | exact absurd rfl n2
        · exact h.elim
    · exact h.elim
  · split at h
    · split at h
      · rename_i hu
        split at h
        · exact ⟨_, by simp only [AV.one, binA, hu]; rfl, rfl, h⟩
        · exact ⟨_, by simp only [AV.one, binA, hu]; rfl, rfl, h⟩
        · exact h.elim
      · exact h.elim
    · exact h.elim
  · split at h
    · obtain ⟨v, h1, h2, h⟩ := strT_ok h
      exact ⟨v, by simp only [AV.one, binA]; exact h1, h2, h⟩
    · exact h.elim
  · split at h
    · split at h
      · rename_i hk
        subst hk
        obtain ⟨v, h1, h⟩ := need_some h
        exact ⟨v, by simp only [AV.one, binA, if_true]; exact h1, floatBin_one h1, h⟩
      · exact h.elim
    · exact h.elim
  · split at h
    · split at h
      · rename_i hk
        subst hk
        obtain ⟨v, h1, h⟩ := need_some h
        exact ⟨v, by simp only [AV.one, binA, if_true]; exact h1, complexBin_one h1, h⟩
      · exact h.elim
    · exact h.elim
  · split at h
    · split at h
      · rename_i hu
        split at h
        · exact ⟨_, by simp only [AV.one, binA, hu, isNilT]; rfl, rfl, h⟩
        · exact ⟨_, by simp only [AV.one, binA, hu, isNilT]; rfl, rfl, h⟩
        · exact h.elim
      · exact h.elim
    · exact h.elim
  · exact h.elim
theorem eqK_ok {d : Nat} (S : TStore) {K : Bool → Prop} : ∀ {fs : List Field} {xs ys : List TC}, eqK P fs xs ys K → ∃ b, eqFs P (fun t x y => eqIn P (d + 1) t x y) fs (xs.map (TC.emb S)) (ys.map (TC.emb S)) = some b ∧ K b
  | [], xs, ys, h => ⟨true, rfl, h⟩
  | f :: r, xs, ys, h => by
    unfold eqK at h
    split at h
    · exact h.elim
    · rename_i hname
      have part : ∀ {n : Nat} {zs : List TC} {v : Value}, aggT P f.type = some false → sizeT P f.type = some n → zs[f.offset]? = some (.a (.x v)) → partA P f.type (zs.map (TC.emb S)) f.offset = some (.x v) := by
        intro n zs v ha hn hz
        unfold partA
        rw [hn, ha]
        simp only [List.getElem?_map, hz, Option.map_some]
        rfl
      split at h
      · rename_i kk n k a k' b hu hn hx hy
        split at h
        · rename_i hk
          subst hk
          have ha : aggT P f.type = some false := by unfold aggT; rw [hu]
          have e1 := part ha hn hx
          have e2 := part ha hn hy
          have e3 : eqIn P (d + 1) f.type (.x (.int k a)) (.x (.int k b)) = some (a == b) := by
            simp only [eqIn, hu, if_true]
          simp only [eqFs, hname, if_false, e1, e2, e3]
          rcases brc_cases h with ⟨hb, h⟩ | ⟨hb, h⟩
          · have hb : (a == b) = true := hb
            rw [hb]; exact eqK_ok S h
          · have hb : (a == b) = false := hb
            rw [hb]; exact ⟨false, rfl, h⟩
        · exact h.elim
      · rename_i n a b hu hn hx hy
        have ha : aggT P f.type = some false := by unfold aggT; rw [hu]
        have e1 := part ha hn hx
        have e2 := part ha hn hy
        have e3 : eqIn P (d + 1) f.type (.x (.bool a)) (.x (.bool b)) = some (a == b) := by
          simp only [eqIn, hu]
        simp only [eqFs, hname, if_false, e1, e2, e3]
        rcases brc_cases h with ⟨hb, h⟩ | ⟨hb, h⟩
        · have hb : (a == b) = true := hb
          rw [hb]; exact eqK_ok S h
        · have hb : (a == b) = false := hb
          rw [hb]; exact ⟨false, rfl, h⟩
      · exact h.elim
theorem aggK_ok {op : BinOp} {t : TypeId} {xs ys : List TC} {K : AV → Prop} (s : St) (S : TStore) (h : aggK P op t xs ys K) : ∃ v : AV, binA P s op t (.agg (xs.map (TC.emb S))) (.agg (ys.map (TC.emb S))) = some v ∧ v.one = v ∧ K v := by
  unfold aggK at h
  split at h
  · rename_i fields hu
    split at h
    · exact h.elim
    · rename_i hg
      split at h
      · exact h.elim
      · rename_i hs
        have gen : ∀ d b, eqFs P (fun t x y => eqIn P d t x y) fields.toList (xs.map (TC.emb S)) (ys.map (TC.emb S)) = some b → eqIn P (d + 1) t (.agg (xs.map (TC.emb S))) (.agg (ys.map (TC.emb S))) = some b := by
          intro d b hb
          simp only [eqIn, hu]
          rw [if_neg hs]; exact hb
        have e : ∀ b, eqFs P (fun t x y => eqIn P (9998 + 1) t x y) fields.toList (xs.map (TC.emb S)) (ys.map (TC.emb S)) = some b → eqIn P 10000 t (.agg (xs.map (TC.emb S))) (.agg (ys.map (TC.emb S))) = some b := fun b hb => gen 9999 b hb
        split at h
        · obtain ⟨b, hb, hK⟩ := eqK_ok (d := 9998) S h
          refine ⟨_, ?_, rfl, hK⟩
          simp only [binA, e b hb]
          rw [if_neg hg]; rfl
        · obtain ⟨b, hb, hK⟩ := eqK_ok (d := 9998) S h
          refine ⟨_, ?_, rfl, hK⟩
          simp only [binA, e b hb]
          rw [if_neg hg]; rfl
        · exact h.elim
  · exact h.elim
theorem unK_ok {op : UnOp} {x : AV} {K : AV → Prop} (h : unK op x K) : ∃ v : AV, unA op x.one = some v ∧ v.one = v ∧ K v := by
  unfold unK at h
  split at h
  · split at h <;> first | exact ⟨_, rfl, rfl, h⟩ | exact h.elim
  · split at h <;> first | exact ⟨_, rfl, rfl, h⟩ | exact h.elim
  · split at h <;> first | exact ⟨_, rfl, rfl, h⟩ | exact h.elim
  · split at h <;> first | exact ⟨_, rfl, rfl, h⟩ | exact h.elim
  · exact h.elim
theorem avsOfBytes_u8 (l : List UInt8) : avsOfBytes l = (W.u8s l).map (VT.int .u8).emb := by
  induction l with
  | nil => rfl
  | cons b r ih => exact congrArg (AV.int .u8 b.toNat :: ·) ih
theorem bytesOf_u8 (xs : List Int) : bytesOfAVs (xs.map (VT.int .u8).emb) = some (W.b8s xs) := by
  induction xs with
  | nil => rfl
  | cons x r ih =>
    show bytesOfAVs (.x (.int .u8 x) :: r.map (VT.int .u8).emb) = _
    simp only [bytesOfAVs, ih]; rfl
theorem srcT_ok {e : TypeId} {t : VT} {x : T1} {K : List t.den → Prop} (h : srcT P s e t x K) : ∃ xs, (s.emb R).src P e (x.emb s.st) = some (xs.map t.emb) ∧ K xs := by
  unfold srcT at h
  split at h
  · exact ⟨[], rfl, h⟩
  · exact ⟨[], rfl, h⟩
  · split at h
    · rename_i l ht
      split at h
      · rename_i hc
        subst ht
        refine ⟨_, ?_, h⟩
        simp only [T1.emb, TC.emb, AV.one, St.src, hc, if_true, avsOfBytes_u8]
      · exact h.elim
    · exact h.elim
  · split at h
    · rename_i x he
      split at h
      · rename_i ht
        subst ht; subst he
        refine ⟨_, ?_, h⟩
        cases x <;> simp only [T1.emb, TC.emb, nlAV, St.src, NL.list, List.map_nil, if_true]
      · exact h.elim
    · exact h.elim
  · rename_i k
    split at h
    · rename_i f e' t' xs hl
      split at h
      · rename_i he
        split at h
        · rename_i ht
          subst ht; subst he
          refine ⟨_, ?_, h⟩
          have hsh : shapeT s.st k = some (e', xs.length) := by simp only [shapeT, hl]
          simp only [T1.emb, TC.emb, hsh, St.src, if_true, St.elems, getOb_emb, hl, Option.map_some, TOb.emb, List.length_map, List.drop_zero]
          rw [List.take_of_length_le (by simp)]
        · exact h.elim
      · exact h.elim
    · exact h.elim
  · rename_i k e' lo n tot
    split at h
    · rename_i f e2 t' xs hl
      split at h
      · rename_i he
        split at h
        · rename_i ht
          obtain ⟨hg, h⟩ := grd_iff.1 h
          have hg : xs.length = tot := of_decide_eq_true hg
          subst ht; subst he
          refine ⟨_, ?_, h⟩
          simp only [T1.emb, TC.emb, AV.one, St.src, if_true, St.elems, getOb_emb, hl, Option.map_some, TOb.emb, List.length_map, hg, W.take, W.drop, List.map_take, List.map_drop]
        · exact h.elim
      · exact h.elim
    · exact h.elim
  · exact h.elim
theorem convA_float {src dst : TypeId} {k : FloatKind} {b : Nat} {v : AV} (s : St) (h : convA P ⟨[], []⟩ src dst (.x (.float k b)) = some v) : convA P s src dst (.x (.float k b)) = some v ∧ v.one = v := by
  refine ⟨h, ?_⟩
  unfold convA at h
  simp only at h
  split at h
  · split at h
    · split at h
      · simp only [Option.some.injEq] at h; subst h; rfl
      · cases h
    · cases h
  · split at h
    · simp only [Option.some.injEq] at h; subst h; rfl
    · cases h
  · cases h
theorem convA_slice {src dst e : TypeId} {a : AV} (s : St) (h1 : ∀ v, a ≠ .x v) (h2 : ∀ l, a ≠ .str l) (hs : P.underlying src = some (.slice e)) (hd : P.underlying dst = some .string) (he : P.underlying e = some (.int .u8)) {xs : List Int} (hx : s.src P e a = some (xs.map (VT.int .u8).emb)) :
    convA P s src dst a = some (.str (W.b8s xs)) := by
  cases a <;> first | exact absurd rfl (h1 _) | exact absurd rfl (h2 _) | simp only [convA, hs, hd, he, hx, bytesOf_u8, Option.map_some]
theorem convK_ok {src dst : TypeId} {x : T1} {K : TV → Prop} (h : convK P s src dst x K) : ∃ v : TV, convA P (s.emb R) src dst (x.emb s.st) = some (v.emb s.st) ∧ K v := by
  unfold convK at h
  split at h
  · split at h
    · rename_i h1 h2
      exact ⟨_, by simp only [T1.emb, TC.emb, AV.one, convA, h1, h2]; rfl, h⟩
    · rename_i h1 h2
      exact ⟨_, by simp only [T1.emb, TC.emb, AV.one, convA, h1, h2]; rfl, h⟩
    · exact h.elim
  · obtain ⟨v, h1, h⟩ := need_some h
    obtain ⟨h2, h3⟩ := convA_float (s.emb R) h1
    refine ⟨_, ?_, h⟩
    show convA P (s.emb R) src dst _ = some v.one
    rw [h3]; exact h2
  · split at h
    · rename_i h1 h2
      exact ⟨_, by simp only [T1.emb, TC.emb, AV.one, convA, h1, h2]; rfl, h⟩
    · exact h.elim
  · rename_i n1 n2 n3
    split at h
    · rename_i e hs hd
      split at h
      · rename_i he
        obtain ⟨xs, hx, h⟩ := srcT_ok (R := R) h
        refine ⟨.a (.str (W.b8s xs)), convA_slice (s.emb R) ?_ ?_ hs hd he hx, h⟩
        · intro v hv
          rw [hv] at hx
          simp [St.src] at hx
        · intro l hl
          cases x with
          | c c =>
            cases c with
            | a y =>
              have hl : y.one = .str l := hl
              cases y <;> simp only [AV.one] at hl <;> first | exact (n3 _ rfl).elim | cases hl
            | sl e t y => cases y <;> cases hl
            | h j => simp only [T1.emb, TC.emb] at hl; split at hl <;> cases hl
            | eh j m off => simp only [T1.emb, TC.emb] at hl; split at hl <;> cases hl
          | agg cs => cases hl
          | own e t xs => cases hl
      · exact h.elim
    · exact h.elim
theorem convertT_ok {d : Option Nat} {src dst : TypeId} {x : T1} {K : TSt → Prop} (h : convertT P s d src dst x K) : ∃ s1, convertA P (s.emb R) d src dst (x.emb s.st) = some (s1.emb R) ∧ K s1 := by
  unfold convertT at h
  split at h
  · rename_i e hs hd
    split at h
    · rename_i l he
      split at h
      · rename_i hc
        obtain ⟨hg, h⟩ := grd_iff.1 h
        refine ⟨_, ?_, h⟩
        have hnone : convA P (s.emb R) src dst (.str l) = none := by simp [convA, hs, hd]
        simp only [T1.emb, TC.emb, AV.one, convertA, hnone, hs, hd, he]
        rw [if_pos ⟨of_decide_eq_true hg, hc⟩, emb_put, avsOfBytes_u8]; rfl
      · exact h.elim
    · exact h.elim
  · obtain ⟨v, h1, h⟩ := convK_ok (R := R) h
    exact ⟨_, by simp only [convertA, h1, emb_put], h⟩
theorem boundK_ok {dflt most : Nat} {o : Option Operand} {K : Nat → Prop} (h : boundK s dflt most o K) : ∃ n, boundA (s.emb R) dflt most o = some n ∧ K n := by
  unfold boundK at h
  split at h
  · exact ⟨_, rfl, h⟩
  · obtain ⟨k, i, he, h⟩ := evalI_ok (R := R) h
    obtain ⟨h1, h⟩ := grd_iff.1 h
    obtain ⟨h2, h⟩ := grd_iff.1 h
    refine ⟨_, ?_, h⟩
    simp only [boundA, he]
    rw [if_pos ⟨of_decide_eq_true h1, of_decide_eq_true h2⟩]; rfl
theorem cut_emb {α : Type} (e : TypeId) (f : α → AV) (h b : Nat) (x : NL α) : nlAV e f (x.cut h b) = match x with | .nil => .nils | .cap0 => .cap0 | .mk l => .sl e (((l.map f).take h).drop b) := by
  cases x with
  | mk l => simp [NL.cut, nlAV, W.take, W.drop, List.map_take, List.map_drop]
  | _ => rfl
theorem sliceT_ok {t : TypeId} {x : T1} {lo hi : Option Operand} {K : TV → Prop} (h : sliceT P s t x lo hi K) : ∃ v : TV, sliceA P (s.emb R) t (x.emb s.st) lo hi none = some (v.emb s.st) ∧ K v := by
  unfold sliceT at h
  split at h
  · rename_i hu
    split at h
    · obtain ⟨a, ha, h⟩ := boundK_ok (R := R) h
      obtain ⟨b, hb, h⟩ := boundK_ok (R := R) h
      have ha : boundA (s.emb R) (List.length _) (List.length _) hi = some a := ha
      exact ⟨_, by simp only [T1.emb, TC.emb, AV.one, sliceA, hu, ha, hb]; rfl, h⟩
    · exact h.elim
  · rename_i e hu
    split at h
    · exact h.elim
    · rename_i n hn
      split at h
      · rename_i e' t' x
        split at h
        · rename_i he
          subst he
          obtain ⟨a, ha, h⟩ := boundK_ok (R := R) h
          obtain ⟨b, hb, h⟩ := boundK_ok (R := R) h
          refine ⟨_, ?_, h⟩
          cases x with
          | nil => have ha : boundA (s.emb R) 0 0 hi = some a := ha; simp only [T1.emb, TC.emb, nlAV, sliceA, hu, hn, ha, hb]; rfl
          | cap0 => have ha : boundA (s.emb R) 0 0 hi = some a := ha; simp only [T1.emb, TC.emb, nlAV, sliceA, hu, hn, ha, hb]; rfl
          | mk l =>
            have ha : boundA (s.emb R) l.length l.length hi = some a := ha
            simp only [T1.emb, TC.emb, nlAV, sliceA, hu, hn, List.length_map, ha, hb, if_true]
            simp [TV.emb, T1.emb, TC.emb, cut_emb]
        · exact h.elim
      · obtain ⟨a, ha, h⟩ := boundK_ok (R := R) h
        obtain ⟨b, hb, h⟩ := boundK_ok (R := R) h
        exact ⟨_, by simp only [T1.emb, TC.emb, AV.one, sliceA, hu, hn, ha, hb]; rfl, h⟩
      · obtain ⟨a, ha, h⟩ := boundK_ok (R := R) h
        obtain ⟨b, hb, h⟩ := boundK_ok (R := R) h
        exact ⟨_, by simp only [T1.emb, TC.emb, AV.one, sliceA, hu, hn, ha, hb]; rfl, h⟩
      · rename_i k
        split at h
        · rename_i f e' t' xs hl
          split at h
          · rename_i he
            subst he
            obtain ⟨a, ha, h⟩ := boundK_ok (R := R) h
            obtain ⟨b, hb, h⟩ := boundK_ok (R := R) h
            have ha : boundA (s.emb R) xs.length xs.length hi = some a := ha
            have hsh : shapeT s.st k = some (e', xs.length) := by simp only [shapeT, hl]
            refine ⟨_, ?_, h⟩
            simp only [T1.emb, TC.emb, hsh, sliceA, hu, hn, if_true, St.elems, getOb_emb, hl, Option.map_some, TOb.emb, List.length_map, ha, hb, Nat.zero_add]; rfl
          · exact h.elim
        · exact h.elim
      · rename_i k e' lo' m tot
        split at h
        · rename_i f e2 t' xs hl
          split at h
          · rename_i he
            subst he
            obtain ⟨hg, h⟩ := grd_iff.1 h
            have hg : xs.length = tot := of_decide_eq_true hg
            obtain ⟨a, ha, h⟩ := boundK_ok (R := R) h
            obtain ⟨b, hb, h⟩ := boundK_ok (R := R) h
            refine ⟨_, ?_, h⟩
            simp only [T1.emb, TC.emb, AV.one, sliceA, hu, hn, if_true, St.elems, getOb_emb, hl, Option.map_some, TOb.emb, List.length_map, hg, ha, hb]; rfl
          · exact h.elim
        · exact h.elim
      · exact h.elim
  · exact h.elim
theorem lenT_ok {t : TypeId} {x : T1} {K : Nat → Prop} (h : lenT P s t x K) : ∃ n, lenOfA P (s.emb R) t (x.emb s.st) = some n ∧ K n := by
  unfold lenT at h
  split at h
  · rename_i hu
    split at h
    · exact ⟨_, by simp only [T1.emb, TC.emb, AV.one, lenOfA, hu]; rfl, h⟩
    · exact h.elim
  · rename_i hu
    split at h
    · exact ⟨_, by simp only [T1.emb, TC.emb, AV.one, lenOfA, hu], h⟩
    · exact ⟨_, by simp only [T1.emb, TC.emb, AV.one, lenOfA, hu], h⟩
    · rename_i x
      refine ⟨_, ?_, h⟩
      cases x <;> simp only [T1.emb, TC.emb, nlAV, lenOfA, hu, List.length_map] <;> rfl
    · rename_i k
      split at h
      · rename_i f e' t' xs hl
        have hsh : shapeT s.st k = some (e', xs.length) := by simp only [shapeT, hl]
        exact ⟨_, by simp only [T1.emb, TC.emb, hsh, lenOfA, hu, St.elems, getOb_emb, hl, Option.map_some, TOb.emb, List.length_map, if_true]; rfl, h⟩
      · exact h.elim
    · rename_i k e lo n tot
      split at h
      · rename_i f e' t' xs hl
        obtain ⟨hg, h⟩ := grd_iff.1 h
        have hg : xs.length = tot := of_decide_eq_true hg
        exact ⟨_, by simp only [T1.emb, TC.emb, AV.one, lenOfA, hu, St.elems, getOb_emb, hl, Option.map_some, TOb.emb, List.length_map, hg, if_true], h⟩
      · exact h.elim
    · exact h.elim
  · rename_i hu
    exact ⟨_, by simp only [lenOfA, hu], h⟩
  · exact h.elim
end
end Go.AbsM
end

section
namespace Go.AbsM
section
variable {P : Program} {R : List Store} {s : TSt}
theorem cells_notown {x : T1} {S : TStore} (h : x.cells.all (TC.isCell S) = true) : ∀ e t xs, x ≠ .own e t xs := by
  intro e t xs hx; subst hx; simp [T1.cells, TC.isCell] at h
theorem boxT_ok {d : Option Nat} {e : TypeId} {x : T1} {K : TSt → Prop} (h : boxT P s d e x K) : ∃ s1, boxA P (s.emb R) d e (x.emb s.st) = some (s1.emb R) ∧ K s1 := by
  unfold boxT at h
  split at h
  · rename_i k n hn
    split at h
    · rename_i hc
      refine ⟨_, ?_, h⟩
      have hx := t1_cells x s.st (cells_notown hc.1.2)
      simp only [boxA, hn, hx, List.length_map]
      rw [if_pos ⟨⟨hc.1.1, isCells_emb _ hc.1.2⟩, hc.2⟩, emb_put, emb_create]
      congr 3
      simp only [TOb.emb, List.map_map]
      congr 1
      refine List.map_congr_left fun c _ => ?_
      exact (tc_kill (shape_create s k _) c).symm
    · exact h.elim
  · exact h.elim
theorem fillT_ok {place : Nat → Option (Nat × Nat)} {S : TStore} : ∀ {l : List (Nat × T1)} {cells cs : List TC}, fillT S place cells l = some cs → fillA place (cells.map (TC.emb S)) (l.map fun p => (p.1, p.2.emb S)) = some (cs.map (TC.emb S)) := by
  intro l
  induction l with
  | nil => intro cells cs h; simp only [fillT, Option.some.injEq] at h; subst h; rfl
  | cons p r ih =>
    intro cells cs h
    obtain ⟨i, v⟩ := p
    simp only [fillT] at h
    simp only [List.map_cons, fillA]
    cases hp : place i with
    | none => rw [hp] at h; cases h
    | some q =>
      obtain ⟨off, size⟩ := q
      rw [hp] at h
      simp only at h ⊢
      split at h
      · rename_i hc
        have hx := t1_cells v S (cells_notown hc.2)
        rw [hx]
        rw [if_pos ⟨by simpa using hc.1, isCells_emb _ hc.2⟩]
        split at h
        · rename_i cs' hl
          rw [layC_ok S hl]
          exact ih h
        · cases h
      · cases h
theorem constCells_cells {z : AV} {t : TypeId} (h : zeroT P t = some z) (S : TStore) : (z.cells.map TC.a).map (TC.emb S) = z.cells := by
  have hz : ∃ v, constAV v = some z := by
    unfold zeroT at h
    cases hi : (P.info? t).bind (·.zero) with
    | none => rw [hi] at h; cases h
    | some v => rw [hi] at h; exact ⟨v, h⟩
  obtain ⟨v, hv⟩ := hz
  rw [List.map_map]
  unfold constAV at hv
  split at hv
  · simp only [Option.map_eq_some_iff] at hv
    obtain ⟨cs, hc, rfl⟩ := hv
    exact constCells_one hc
  · have := constCell_one hv
    cases z <;> first | (simp only [AV.cells, List.map_cons, List.map_nil]; exact congrArg (fun q => [q]) this) | (simp [AV.one] at this)
theorem buildT_ok {d : Option Nat} {t : TypeId} {l : List (Nat × T1)} {K : TSt → Prop} (h : buildT P s d t l K) : ∃ s1, buildA P (s.emb R) d t (l.map fun p => (p.1, p.2.emb s.st)) = some (s1.emb R) ∧ K s1 := by
  unfold buildT at h
  split at h
  · rename_i z fields hz hu
    split at h
    · rename_i places hp
      obtain ⟨cs, hf, h⟩ := need_some h
      refine ⟨_, ?_, h⟩
      have := fillT_ok hf
      rw [constCells_cells hz] at this
      simp only [buildA, hz, hu, hp, this, emb_put]; rfl
    · exact h.elim
  · rename_i z n e hz hu
    split at h
    · rename_i m hm
      obtain ⟨cs, hf, h⟩ := need_some h
      refine ⟨_, ?_, h⟩
      have := fillT_ok hf
      rw [constCells_cells hz] at this
      simp only [buildA, hz, hu, hm, this, emb_put]; rfl
    · exact h.elim
  · exact h.elim
theorem freshT_ok {d : Option Nat} {e : TypeId} {t : VT} {xs : List t.den} {K : TSt → Prop} (h : freshT s d e t xs K) : ∃ s1, (s.emb R).fresh d e (xs.map t.emb) = some (s1.emb R) ∧ K s1 := by
  unfold freshT at h
  split at h
  · rename_i k
    split at h
    case isFalse => exact h.elim
    rename_i hk
    refine ⟨_, ?_, h⟩
    simp only [St.fresh, if_pos hk, emb_put, emb_create, TOb.emb, List.length_map]
    congr 2
    simp [TV.emb, T1.emb, TC.emb, shapeT, TSt.create, lookT]
  · exact h.elim
theorem chunksT_ok {vt : VT} {es : Nat} (he : vt.isAgg = false → es = 1) (S : TStore) : ∀ {n : Nat} {cs : List TC} {xs : List vt.den}, chunksT vt es n cs = some xs → chunksA vt.isAgg es n (cs.map (TC.emb S)) = some (xs.map vt.emb) := by
  intro n
  induction n with
  | zero => intro cs xs h; simp only [chunksT, Option.some.injEq] at h; subst h; rfl
  | succ n ih =>
    intro cs xs h
    simp only [chunksT] at h
    split at h
    · rename_i r hr
      split at h
      · rename_i x hx
        simp only [Option.some.injEq] at h; subst h
        have h1 := ih hr
        have h2 := ofTC_emb _ _ _ _ S hx
        simp only [List.map_nil, List.append_nil] at h2
        rw [List.map_drop] at h1
        simp only [chunksA, h1, List.map_cons]
        cases ha : vt.isAgg with
        | true =>
          simp only [if_true]
          rw [← List.map_take, h2]
          simp only [VT.emb, embOf, ha]
        | false =>
          have he := he ha
          subst he
          simp only [Bool.false_eq_true, if_false, if_true]
          obtain ⟨c, hc, _⟩ := cells_one ha x
          cases cs with
          | nil => simp [hc] at h2
          | cons a r => simp [hc] at h2; simp [VT.emb, embOf, ha, hc, h2]
      · cases h
    · cases h
theorem zip_snd (l : List (Nat × T1)) (vs : List T1) (S : TStore) : ((l.map fun p => (p.1, p.2.emb S)).map (·.1)).zip (vs.map (T1.emb S)) = ((l.map (·.1)).zip vs).map fun p => (p.1, p.2.emb S) := by
  rw [List.map_map]
  show (l.map (·.1)).zip _ = _
  rw [List.zip_map_right]
  rfl
theorem buildSliceT_ok {d : Option Nat} {t : TypeId} {len : Nat} {l : List (Nat × T1)} {K : TSt → Prop} (h : buildSliceT P s d t len l K) : ∃ s1, buildSliceA P (s.emb R) d t len (l.map fun p => (p.1, p.2.emb s.st)) = some (s1.emb R) ∧ K s1 := by
  unfold buildSliceT at h
  split at h
  · rename_i e he
    split at h
    · rename_i n z vt hn hz hv
      split at h
      · exact h.elim
      · rename_i hno
        simp only [not_or, Decidable.not_not] at hno
        obtain ⟨m1, m2, m3, m4, m5⟩ := hno
        obtain ⟨s1, vs, hr, hvs, hal, h⟩ := resAllT_ok (R := R) h
        obtain ⟨cs, hf, h⟩ := need_some h
        split at h
        · rename_i hcs
          obtain ⟨xs, hx, h⟩ := need_some h
          obtain ⟨s2, h2, h⟩ := freshT_ok (R := R) h
          refine ⟨s2, ?_, h⟩
          have hl : (l.map fun p => (p.1, p.2.emb s.st)).map (·.2) = (l.map (·.2)).map (T1.emb s.st) := by simp only [List.map_map]; rfl
          have hvs' : vs.map (T1.emb []) = vs.map (T1.emb s1.st) := List.map_congr_left fun v hv' => noH_emb (hvs v hv') _ _
          have hz' : ((List.replicate len (z.cells.map TC.a)).flatten).map (TC.emb s1.st) = (List.replicate len z.cells).flatten := by
            rw [List.map_flatten, List.map_replicate, constCells_cells hz]
          have hf' := fillT_ok hf
          rw [hz', ← zip_snd l vs s1.st] at hf'
          have hz2 : ((l.map fun p => (p.1, p.2.emb s.st)).map (·.1)) = ((l.map fun p => (p.1, p.2.emb s1.st)).map (·.1)) := by simp only [List.map_map]; rfl
          simp only [buildSliceA, he, hl, hr, hvs', hn, hz]
          rw [if_neg (by simp only [not_or]; exact ⟨m1, m2, by simpa using m3⟩), hz2, hf']
          simp only
          rw [if_pos (isVals_emb _ hcs), m4]
          simp only [Option.bind_some]
          rw [chunksT_ok (fun ha => Classical.byContradiction fun hn => m5 ⟨ha, hn⟩) s1.st hx]
          exact h2
        · exact h.elim
    · exact h.elim
  · exact h.elim
theorem zvT_ok {e : TypeId} {vt : VT} {x : vt.den} {z : AV} (hz : zeroT P e = some z) (h : zvT P e vt = some x) : vt.emb x = z := by
  unfold zvT at h
  rw [hz] at h
  simp only at h
  split at h
  · rename_i y hy
    rw [ofT1_emb [] h]
    have : ∃ v, constAV v = some z := by
      unfold zeroT at hz
      cases hi : (P.info? e).bind (·.zero) with
      | none => rw [hi] at hz; cases hz
      | some v => rw [hi] at hz; exact ⟨v, hz⟩
    obtain ⟨v, hv⟩ := this
    have := constT_emb hv []
    rw [hy] at this
    exact this
  · cases h
theorem makeT_ok {d : Option Nat} {t : TypeId} {l c : Int} {K : TSt → Prop} (h : makeT P s d t l c K) : ∃ s1, makeA P (s.emb R) d t l c = some (s1.emb R) ∧ K s1 := by
  unfold makeT at h
  split at h
  · exact h.elim
  · rename_i e he
    split at h
    · rename_i n by_ z vt hn hb hz hv
      split at h
      · rename_i hc
        obtain ⟨x, hx, h⟩ := need_some h
        obtain ⟨g1, h⟩ := grd_iff.1 h
        obtain ⟨g2, h⟩ := grd_iff.1 h
        obtain ⟨g3, h⟩ := grd_iff.1 h
        obtain ⟨g4, h⟩ := grd_iff.1 h
        obtain ⟨s1, h1, h⟩ := freshT_ok (R := R) h
        refine ⟨s1, ?_, h⟩
        simp only [makeA, he, hn, hb, hz]
        rw [if_pos ⟨of_decide_eq_true g1, of_decide_eq_true g2, of_decide_eq_true g3, of_decide_eq_true g4, hc.1, hc.2.1, hc.2.2⟩]
        have : (W.rep (W.toNat l) x).map vt.emb = List.replicate l.toNat z := by
          simp [W.rep, W.toNat, zvT_ok hz hx]
        rw [← this]; exact h1
      · exact h.elim
    · exact h.elim
theorem shift0 (x : AV) : x.shift 0 = x := by cases x <;> rfl
theorem shiftCells0 (x : AV) : shiftCells 0 x = x := by
  cases x with
  | agg cs =>
    show AV.agg (cs.map (AV.shift 0)) = _
    congr 1
    have : (AV.shift 0) = id := funext shift0
    rw [this, List.map_id]
  | _ => first | rfl | exact shift0 _
theorem nth_emb {vt : VT} (xs : List vt.den) (j : Nat) (h : j < xs.length) : (xs.map vt.emb)[j]? = some (vt.emb (W.nth xs j vt.dflt)) := by
  rw [List.getElem?_map, List.getElem?_eq_getElem h]
  simp [W.nth, List.getD_eq_getElem?_getD, List.getElem?_eq_getElem h]
theorem loadT_ok {t : TypeId} {p : TV} {K : T1 → Prop} (h : loadT P s t p K) : ∃ x, loadA P (s.emb R) t (p.emb s.st) = some (x.emb s.st) ∧ K x := by
  unfold loadT at h
  split at h
  · rename_i k off
    split at h
    · rename_i cs hl
      obtain ⟨x, hx, h⟩ := partT_ok s.st h
      refine ⟨x, ?_, h⟩
      simp only [TV.emb, T1.emb, TC.emb, AV.one, loadA, getOb_emb, hl, Option.map_some, TOb.emb, hx, shiftCells0]
    · rename_i vt xs hl
      split at h
      · rename_i n hn ha
        obtain ⟨hg, h⟩ := grd_iff.1 h
        have hg : off < xs.length := of_decide_eq_true hg
        refine ⟨_, ?_, h⟩
        rw [t1_emb]
        show loadA P (s.emb R) t (.ref 0 k off) = _
        simp only [loadA, getOb_emb, hl, Option.map_some, TOb.emb, partA, hn, ha, nth_emb xs off hg, shiftCells0]
      · exact h.elim
    · exact h.elim
  · rename_i vt x off
    obtain ⟨y, hy, h⟩ := partT_ok s.st h
    refine ⟨y, ?_, h⟩
    rw [tc_emb] at hy
    exact hy
  · rename_i k j off
    split at h
    · rename_i f e vt xs hl
      obtain ⟨hg, h⟩ := grd_iff.1 h
      have hg : j < xs.length := of_decide_eq_true hg
      obtain ⟨y, hy, h⟩ := partT_ok s.st h
      refine ⟨y, ?_, h⟩
      rw [tc_emb, ← emb_cells] at hy
      have hsh : shapeT s.st k = some (e, xs.length) := by simp only [shapeT, hl]
      simp only [TV.emb, T1.emb, TC.emb, hsh, loadA, getOb_emb, hl, Option.map_some, TOb.emb, List.length_map, if_true, nth_emb xs j hg]
      exact hy
    · exact h.elim
  · rename_i k e' tot j off
    split at h
    · rename_i f e vt xs hl
      obtain ⟨ht, h⟩ := grd_iff.1 h
      have ht : xs.length = tot := of_decide_eq_true ht
      obtain ⟨hg, h⟩ := grd_iff.1 h
      have hg : j < xs.length := of_decide_eq_true hg
      obtain ⟨y, hy, h⟩ := partT_ok s.st h
      refine ⟨y, ?_, h⟩
      rw [tc_emb, ← emb_cells] at hy
      simp only [TV.emb, T1.emb, TC.emb, AV.one, loadA, getOb_emb, hl, Option.map_some, TOb.emb, List.length_map, ht, if_true, nth_emb xs j hg]
      exact hy
    · exact h.elim
  · exact h.elim
theorem storeE_ok {d : Option Nat} {k j off : Nat} {e : TypeId} {tot n : Nat} {t : TypeId} {v : T1} {K : TSt → Prop} (hn : sizeT P t = some n) (hv : v.cells.length = n ∧ v.cells.all (TC.isCell s.st) = true) (hsh : shapeT s.st k = some (e, tot)) (h : storeE P s d k j off v.cells K) :
    ∃ s1, storeA P (s.emb R) d t (.ear 0 k e tot j off) (v.emb s.st) = some (s1.emb R) ∧ K s1 := by
  unfold storeE at h
  obtain ⟨s1, vs, h1, hvs, hal, hlen, h⟩ := resCs_ok (R := R) h
  split at h
  · rename_i e' vt xs hl
    split at h
    · rename_i ha
      obtain ⟨hg, h⟩ := grd_iff.1 h
      have hg : j < xs.length := of_decide_eq_true hg
      obtain ⟨ds, hds, h⟩ := need_some h
      split at h
      · rename_i x hx
        have hsh1 : shapeT s1.st k = some (e', xs.length) := by simp only [shapeT, hl]
        rw [← hal k, hsh] at hsh1
        simp only [Option.some.injEq, Prod.mk.injEq] at hsh1
        obtain ⟨rfl, rfl⟩ := hsh1
        refine ⟨_, ?_, h⟩
        have hc := t1_cells v s.st (cells_notown hv.2)
        have hlay := layC_ok s1.st hds
        rw [tc_emb, ← emb_cells] at hlay
        have hvv : vs.map (TC.emb []) = vs.map (TC.emb s1.st) := List.map_congr_left fun c hc => isVal_emb (hvs c hc) _ _
        have hdd := ofTC_emb _ _ _ _ s1.st hx
        simp only [List.map_nil, List.append_nil] at hdd
        simp only [storeA, hn, hc]
        rw [if_pos ⟨by simpa using hv.1, isCells_emb _ hv.2⟩, h1]
        simp only [getOb_emb, hl, Option.map_some, TOb.emb, List.length_map, and_self, if_true, nth_emb xs j hg, hvv, hlay, ha]
        have hfin : ∀ y, vt.emb x = y → (St.put { s1.emb R with stores := setOb (s1.emb R).stores 0 k (.arr false e ((xs.map vt.emb).set j y)) } d .und) = ((s1.lay k (.arr false e vt (W.upd xs j x))).put d (.a .und)).emb R := by
          intro y hy
          rw [emb_put, emb_lay _ _ _ _ (shape_lay hl (by simp [W.upd]))]
          simp only [TOb.emb, W.upd, List.map_set, hy]; rfl
        cases hag : vt.isAgg with
        | true =>
          simp only []
          rw [hfin _ (by simp only [VT.emb, embOf, hag, hdd])]
        | false =>
          obtain ⟨c, hcc, _⟩ := cells_one hag x
          rw [hdd, hcc]
          simp only []
          rw [hfin _ (by simp only [VT.emb, embOf, hag, hcc, List.headD_cons])]
      · exact h.elim
    · exact h.elim
  · exact h.elim
theorem storeT_ok {d : Option Nat} {t : TypeId} {p : TV} {v : T1} {K : TSt → Prop} (h : storeT P s d t p v K) : ∃ s1, storeA P (s.emb R) d t (p.emb s.st) (v.emb s.st) = some (s1.emb R) ∧ K s1 := by
  unfold storeT at h
  split at h
  · exact h.elim
  · rename_i n hn
    split at h
    · rename_i hv
      split at h
      · rename_i k off
        split at h
        · rename_i cs hl
          obtain ⟨ds, hds, h⟩ := need_some h
          refine ⟨_, ?_, h⟩
          have hc := t1_cells v s.st (cells_notown hv.2)
          show storeA P (s.emb R) d t (.ref 0 k off) (v.emb s.st) = _
          simp only [storeA, hn, hc]
          rw [if_pos ⟨by simpa using hv.1, isCells_emb _ hv.2⟩]
          simp only [getOb_emb, hl, Option.map_some, TOb.emb, layC_ok s.st hds]
          rw [emb_put, emb_lay _ _ _ _ (shape_lay hl rfl)]; rfl
        · rename_i vt xs hl
          split at h
          · rename_i hag
            obtain ⟨x, hx, h⟩ := need_some h
            obtain ⟨hg, h⟩ := grd_iff.1 h
            have hg : off < xs.length := of_decide_eq_true hg
            refine ⟨_, ?_, h⟩
            have hc := t1_cells v s.st (cells_notown hv.2)
            have hc1 : v.cells.map (TC.emb s.st) = [vt.emb x] := by
              rw [← hc, ← ofT1_emb s.st hx, emb_cells]
              obtain ⟨c, h1, _⟩ := cells_one hag x
              unfold VT.emb embOf
              rw [hag, h1]; rfl
            show storeA P (s.emb R) d t (.ref 0 k off) (v.emb s.st) = _
            simp only [storeA, hn, hc]
            rw [if_pos ⟨by simpa using hv.1, isCells_emb _ hv.2⟩]
            have hlay : layA (xs.map vt.emb) off [vt.emb x] = some ((W.upd xs off x).map vt.emb) := by
              simp only [layA, List.length_cons, List.length_nil, List.length_map]
              rw [if_pos (by omega)]
              simp only [W.upd, List.map_set]
              rw [List.set_eq_take_append_cons_drop, if_pos (by simpa using hg)]
              rfl
            simp only [getOb_emb, hl, Option.map_some, TOb.emb, hc1, hlay]
            rw [emb_put, emb_lay _ _ _ _ (shape_lay hl rfl)]; rfl
          · exact h.elim
        · exact h.elim
      · rename_i k j off
        cases hsh : shapeT s.st k with
        | none =>
          exfalso
          unfold storeE at h
          obtain ⟨s1, vs, h1, hvs, hal, hlen, h⟩ := resCs_ok (R := R) h
          split at h
          · rename_i e' vt xs hl
            have hsh1 : shapeT s1.st k = some (e', xs.length) := by simp only [shapeT, hl]
            rw [← hal k, hsh] at hsh1; cases hsh1
          · exact h
        | some q =>
          obtain ⟨e, tot⟩ := q
          obtain ⟨s1, h1, h⟩ := storeE_ok (R := R) hn hv hsh h
          exact ⟨s1, by simp only [TV.emb, T1.emb, TC.emb, hsh]; exact h1, h⟩
      · rename_i k e tot j off
        split at h
        · rename_i e' vt xs hl
          split at h
          · rename_i he
            obtain ⟨hg, h⟩ := grd_iff.1 h
            have hg : xs.length = tot := of_decide_eq_true hg
            subst he
            have hsh : shapeT s.st k = some (e', tot) := by simp only [shapeT, hl, hg]
            obtain ⟨s1, h1, h⟩ := storeE_ok (R := R) hn hv hsh h
            exact ⟨s1, h1, h⟩
          · exact h.elim
        · exact h.elim
      · exact h.elim
    · exact h.elim
theorem fwdT_ok {n : Nat} {v : TV} {K : TV → Prop} (h : fwdT s n v K) : ∃ x : TV, (s.emb R).fwd n (v.emb s.st) = some (x.emb s.st) ∧ K x := by
  unfold fwdT at h
  split at h
  · exact ⟨_, rfl, h⟩
  · exact ⟨_, rfl, h⟩
  · rename_i k j off
    split at h
    · rename_i q hq
      obtain ⟨e, m⟩ := q
      refine ⟨_, ?_, h⟩
      have : ∃ f t xs, lookT s.st k = some (.arr f e t xs) ∧ xs.length = m := by
        unfold shapeT at hq
        split at hq
        · rename_i f e' t xs hl
          simp only [Option.some.injEq, Prod.mk.injEq] at hq
          obtain ⟨rfl, rfl⟩ := hq
          exact ⟨_, _, _, hl, rfl⟩
        · cases hq
      obtain ⟨f, t, xs, hl, hm⟩ := this
      simp only [TV.emb, T1.emb, TC.emb, hq, St.fwd, getOb_emb, hl, Option.map_some, TOb.emb, List.length_map, hm, if_true]
    · exact h.elim
  · exact h.elim
theorem indexAddrT_ok {t : TypeId} {p : TV} {i : Int} {K : TV → Prop} (h : indexAddrT P s t p i K) : ∃ x : TV, indexAddrA P (s.emb R) t (p.emb s.st) i = some (x.emb s.st) ∧ K x := by
  unfold indexAddrT at h
  split at h
  · rename_i e hu
    split at h
    · rename_i e' vt x
      split at h
      · rename_i he
        subst he
        obtain ⟨g1, h⟩ := grd_iff.1 h
        obtain ⟨g2, h⟩ := grd_iff.1 h
        have g1 : 0 ≤ i := of_decide_eq_true g1
        have g2 : i.toNat < x.list.length := of_decide_eq_true g2
        refine ⟨_, ?_, h⟩
        cases x with
        | nil => simp [NL.list] at g2
        | cap0 => simp [NL.list] at g2
        | mk l =>
          simp only [TV.emb, T1.emb, TC.emb, nlAV, indexAddrA, hu]
          rw [if_pos g1, if_pos trivial, nth_emb l i.toNat g2]
          simp only [emb_cells]; rfl
      · exact h.elim
    · rename_i k
      split at h
      · rename_i f e' vt xs hl
        split at h
        · rename_i he
          subst he
          obtain ⟨g1, h⟩ := grd_iff.1 h
          obtain ⟨g2, h⟩ := grd_iff.1 h
          have g1 : 0 ≤ i := of_decide_eq_true g1
          have g2 : i.toNat < xs.length := of_decide_eq_true g2
          refine ⟨_, ?_, h⟩
          have hsh : shapeT s.st k = some (e', xs.length) := by simp only [shapeT, hl]
          simp only [TV.emb, T1.emb, TC.emb, hsh, indexAddrA, hu]
          rw [if_pos g1, if_pos ⟨trivial, by omega⟩]
          simp only [St.elems, getOb_emb, hl, Option.map_some, TOb.emb, List.length_map, if_true, Nat.zero_add, W.toNat]
        · exact h.elim
      · exact h.elim
    · rename_i k e' lo n tot
      split at h
      · rename_i f e2 vt xs hl
        split at h
        · rename_i he
          subst he
          obtain ⟨g0, h⟩ := grd_iff.1 h
          obtain ⟨g1, h⟩ := grd_iff.1 h
          obtain ⟨g2, h⟩ := grd_iff.1 h
          have g0 : xs.length = tot := of_decide_eq_true g0
          have g1 : 0 ≤ i := of_decide_eq_true g1
          have g2 : i.toNat < n := of_decide_eq_true g2
          refine ⟨_, ?_, h⟩
          simp only [TV.emb, T1.emb, TC.emb, AV.one, indexAddrA, hu]
          rw [if_pos g1, if_pos ⟨trivial, by omega⟩]
          simp only [St.elems, getOb_emb, hl, Option.map_some, TOb.emb, List.length_map, g0, if_true, W.nadd, W.toNat]
        · exact h.elim
      · exact h.elim
    · exact h.elim
  · rename_i len e hu
    split at h
    · rename_i n hn
      obtain ⟨g1, h⟩ := grd_iff.1 h
      obtain ⟨g2, h⟩ := grd_iff.1 h
      split at h
      · rename_i k hk
        split at h
        · rename_i h1
          subst h1
          unfold hbAt at hk
          split at hk
          · split at hk
            · simp only [Option.some.injEq] at hk; subst hk
              refine ⟨_, ?_, h⟩
              simp only [indexAddrA, hu, hn]
              rw [if_pos ⟨of_decide_eq_true g1, of_decide_eq_true g2⟩]
              simp only [TV.emb, T1.emb, TC.emb, AV.one, St.fwd, Nat.mul_one, Nat.zero_add, W.toNat]
            · cases hk
          · cases hk
        · exact h.elim
      · obtain ⟨x, hx, h⟩ := fwdT_ok (R := R) h
        refine ⟨x, ?_, h⟩
        simp only [indexAddrA, hu, hn]
        rw [if_pos ⟨of_decide_eq_true g1, of_decide_eq_true g2⟩]
        exact hx
    · exact h.elim
  · exact h.elim
theorem nil_emb {vt : VT} {news : List vt.den} (h : W.none news = true) : news.map vt.emb = [] := by
  cases news with
  | nil => rfl
  | cons a r => simp [W.none] at h
theorem cons_emb {vt : VT} {news : List vt.den} (h : W.none news = false) : ∃ y ys, news.map vt.emb = y :: ys := by
  cases news with
  | nil => simp [W.none] at h
  | cons a r => exact ⟨_, _, rfl⟩
theorem appendT_ok {d : Option Nat} {t : TypeId} {a b : T1} {K : TSt → Prop} (h : appendT P s d t a b K) : ∃ s1, appendA P (s.emb R) d t (a.emb s.st) (b.emb s.st) = some (s1.emb R) ∧ K s1 := by
  unfold appendT at h
  split at h
  · exact h.elim
  · rename_i e he
    split at h
    · rename_i es by_ z vt hes hby hz hvt
      split at h
      · exact h.elim
      · rename_i hno
        obtain ⟨news, hsrc, h⟩ := srcT_ok (R := R) h
        have newly : ∀ (x : AV), (x = .nils ∨ x = .cap0) → brc (W.none news) (K (s.put d (.a x))) (grd (W.nle (W.nmul (W.len news) by_) 140737488355328) (freshT s d e vt news K)) →
            ∃ s1, appendA P (s.emb R) d t x (b.emb s.st) = some (s1.emb R) ∧ K s1 := by
          intro x hx h
          rcases brc_cases h with ⟨hn, h⟩ | ⟨hn, h⟩
          · refine ⟨_, ?_, h⟩
            rw [nil_emb hn] at hsrc
            simp only [appendA, he, hes, hby, hsrc, hz]
            rw [if_neg hno]
            rcases hx with rfl | rfl <;> simp only [emb_put] <;> rfl
          · obtain ⟨g, h⟩ := grd_iff.1 h
            have g : news.length * by_ ≤ 140737488355328 := of_decide_eq_true g
            obtain ⟨s1, h1, h⟩ := freshT_ok (R := R) h
            refine ⟨s1, ?_, h⟩
            obtain ⟨y, ys, hy⟩ := cons_emb (vt := vt) hn
            have hl : (y :: ys).length = news.length := by rw [← hy, List.length_map]
            simp only [appendA, he, hes, hby, hsrc, hz]
            rw [if_neg hno, hy]
            rw [hy] at h1
            rcases hx with rfl | rfl <;> simp only [] <;> rw [if_pos (by rw [hl]; exact g)] <;> exact h1
        simp only at h
        split at h
        · exact newly _ (.inl rfl) h
        · exact newly _ (.inr rfl) h
        · exact newly _ (.inl rfl) h
        · exact newly _ (.inr rfl) h
        · rename_i k _
          split at h
          · rename_i e' vt' xs hl
            split at h
            · rename_i hee
              split at h
              · rename_i hvv
                subst hvv; subst hee
                obtain ⟨g, h⟩ := grd_iff.1 h
                have g : (xs.length + news.length) * by_ ≤ 140737488355328 := of_decide_eq_true g
                refine ⟨_, ?_, h⟩
                have hsh : shapeT s.st k = some (e', xs.length) := by simp only [shapeT, hl]
                have ha : (T1.c (.h k)).emb s.st = .arr 0 k e' 0 xs.length xs.length := by simp only [T1.emb, TC.emb, hsh]
                rw [ha]
                simp only [appendA, he, hes, hby, hsrc, hz]
                rw [if_neg hno]
                simp only [getOb_emb, hl, Option.map_some, TOb.emb, List.length_map]
                rw [if_pos (by simp; exact g), emb_put, emb_grow R s k e' (W.len xs) _ hsh (fun _ _ => rfl)]
                congr 2
                · simp only [TOb.emb, W.app, List.map_append]
                · have : shapeT (s.grow k e' (W.len xs) (.arr false e' vt (W.app xs news))).st k = some (e', xs.length + news.length) := by
                    simp only [shapeT, TSt.grow, lookT_lay, if_true]
                    rw [lookT_map, hl]
                    simp [W.app]
                  simp only [TV.emb, T1.emb, TC.emb, this]
              · exact h.elim
            · exact h.elim
          · exact h.elim
        · exact h.elim
    · exact h.elim
theorem copyT_ok {d : Option Nat} {t : TypeId} {a b : T1} {K : TSt → Prop} (h : copyT P s d t a b K) : ∃ s1, copyA P (s.emb R) d t (a.emb s.st) (b.emb s.st) = some (s1.emb R) ∧ K s1 := by
  unfold copyT at h
  split at h
  · exact h.elim
  · rename_i e he
    split at h
    · exact h.elim
    · rename_i n hn
      split at h
      · rename_i k
        split at h
        · rename_i e' vt xs hl
          split at h
          · rename_i hee
            subst hee
            obtain ⟨ys, hs, h⟩ := srcT_ok (R := R) h
            refine ⟨_, ?_, h⟩
            have hsh : shapeT s.st k = some (e', xs.length) := by simp only [shapeT, hl]
            have ha : (T1.c (.h k)).emb s.st = .arr 0 k e' 0 xs.length xs.length := by simp only [T1.emb, TC.emb, hsh]
            rw [ha]
            simp only [copyA, he, hn, hs]
            simp only [getOb_emb, hl, Option.map_some, TOb.emb, List.length_map]
            rw [if_pos (by simp), emb_put, emb_lay R s k _ (shape_lay hl (by simp [W.app, W.take, W.drop, W.nmin, W.len]; omega))]
            congr 2
            simp [TOb.emb, W.app, W.take, W.drop, W.nmin, W.len, List.map_take, List.map_drop]
          · exact h.elim
        · exact h.elim
      · rename_i k e' lo m tot
        split at h
        · rename_i e2 vt xs hl
          split at h
          · rename_i hee
            obtain ⟨rfl, rfl⟩ := hee
            obtain ⟨ys, hs, h⟩ := srcT_ok (R := R) h
            obtain ⟨g1, h⟩ := grd_iff.1 h
            obtain ⟨g2, h⟩ := grd_iff.1 h
            have g1 : xs.length = tot := of_decide_eq_true g1
            have g2 : lo + m ≤ tot := of_decide_eq_true g2
            refine ⟨_, ?_, h⟩
            have ha : (T1.c (.a (.arr 0 k e2 lo m tot))).emb s.st = .arr 0 k e2 lo m tot := rfl
            rw [ha]
            simp only [copyA, he, hn, hs]
            simp only [getOb_emb, hl, Option.map_some, TOb.emb, List.length_map]
            rw [if_pos (by simp; exact ⟨g1, g2⟩), emb_put, emb_lay R s k _ (shape_lay hl (by simp [W.app, W.take, W.drop, W.nmin, W.nadd, W.len]; omega))]
            congr 2
            simp [TOb.emb, W.app, W.take, W.drop, W.nmin, W.nadd, W.len, List.map_take, List.map_drop]
          · exact h.elim
        · exact h.elim
      · exact h.elim
theorem builtinT_ok {d : Option Nat} {b : Builtin} {ts : List TypeId} {as : List T1} {K : TSt → Prop} (h : builtinT P s d b ts as K) : ∃ s1, builtinA P (s.emb R) d b ts (as.map (T1.emb s.st)) = some (s1.emb R) ∧ K s1 := by
  unfold builtinT at h
  split at h
  · split at h
    · obtain ⟨n, hn, h⟩ := lenT_ok (R := R) h
      refine ⟨_, ?_, h⟩
      simp only [List.map_cons, List.map_nil, builtinA, hn, Option.map_some, emb_put]; rfl
    · exact h.elim
  · split at h
    · split at h
      · rename_i hu
        obtain ⟨s1, h1, h⟩ := appendT_ok (R := R) h
        exact ⟨s1, by simp only [List.map_cons, List.map_nil, builtinA, hu]; exact h1, h⟩
      · rename_i hu
        obtain ⟨s1, h1, h⟩ := appendT_ok (R := R) h
        exact ⟨s1, by simp only [List.map_cons, List.map_nil, builtinA, hu]; exact h1, h⟩
      · exact h.elim
    · exact h.elim
  · split at h
    · obtain ⟨s1, h1, h⟩ := copyT_ok (R := R) h
      exact ⟨s1, by simp only [List.map_cons, List.map_nil, builtinA]; exact h1, h⟩
    · exact h.elim
  · split at h
    · exact ⟨_, by simp only [List.map_cons, List.map_nil, builtinA, T1.emb, TC.emb, AV.one, emb_put]; rfl, h⟩
    · exact h.elim
  · split at h
    · exact ⟨_, by simp only [List.map_cons, List.map_nil, builtinA, T1.emb, TC.emb, AV.one, emb_put]; rfl, h⟩
    · exact h.elim
  · split at h
    · split at h
      · rename_i hk
        subst hk
        exact ⟨_, by simp only [List.map_cons, List.map_nil, builtinA, T1.emb, TC.emb, AV.one, emb_put, if_true]; rfl, h⟩
      · exact h.elim
    · exact h.elim
  · split at h
    · exact ⟨_, by simp only [List.map_cons, List.map_nil, builtinA, T1.emb, TC.emb, AV.one, emb_put]; rfl, h⟩
    · exact h.elim
  · split at h
    · exact ⟨_, by simp only [List.map_cons, List.map_nil, builtinA, T1.emb, TC.emb, AV.one, emb_put]; rfl, h⟩
    · exact h.elim
  · exact h.elim
end
end Go.AbsM
end

section
namespace Go.AbsM
section
variable {P : Program} {R : List Store} {s : TSt}
theorem nilK_ok {x : T1} {K : Bool → Prop} (h : nilK s x K) : ∃ b, isNilA (s.emb R) (x.emb s.st) = some b ∧ K b := by
  unfold nilK at h
  split at h
  · exact ⟨_, rfl, h⟩
  · exact ⟨_, rfl, h⟩
  · rename_i e t l
    obtain ⟨g1, h⟩ := grd_iff.1 h
    refine ⟨_, ?_, h⟩
    cases l with
    | nil => cases g1
    | cons a r => rfl
  · rename_i k
    split at h
    · rename_i fz e t xs hk
      obtain ⟨g1, h⟩ := grd_iff.1 h
      refine ⟨_, ?_, h⟩
      have hg := getOb_emb R s k
      rw [hk] at hg
      cases xs with
      | nil => cases g1
      | cons a r =>
        simp only [T1.emb, TC.emb, shapeT, hk, List.length_cons, isNilA, St.elems, hg, Option.map_some, TOb.emb, List.length_map, if_true]
    · exact h.elim
  · rename_i k e lo n tot
    split at h
    · rename_i fz e2 t xs hk
      obtain ⟨g1, h⟩ := grd_iff.1 h
      obtain ⟨g2, h⟩ := grd_iff.1 h
      refine ⟨_, ?_, h⟩
      have hg := getOb_emb R s k
      rw [hk] at hg
      have g1 : xs.length = tot := of_decide_eq_true g1
      have g2 : 0 < n := of_decide_eq_true g2
      obtain ⟨m, rfl⟩ : ∃ m, n = m + 1 := ⟨n - 1, by omega⟩
      simp only [T1.emb, TC.emb, AV.one, isNilA, St.elems, hg, Option.map_some, TOb.emb, List.length_map, g1, if_true]
    · exact h.elim
  · exact h.elim
theorem isNilC_ok {y : Operand} (h : isNilC y = true) (s : St) : evalO s y = some .nils := by
  unfold isNilC at h
  split at h
  · rfl
  · cases h
theorem pureT_ok {o : Oper} {K : TV → Prop} (h : pureT P s o.op K) : ∃ v : TV, opA P (s.emb R) o = some ((s.emb R).put o.dst (v.emb s.st)) ∧ K v := by
  unfold pureT at h
  split at h
  · rename_i x ho
    obtain ⟨v, hv, h⟩ := need_some h
    exact ⟨v, by simp only [opA, ho, evalT_ok hv, Option.map_some], h⟩
  · rename_i x ho
    obtain ⟨v, hv, h⟩ := need_some h
    exact ⟨v, by simp only [opA, ho, evalT_ok hv, Option.map_some], h⟩
  · rename_i c a b ho
    split at h
    · rename_i t ht
      have hc : evalO (s.emb R) c = some (.x (.bool t)) := evalT_ok ht
      rcases brc_cases h with ⟨rfl, h'⟩ | ⟨rfl, h'⟩
      · obtain ⟨v, hv, h⟩ := need_some h'
        exact ⟨v, by simp only [opA, ho, hc, if_true, evalT_ok hv, Option.map_some], h⟩
      · obtain ⟨v, hv, h⟩ := need_some h'
        exact ⟨v, by simp only [opA, ho, hc, Bool.false_eq_true, if_false, evalT_ok hv, Option.map_some], h⟩
    · exact h.elim
  · rename_i x ho
    split at h
    · rename_i i k off hx
      have hx : evalO (s.emb R) x = some (.ref i k off) := evalT_ok hx
      exact ⟨_, by simp only [opA, ho, hx]; rfl, h⟩
    · exact h.elim
  · rename_i t x ho
    obtain ⟨p, hp, h⟩ := need_some h
    obtain ⟨v, hv, h⟩ := loadT_ok (R := R) h
    exact ⟨_, by simp only [opA, ho, evalT_ok hp, hv, Option.map_some]; rfl, h⟩
  · rename_i t x f ho
    split at h
    · rename_i fields hu
      split at h
      · rename_i fd hf
        split at h
        · rename_i m hm
          obtain ⟨p, hp, h⟩ := need_some h
          obtain ⟨v, hv, h⟩ := fwdT_ok (R := R) h
          exact ⟨v, by simp only [opA, ho, hu, evalT_ok hp, hf, hm, hv, Option.map_some], h⟩
        · exact h.elim
      · exact h.elim
    · exact h.elim
  · rename_i t x y ho
    obtain ⟨p, hp, h⟩ := need_some h
    obtain ⟨k, i, hi, h⟩ := evalI_ok (R := R) h
    obtain ⟨v, hv, h⟩ := indexAddrT_ok (R := R) h
    exact ⟨v, by simp only [opA, ho, evalT_ok hp, hi, hv, Option.map_some], h⟩
  · rename_i t x f ho
    split at h
    · rename_i fields cs hu hx
      have hx : evalO (s.emb R) x = some (.agg (cs.map (TC.emb s.st))) := evalT_ok hx
      split at h
      · rename_i fd hf
        obtain ⟨v, hv, h⟩ := partT_ok s.st h
        exact ⟨_, by simp only [opA, ho, hu, hx, hf, hv, Option.map_some]; rfl, h⟩
      · exact h.elim
    · exact h.elim
  · rename_i t x y ho
    split at h
    · rename_i a ha
      have ha : evalO (s.emb R) x = some (a.emb s.st) := evalT_ok ha
      obtain ⟨k, i, hi, h⟩ := evalI_ok (R := R) h
      split at h
      · rename_i len e hu
        split at h
        · rename_i cs n hn _ _
          obtain ⟨g1, h⟩ := grd_iff.1 h
          obtain ⟨g2, h⟩ := grd_iff.1 h
          obtain ⟨v, hv, h⟩ := partT_ok s.st h
          refine ⟨_, ?_, h⟩
          simp only [opA, ho, ha, hi, hu, T1.emb, hn]
          rw [if_pos ⟨of_decide_eq_true g1, of_decide_eq_true g2⟩, hv]; rfl
        · exact h.elim
      · rename_i hu
        split at h
        · rename_i l _ _
          obtain ⟨g1, h⟩ := grd_iff.1 h
          obtain ⟨g2, h⟩ := grd_iff.1 h
          have g2 : i.toNat < l.length := of_decide_eq_true g2
          refine ⟨_, ?_, h⟩
          simp only [opA, ho, ha, hi, hu, T1.emb, TC.emb, AV.one]
          rw [if_pos (of_decide_eq_true g1), List.getElem?_eq_getElem g2]
          simp only [TV.emb, T1.emb, TC.emb, AV.one, W.u8, W.nth, W.toNat, List.getD_eq_getElem?_getD, List.getElem?_eq_getElem g2, Option.getD_some]
        · exact h.elim
      · exact h.elim
    · exact h.elim
  · rename_i t x lo hi ho
    obtain ⟨a, _, ha, h⟩ := eval1_ok (R := R) h
    obtain ⟨v, hv, h⟩ := sliceT_ok (R := R) h
    exact ⟨v, by simp only [opA, ho, ha, hv, Option.map_some], h⟩
  · rename_i op t x y q ho
    split at h
    · rename_i e hn hu
      have hy := isNilC_ok hn (s.emb R)
      split at h
      · obtain ⟨a, _, ha, h⟩ := eval1_ok (R := R) h
        obtain ⟨b, hb, h⟩ := nilK_ok (R := R) h
        refine ⟨_, ?_, h⟩
        simp only [opA, ho, ha, hy, binA, hu, isNilT, hb, Option.map_some]; rfl
      · obtain ⟨a, _, ha, h⟩ := eval1_ok (R := R) h
        obtain ⟨b, hb, h⟩ := nilK_ok (R := R) h
        refine ⟨_, ?_, h⟩
        simp only [opA, ho, ha, hy, binA, hu, isNilT, hb, Option.map_some]; rfl
      · exact h.elim
    split at h
    · rename_i xs hx
      split at h
      · rename_i ys hy
        have ha := evalT_ok (R := R) hx
        have hb := evalT_ok (R := R) hy
        obtain ⟨v, hv, h1, h⟩ := aggK_ok (s.emb R) s.st h
        refine ⟨_, ?_, h⟩
        show _ = some ((s.emb R).put o.dst v.one)
        rw [h1]
        simp only [opA, ho, ha, hb, TV.emb, T1.emb, hv, Option.map_some]
      · exact h.elim
    · obtain ⟨a, ha, h⟩ := evalA_ok (R := R) h
      obtain ⟨b, hb, h⟩ := evalA_ok (R := R) h
      obtain ⟨v, hv, h1, h⟩ := binK_ok (s.emb R) h
      refine ⟨_, ?_, h⟩
      show _ = some ((s.emb R).put o.dst v.one)
      rw [h1]
      simp only [opA, ho, ha, hb, hv, Option.map_some]
  · rename_i op t x ho
    obtain ⟨a, ha, h⟩ := evalA_ok (R := R) h
    obtain ⟨v, hv, h1, h⟩ := unK_ok h
    refine ⟨_, ?_, h⟩
    show _ = some ((s.emb R).put o.dst v.one)
    rw [h1]
    simp only [opA, ho, ha, hv, Option.map_some]
  · rename_i x i ho
    split at h
    · rename_i vs hx
      have hx : evalO (s.emb R) x = some (.tup (vs.map (T1.emb s.st))) := evalT_ok hx
      obtain ⟨v, hv, h⟩ := need_some h
      exact ⟨_, by simp only [opA, ho, hx, List.getElem?_map, hv, Option.map_some]; rfl, h⟩
    · exact h.elim
  · exact h.elim
theorem aveq_x {a : AV} {v : Value} (h : aveq a (.x v) = true) : a = .x v := by
  cases a with
  | x u =>
    have h : veq u v = true := h
    cases u <;> cases v <;> simp only [veq, Bool.and_eq_true, decide_eq_true_eq, beq_iff_eq, reduceCtorEq] at h
    all_goals first | (obtain ⟨h1, h2⟩ := h; subst h1; subst h2; rfl) | (subst h; rfl)
  | _ => cases h
theorem leq_rep {v : Value} : ∀ {cs : List AV} {n : Nat}, leq aveq cs (List.replicate n (.x v)) = true → cs = List.replicate n (.x v)
  | [], 0, h => rfl
  | [], n + 1, h => by cases h
  | a :: r, 0, h => by cases h
  | a :: r, n + 1, h => by
    simp only [List.replicate_succ, leq, Bool.and_eq_true] at h
    rw [aveq_x h.1, leq_rep h.2]; rfl
theorem allocT_ok {d : Option Nat} {e : TypeId} {z : AV} {v : Value} {K : TSt → Prop} (hv : constAV v = some z) (h : allocT P s d e z K) : ∃ s1, boxA P (s.emb R) d e z = some (s1.emb R) ∧ K s1 := by
  unfold allocT at h
  split at h
  · rename_i q hq
    split at h
    · rename_i k
      split at h
      · rename_i hk
        refine ⟨_, ?_, h⟩
        unfold rowsOf at hq
        split at hq
        · rename_i n el m hu hm
          split at hq
          · rename_i vt cs hvt
            split at hq
            · rename_i v hc
              split at hq
              · rename_i hcond
                obtain ⟨⟨h64, rfl⟩, hag, hl⟩ := hcond
                simp only [Option.some.injEq] at hq; subst hq
                have hcs := leq_rep hl
                subst hcs
                have he : vt.emb vt.dflt = .x v := by unfold VT.emb embOf; rw [hag, hc]; rfl
                have hall : (List.replicate m (AV.x v)).all AV.isCell = true := by
                  rw [List.all_eq_true]; intro c hc; rw [(List.mem_replicate.1 hc).2]; rfl
                have hkill : (List.replicate m (AV.x v)).map (AV.killCell k) = List.replicate m (AV.x v) := by
                  rw [List.map_replicate]; rfl
                simp only [boxA, hm, AV.cells, hkill]
                rw [if_pos ⟨⟨List.length_replicate, hall⟩, hk⟩, emb_put, emb_create]
                simp only [TOb.emb, W.rep, List.map_replicate, he]; rfl
              · cases hq
            · cases hq
          · cases hq
        · cases hq
      · exact h.elim
    · exact h.elim
  · split at h
    · rename_i x hx
      obtain ⟨s1, h1, h⟩ := boxT_ok (R := R) h
      refine ⟨s1, ?_, h⟩
      have := constT_emb hv s.st
      rw [hx] at this
      have this : x.emb s.st = z := this
      rw [this] at h1
      exact h1
    · exact h.elim
theorem opT_ok {o : Oper} {K : TSt → Prop} (h : opT P s o K) : ∃ s1, opA P (s.emb R) o = some (s1.emb R) ∧ K s1 := by
  unfold opT at h
  split at h
  · rename_i e ho
    split at h
    · rename_i z hz
      have : ∃ v, constAV v = some z := by
        unfold zeroT at hz
        cases hi : (P.info? e).bind (·.zero) with
        | none => rw [hi] at hz; cases hz
        | some v => rw [hi] at hz; exact ⟨v, hz⟩
      obtain ⟨v, hv⟩ := this
      obtain ⟨s1, h1, h⟩ := allocT_ok (R := R) hv h
      refine ⟨s1, ?_, h⟩
      simp only [opA, ho, hz]; exact h1
    · exact h.elim
  · rename_i e x ho
    obtain ⟨a, _, ha, h⟩ := eval1_ok (R := R) h
    obtain ⟨s1, h1, h⟩ := boxT_ok (R := R) h
    exact ⟨s1, by simp only [opA, ho, ha]; exact h1, h⟩
  · rename_i t ps ho
    obtain ⟨l, hl, h⟩ := partsT_ok (R := R) h
    obtain ⟨s1, h1, h⟩ := buildT_ok (R := R) h
    exact ⟨s1, by simp only [opA, ho, hl]; exact h1, h⟩
  · rename_i t len ps ho
    obtain ⟨l, hl, h⟩ := partsT_ok (R := R) h
    obtain ⟨s1, h1, h⟩ := buildSliceT_ok (R := R) h
    exact ⟨s1, by simp only [opA, ho, hl]; exact h1, h⟩
  · rename_i t lo co ho
    obtain ⟨k1, l, hl, h⟩ := evalI_ok (R := R) h
    obtain ⟨k2, c, hc, h⟩ := evalI_ok (R := R) h
    obtain ⟨s1, h1, h⟩ := makeT_ok (R := R) h
    exact ⟨s1, by simp only [opA, ho, hl, hc]; exact h1, h⟩
  · rename_i t x y ho
    obtain ⟨p, hp, h⟩ := need_some h
    obtain ⟨v, _, hv, h⟩ := eval1_ok (R := R) h
    obtain ⟨s1, h1, h⟩ := storeT_ok (R := R) h
    exact ⟨s1, by simp only [opA, ho, evalT_ok hp, hv]; exact h1, h⟩
  · rename_i src dst x ho
    obtain ⟨a, _, ha, h⟩ := eval1_ok (R := R) h
    obtain ⟨s1, h1, h⟩ := convertT_ok (R := R) h
    exact ⟨s1, by simp only [opA, ho, ha]; exact h1, h⟩
  · rename_i c ho
    split at h
    · rename_i b hb
      obtain ⟨as, has, h⟩ := evalOsT_ok (R := R) h
      obtain ⟨s1, h1, h⟩ := builtinT_ok (R := R) h
      exact ⟨s1, by simp only [opA, ho, hb, has]; exact h1, h⟩
    · exact h.elim
  · obtain ⟨v, hv, h⟩ := pureT_ok (R := R) h
    exact ⟨_, by rw [hv, emb_put], h⟩
def CtrOk (E : Env) (G : Ctr) : Prop := ∀ f args K, G f args K → (∀ a, a ∈ args → a.noH = true) → ∃ r : TV, E.Γ f (args.map (T1.emb [])) = some (r.emb []) ∧ r.outOk = true ∧ K r
theorem out1_emb {x : T1} (h : x.outOk = true) (S S' : TStore) : x.emb S = x.emb S' := by
  cases x with
  | c x => exact isVal_emb h S S'
  | agg cs =>
    simp only [T1.outOk, List.all_eq_true] at h
    simp only [T1.emb]
    congr 1
    exact List.map_congr_left fun c hc => isVal_emb (h c hc) S S'
  | own => rfl
theorem out1_shut {x : T1} (h : x.outOk = true) (S : TStore) : (x.emb S).shut1 = true := by
  cases x with
  | c x =>
    have hv := isVal_is h S
    show (x.emb S).shut1 = true
    cases hx : x.emb S <;> rw [hx] at hv <;> first | exact hv | simp [AV.isVal] at hv
  | agg cs =>
    simp only [T1.emb, AV.shut1]
    exact isVals_emb S h
  | own => rfl
theorem out_shut {r : TV} (h : r.outOk = true) (S : TStore) : (r.emb S).shut = true := by
  cases r with
  | o x =>
    have := out1_shut (S := S) h
    have hx : ∀ vs, x.emb S ≠ .tup vs := t1_simple x S
    show (x.emb S).shut = true
    cases hy : x.emb S <;> rw [hy] at this <;> first | exact this | exact absurd hy (hx _)
  | tup vs =>
    simp only [TV.outOk, List.all_eq_true] at h
    simp only [TV.emb, AV.shut, List.all_map, List.all_eq_true]
    exact fun c hc => out1_shut (h c hc) S
  | efz => cases h
theorem val_kill {x : AV} (h : x.isVal = true) (k : Nat) : x.killCell k = x := by
  cases x <;> first | rfl | simp [AV.isVal] at h
theorem tc_kill_val {c : TC} (h : c.isVal = true) (k : Nat) : c.kill k = c := by
  cases c with
  | a x => exact congrArg TC.a (val_kill h k)
  | sl => rfl
  | _ => cases h
theorem out1_kill {x : T1} (h : x.outOk = true) (k : Nat) : x.kill k = x := by
  cases x with
  | c x => exact congrArg T1.c (tc_kill_val h k)
  | agg cs =>
    simp only [T1.outOk, List.all_eq_true] at h
    simp only [T1.kill]
    congr 1
    have : cs.map (TC.kill k) = cs.map id := List.map_congr_left fun c hc => tc_kill_val (h c hc) k
    rw [this, List.map_id]
  | own => rfl
theorem out1_kills {x : T1} (h : x.outOk = true) : ∀ (n k : Nat), x.kills k n = x
  | 0, k => rfl
  | n + 1, k => by simp only [T1.kills, out1_kill h]; exact out1_kills h n (k + 1)
theorem out1_killA {x : T1} (h : x.outOk = true) (S : TStore) (k : Nat) : (x.emb S).kill1 k = x.emb S := by
  rw [← t1_kill (S := S) (S' := S) (fun j _ => rfl), out1_kill h]
theorem out1_killsA {x : T1} (h : x.outOk = true) (S : TStore) : ∀ (n k : Nat), AV.kills k n (x.emb S) = x.emb S
  | 0, k => rfl
  | n + 1, k => by simp only [AV.kills, out1_killA h]; exact out1_killsA h S n (k + 1)
theorem inOneT_ok {x : T1} (h : x.outOk = true) (k : Nat) : ((inOneT s k x).1.emb R, (inOneT s k x).2.emb (inOneT s k x).1.st) = inOne (s.emb R) k (x.emb []) := by
  cases x with
  | own e t xs =>
    cases hbx : Nat.beq e objE with
    | true =>
      simp only [T1.outOk, hbx, Bool.not_true, Bool.false_or, Bool.and_eq_true, beq_iff_eq] at h
      obtain ⟨ha, hl⟩ := h
      match xs, hl with
      | [x], _ =>
        simp only [inOneT, inOne, T1.emb, hbx, List.map_cons, List.map_nil, VT.emb, embOf, ha, emb_create, TOb.emb, tc_emb]
        rfl
    | false =>
    simp only [inOneT, inOne, T1.emb, emb_create, TOb.emb, List.length_map, hbx]
    congr 1
    simp [TC.emb, shapeT, TSt.create, lookT]
  | c x =>
    have hx := (tc_simple x []).2.2
    show (s.emb R, x.emb s.st) = inOne (s.emb R) k (x.emb [])
    rw [isVal_emb h s.st []]
    unfold inOne
    split
    · rename_i he; exact absurd he (hx _ _)
    · rfl
  | agg cs =>
    rw [show inOneT s k (.agg cs) = (s, .agg cs) from rfl]
    rw [out1_emb h s.st []]; rfl
theorem inAllT_ok {l : List T1} : ∀ (k : Nat), (∀ x, x ∈ l → x.outOk = true) → ((inAllT s k l).1.emb R, (inAllT s k l).2.map (T1.emb (inAllT s k l).1.st)) = inAll (s.emb R) k (l.map (T1.emb [])) := by
  induction l with
  | nil => intro k h; rfl
  | cons a r ih =>
    intro k h
    have ha := h a List.mem_cons_self
    have hr := ih (k + 1) fun x hx => h x (List.mem_cons_of_mem _ hx)
    simp only [inAllT, inAll, List.map_cons, List.length_map]
    rw [out1_kills ha, out1_killsA ha]
    rw [← hr]
    have h1 := inOneT_ok (R := R) (s := (inAllT s (k + 1) r).1) ha k
    rw [← h1]
    simp only [List.map_map]
    congr 2
    refine List.map_congr_left fun x hx => ?_
    simp only [Function.comp]
    cases a with
    | own e t xs =>
      cases hbx : Nat.beq e objE with
      | true =>
        match xs with
        | [] => simp only [inOneT, hbx]; exact t1_kill (fun _ _ => rfl) x
        | [y] => simp only [inOneT, hbx]; exact t1_kill (shape_create _ k _) x
        | _ :: _ :: _ => simp only [inOneT, hbx]; exact t1_kill (fun _ _ => rfl) x
      | false => simp only [inOneT, hbx]; exact t1_kill (shape_create _ k _) x
    | c y => exact t1_kill (fun _ _ => rfl) x
    | agg cs => exact t1_kill (fun _ _ => rfl) x
theorem bindT_ok {d : Option Nat} {r : TV} (h : r.outOk = true) : (bindT s d r).emb R = bindA (s.emb R) d (r.emb []) := by
  cases d with
  | none => rfl
  | some k =>
    cases r with
    | tup vs =>
      simp only [TV.outOk, List.all_eq_true] at h
      have := inAllT_ok (R := R) (s := s) (home k 0) h
      by_cases hk : home k 0 + vs.length ≤ 500000
      · simp only [bindT, bindA, TV.emb, List.length_map, if_pos hk, emb_put, ← this]
      · simp only [bindT, bindA, TV.emb, List.length_map, if_neg hk, emb_put]; rfl
    | o x =>
      have := inOneT_ok (R := R) (s := s) (x := x) h k
      have hx := t1_simple x []
      show (bindT s (some k) (.o x)).emb R = bindA (s.emb R) (some k) (x.emb [])
      by_cases hk : k < 500000
      case neg =>
        have hb : bindA (s.emb R) (some k) (x.emb []) = (s.emb R).put (some k) .dead := by
          cases hy : x.emb [] <;> first | exact absurd hy (hx _) | (simp only [bindA, if_neg hk])
        rw [hb]
        simp only [bindT, if_neg hk, emb_put]; rfl
      have ht : bindT s (some k) (.o x) = TSt.put (inOneT s k x).1 (some k) (.o (inOneT s k x).2) := by simp only [bindT, if_pos hk]
      rw [ht, emb_put]
      have hb : bindA (s.emb R) (some k) (x.emb []) = (inOne (s.emb R) k (x.emb [])).1.put (some k) (inOne (s.emb R) k (x.emb [])).2 := by
        cases hy : x.emb [] <;> first | exact absurd hy (hx _) | (simp only [bindA, if_pos hk])
      rw [hb, ← this]; rfl
    | efz => cases h
theorem hasSl1 {x : T1} (h : x.outOk = true) : (!(x.emb []).flat2) = x.hasSl := by
  cases x with
  | own e t xs =>
    simp only [T1.emb, AV.flat2, T1.hasSl, List.all_map]; rfl
  | agg cs => simp only [T1.emb, AV.flat2, AV.flat1, T1.hasSl, List.all_map]; rfl
  | c y =>
    have hy := tc_simple y []
    have hf : (y.emb []).flat2 = (y.emb []).flat0 := by
      cases he : y.emb [] <;> first | rfl | exact absurd he (hy.1 _) | exact absurd he (hy.2.2 _ _)
    show (!(y.emb []).flat2) = _
    rw [hf]
    cases y with
    | sl e t z => cases z <;> rfl
    | _ => rfl
theorem hasSl_emb {r : TV} (h : r.outOk = true) : (r.emb []).hasSl = r.hasSl := by
  cases r with
  | o x =>
    rw [show TV.hasSl (.o x) = x.hasSl from rfl, ← hasSl1 h]
    have hx : ∀ vs, x.emb [] ≠ .tup vs := t1_simple x []
    show (x.emb []).hasSl = _
    cases hy : x.emb [] <;> first | rfl | exact absurd hy (hx _)
  | tup vs =>
    simp only [TV.outOk, List.all_eq_true] at h
    simp only [TV.emb, AV.hasSl, TV.hasSl]
    induction vs with
    | nil => rfl
    | cons a r ih =>
      simp only [List.map_cons, List.all_cons, Bool.not_and, List.any_cons]
      rw [ih fun x hx => h x (List.mem_cons_of_mem _ hx), hasSl1 (h a List.mem_cons_self)]
  | efz => cases h
theorem plain_cells {t : VT} (h : t.plainT = true) (x : t.den) : (t.cells x).all AV.flat0 = true := by
  induction t with
  | pair a b ha hb =>
    simp only [VT.plainT, Bool.and_eq_true] at h
    simp only [VT.cells, List.all_append, ha h.1, hb h.2, Bool.and_self]
  | slc => cases h
  | _ => rfl
theorem plain_flat1 {t : VT} (h : t.plainT = true) (x : t.den) : (t.emb x).flat1 = true := by
  have := plain_cells h x
  unfold VT.emb embOf
  cases ha : t.isAgg with
  | true => exact this
  | false =>
    obtain ⟨c, hc, hv⟩ := cells_one ha x
    rw [hc] at this ⊢
    simp only [List.all_cons, List.all_nil, Bool.and_true] at this
    show c.flat1 = true
    cases c <;> first | exact this | simp [AV.isVal] at hv
theorem mayS1 {x : T1} (h : x.outOk = true) (hm : x.mayS = false) : x.hasSl = false := by
  cases x with
  | own e t xs =>
    simp only [T1.mayS, Bool.not_eq_false'] at hm
    simp only [T1.hasSl, Bool.not_eq_false', List.all_eq_true]
    exact fun y _ => plain_flat1 hm y
  | agg cs =>
    simp only [T1.mayS, List.any_eq_false] at hm
    simp only [T1.hasSl, Bool.not_eq_false', List.all_eq_true]
    intro c hc
    have := hm c hc
    simp only [T1.outOk, List.all_eq_true] at h
    have hv := h c hc
    cases c with
    | a x => simp only [TC.mayS, Bool.not_eq_true', Bool.not_eq_false] at this; simp only [TC.isVal] at hv; simp only [TC.emb, one_val hv]; simpa using this
    | sl => simp [TC.mayS] at this
    | _ => cases hv
  | c y =>
    cases y with
    | a x =>
      simp only [T1.mayS, TC.mayS, Bool.not_eq_false'] at hm
      simp only [T1.outOk, TC.isVal] at h
      simp only [T1.hasSl, TC.emb, one_val h, hm]; rfl
    | sl => cases hm
    | _ => cases h
theorem mayS_ok {r : TV} (h : r.outOk = true) (hm : r.mayS = false) : r.hasSl = false := by
  cases r with
  | o x => exact mayS1 h hm
  | tup vs =>
    simp only [TV.outOk, List.all_eq_true] at h
    simp only [TV.mayS, List.any_eq_false] at hm
    simp only [TV.hasSl, List.any_eq_false]
    intro x hx
    rw [mayS1 (h x hx) (by simpa using hm x hx)]; simp
  | efz => cases h
theorem resC_pin {c : TC} {K : TSt → TC → Prop} (hv : c.isVal = true) (h : resC s c K) : resC s c fun s1 d => s1 = s ∧ d = c ∧ K s1 d := by
  unfold resC at h ⊢
  split at h <;> first | exact ⟨rfl, rfl, h⟩ | cases hv | exact h.elim
theorem resC_mono {c : TC} {K K' : TSt → TC → Prop} (hk : ∀ s d, K s d → K' s d) (h : resC s c K) : resC s c K' := by
  unfold resC at h ⊢
  split at h <;> first | exact hk _ _ h | skip
  · split at h
    · exact hk _ _ h
    · exact h
  · split at h
    · exact grd_iff.2 ⟨(grd_iff.1 h).1, hk _ _ (grd_iff.1 h).2⟩
    · exact h
  · exact h
theorem resCs_mono {l : List TC} {K K' : TSt → List TC → Prop} (hk : ∀ s d, K s d → K' s d) (h : resCs s l K) : resCs s l K' := by
  induction l generalizing s K K' with
  | nil => exact hk _ _ h
  | cons c r ih => exact resC_mono (fun s1 d h => ih (fun s2 l h => hk _ _ h) h) h
theorem resT_mono {c : T1} {K K' : TSt → T1 → Prop} (hk : ∀ s d, K s d → K' s d) (h : resT s c K) : resT s c K' := by
  cases c with
  | c c => exact resC_mono (s := s) (c := c) (K := fun s1 d => K s1 (.c d)) (K' := fun s1 d => K' s1 (.c d)) (fun s1 d h => hk _ _ h) h
  | agg cs => exact resCs_mono (s := s) (l := cs) (K := fun s1 d => K s1 (.agg d)) (K' := fun s1 d => K' s1 (.agg d)) (fun s1 d h => hk _ _ h) h
  | own => exact h
theorem resAllT_mono {l : List T1} {K K' : TSt → List T1 → Prop} (hk : ∀ s d, K s d → K' s d) (h : resAllT s l K) : resAllT s l K' := by
  induction l generalizing s K K' with
  | nil => exact hk _ _ h
  | cons c r ih => exact resT_mono (fun s1 d h => ih (fun s2 l h => hk _ _ h) h) h
theorem resCs_pin {cs : List TC} {K : TSt → List TC → Prop} (hv : ∀ c, c ∈ cs → c.isVal = true) (h : resCs s cs K) : resCs s cs fun s1 d => s1 = s ∧ d = cs ∧ K s1 d := by
  induction cs generalizing K with
  | nil => exact ⟨rfl, rfl, h⟩
  | cons c r ih =>
    refine resC_mono (fun s1 d hh => ?_) (resC_pin (hv c List.mem_cons_self) h)
    obtain ⟨rfl, rfl, h'⟩ := hh
    exact resCs_mono (fun s2 l hh => ⟨hh.1, by rw [hh.2.1], hh.2.2⟩) (ih (fun c hc => hv c (List.mem_cons_of_mem _ hc)) h')
theorem resT_pin {c : T1} {K : TSt → T1 → Prop} (hv : c.noH = true) (h : resT s c K) : resT s c fun s1 d => s1 = s ∧ d = c ∧ K s1 d := by
  cases c with
  | c c => exact resC_mono (s := s) (c := c) (K' := fun s1 d => s1 = s ∧ (T1.c d) = .c c ∧ K s1 (.c d)) (fun s1 d hh => ⟨hh.1, by rw [hh.2.1], hh.2.2⟩) (resC_pin (K := fun s1 d => K s1 (.c d)) hv h)
  | agg cs => exact resCs_mono (s := s) (l := cs) (K' := fun s1 d => s1 = s ∧ (T1.agg d) = .agg cs ∧ K s1 (.agg d)) (fun s1 d hh => ⟨hh.1, by rw [hh.2.1], hh.2.2⟩) (resCs_pin (K := fun s1 d => K s1 (.agg d)) (List.all_eq_true.1 hv) h)
  | own => exact h.elim
theorem resAllT_pin {cs : List T1} {K : TSt → List T1 → Prop} (hv : ∀ c, c ∈ cs → c.noH = true) (h : resAllT s cs K) : resAllT s cs fun s1 d => s1 = s ∧ d = cs ∧ K s1 d := by
  induction cs generalizing K with
  | nil => exact ⟨rfl, rfl, h⟩
  | cons c r ih =>
    refine resT_mono (fun s1 d hh => ?_) (resT_pin (hv c List.mem_cons_self) h)
    obtain ⟨rfl, rfl, h'⟩ := hh
    exact resAllT_mono (fun s2 l hh => ⟨hh.1, by rw [hh.2.1], hh.2.2⟩) (ih (fun c hc => hv c (List.mem_cons_of_mem _ hc)) h')
variable {E : Env} {G : Ctr} {rec : Rec}
theorem openT {lend : Nat → Bool} (hl : ∀ j, lend j = false) (S : TStore) : ∀ (l : List T1) (j : Nat), l.all T1.noRef = true → openA lend j (l.map (T1.emb S)) = false
  | [], j, h => rfl
  | a :: r, j, h => by
    simp only [List.all_cons, Bool.and_eq_true] at h
    simp only [List.map_cons, openA, openT hl S r (j + 1) h.2, Bool.or_false]
    split
    · exact hl j
    · rename_i i k off he
      exfalso
      cases a with
      | c c =>
        cases c with
        | a x =>
          have he : x.one = .ref i k off := he
          cases x <;> simp only [AV.one] at he <;> first | (cases he; done) | (exact absurd h.1 (by simp [T1.noRef]))
        | sl e t x => cases x <;> cases he
        | h m => simp only [T1.emb, TC.emb] at he; split at he <;> cases he
        | eh m j off => simp only [T1.emb, TC.emb] at he; split at he <;> cases he
      | agg cs => cases he
      | own e t xs => cases he
    · rfl
def LendOk (E : Env) (D : Lends) : Prop := ∀ f L, D f = some L → ∀ (s : TSt) (args : List T1) (K : TSt → TV → Prop), L s args K → ∃ (s1 : TSt) (r : TV), r.outOk = true ∧ K s1 r ∧ ∀ R : List Store, openA (E.lend f) 0 (args.map (T1.emb s.st)) = true ∧
  ∃ as, lendAll (s.emb R) (args.map (T1.emb s.st)) = some (s.emb R, as) ∧ E.Γ f as = none ∧ E.Δ f as (s.emb R).stores = some ((s1.emb R).stores, r.emb []) ∧ (s1.emb R).slots = (s.emb R).slots
theorem callT_ok {D : Lends} (hl : ∀ f, D f = none → ∀ j, E.lend f j = false) (hG : CtrOk E G) (hD : LendOk E D) {d : Option Nat} {f : FuncId} {args : List T1} {K : TSt → Prop} (h : callT G D s d f args K) : ∃ s1, callOpA P E rec (s.emb R) d f (args.map (T1.emb s.st)) = some (s1.emb R) ∧ K s1 := by
  unfold callT at h
  split at h
  · rename_i L hL
    obtain ⟨s1, r, ho, hK, hR⟩ := hD f L hL s args _ h
    obtain ⟨q1, as, q2, q3, q4, q5⟩ := hR R
    refine ⟨_, ?_, hK⟩
    unfold callOpA
    rw [if_pos q1, q2]
    simp only [callA, q3, q4]
    show some (bindA _ d (r.emb [])) = _
    rw [bindT_ok ho, ← q5]
    rfl
  rename_i hnone
  have hl := hl f hnone
  split at h
  · rename_i hr
    unfold callOpA
    rw [openT hl s.st args 0 hr, if_neg (by simp)]
    split at h
    · rename_i hn
      have hn := List.all_eq_true.1 hn
      obtain ⟨s1, ds, h1, hds, hal, rfl, rfl, h'⟩ := resAllT_ok (R := R) (resAllT_pin hn h)
      obtain ⟨r, hg, ho, h'⟩ := hG _ _ _ h' hds
      refine ⟨_, ?_, h'⟩
      simp only [h1, callA, hg, out_shut ho, if_true]
      rw [bindT_ok ho]
      split <;> rfl
    · obtain ⟨s1, ds, h1, hds, hal, h⟩ := resAllT_ok (R := R) h
      obtain ⟨r, hg, ho, h⟩ := hG _ _ _ h hds
      have hs := hasSl_emb ho
      split at h
      · rename_i hm
        refine ⟨_, ?_, h⟩
        simp only [h1, callA, hg, out_shut ho, if_true]
        rw [hs, mayS_ok ho hm, bindT_ok ho]; rfl
      · rcases brc_cases h with ⟨hb, h⟩ | ⟨hb, h⟩
        · refine ⟨_, ?_, h⟩
          simp only [h1, callA, hg, out_shut ho, if_true]
          rw [hs, hb, bindT_ok ho]; rfl
        · refine ⟨_, ?_, h⟩
          simp only [h1, callA, hg, out_shut ho, if_true]
          rw [hs, hb, bindT_ok ho]; rfl
  · exact h.elim
theorem calleeT_ok {c : Callee} {f : FuncId} (h : calleeT s c = some f) : calleeA (s.emb R) c = some f := by
  unfold calleeT at h
  unfold calleeA
  split at h
  · exact h
  · rename_i t
    simp only
    split at h
    · rename_i x hx
      rw [emb_get, hx]
      unfold funcOf at h
      split at h
      · exact h
      · cases h
    · cases h
  · cases h
theorem stepOpT_ok {D : Lends} (hl : ∀ f, D f = none → ∀ j, E.lend f j = false) (hG : CtrOk E G) (hD : LendOk E D) {o : Oper} {K : TSt → Prop} (h : stepOpT P G D s o K) : ∃ s1, stepOp P E rec (s.emb R) o = some (s1.emb R) ∧ K s1 := by
  unfold stepOpT at h
  unfold stepOp
  split at h
  · rename_i c ho
    split at h
    · rename_i f hc
      obtain ⟨as, has, h⟩ := evalOsT_ok (R := R) h
      obtain ⟨s1, h1, h⟩ := callT_ok (R := R) (rec := rec) (P := P) hl hG hD h
      exact ⟨s1, by simp only [ho, calleeT_ok hc, has]; exact h1, h⟩
    · rename_i hno
      have hb : calleeA (s.emb R) c.callee = none := by
        unfold opT at h
        rw [ho] at h
        simp only at h
        split at h
        · rename_i b hb; rw [hb]; rfl
        · exact h.elim
      obtain ⟨s1, h1, h⟩ := opT_ok (R := R) h
      refine ⟨s1, ?_, h⟩
      rw [ho]
      simp only [hb]
      exact h1
  · rename_i hno
    obtain ⟨s1, h1, h⟩ := opT_ok (R := R) h
    refine ⟨s1, ?_, h⟩
    split
    · rename_i c ho; exact absurd ho (hno c)
    · exact h1
theorem unown1 {x : T1} (h : x.outOk = true) (S : TStore) : (x.unown).emb S = (x.emb []).unown := by
  cases x with
  | own e t xs =>
    cases hbx : Nat.beq e objE with
    | true => simp only [T1.unown, T1.emb, AV.unown, hbx]; rfl
    | false =>
    have : (T1.emb [] (.own e t xs)).unown = .sl e (xs.map t.emb) := by simp only [T1.emb, AV.unown, hbx]
    have hu : T1.unown (.own e t xs) = .c (.sl e t (.mk xs)) := by simp only [T1.unown, hbx]
    rw [this, hu]; rfl
  | agg cs => rw [show T1.unown (.agg cs) = .agg cs from rfl, out1_emb h S []]; rfl
  | c c =>
    rw [show T1.unown (.c c) = .c c from rfl, out1_emb h S []]
    have := (tc_simple c []).2.2
    show c.emb [] = (c.emb []).unown
    cases hc : c.emb [] <;> first | rfl | exact absurd hc (this _ _)
theorem unowns_ok {r : TV} (h : r.outOk = true) (S : TStore) : (r.unowns).emb S = (r.emb []).unowns := by
  cases r with
  | o x =>
    have hx := t1_simple x []
    show (x.unown).emb S = (x.emb []).unowns
    rw [unown1 h]
    cases hy : x.emb [] <;> first | rfl | exact absurd hy (hx _)
  | tup vs =>
    simp only [TV.outOk, List.all_eq_true] at h
    simp only [TV.unowns, TV.emb, AV.unowns, List.map_map]
    congr 1
    exact List.map_congr_left fun c hc => unown1 (h c hc) S
  | efz => cases h
theorem quietT_ok (hG : CtrOk E G) {o : Oper} {K : TSt → Prop} (h : quietT P G s o K) : ∃ s1, quietA P E rec (s.emb R) o = some (s1.emb R) ∧ K s1 := by
  unfold quietT at h
  unfold quietA
  split at h
  · rename_i c ho
    rw [ho]
    simp only
    split at h
    · rename_i f hc
      obtain ⟨as, has, h⟩ := evalOsT_ok (R := R) h
      obtain ⟨s1, ds, h1, hds, hal, h⟩ := resAllT_ok (R := R) h
      obtain ⟨r, hg, ho', h⟩ := hG _ _ _ h hds
      have hs := hasSl_emb ho'
      have fin : ((r.emb []).hasSl = false ∨ (as.map (T1.emb s.st)).all AV.isVal = true) → K (s.put o.dst r.unowns) → ∃ s1_1, (match calleeA (s.emb R) c.callee with
          | some f => match evalOs (s.emb R) c.args.toList with
            | some as => match resolveAll (s.emb R) as with
              | some (_, bs) => match callA P E rec f bs [] with
                | some (_, r) => if r.shut ∧ (r.hasSl = false ∨ as.all AV.isVal = true) then some ((s.emb R).put o.dst r.unowns) else none
                | none => none
              | none => (readA P E rec f as (s.emb R).stores).map fun r => (s.emb R).put o.dst r
            | none => none
          | none => (match c.callee with
            | .builtin .len | .builtin .min | .builtin .max | .builtin .real | .builtin .imag | .builtin .complex => opA P (s.emb R) o
            | _ => none)) = some (TSt.emb R s1_1) ∧ K s1_1 := by
        intro hc' hk
        refine ⟨_, ?_, hk⟩
        simp only [calleeT_ok hc, has, h1, callA, hg]
        rw [if_pos ⟨out_shut ho' [], hc'⟩, emb_put, unowns_ok ho']
      split at h
      · rename_i hv
        refine fin (.inr ?_) h
        rw [List.all_map, List.all_eq_true]
        intro x hx
        have := List.all_eq_true.1 hv x hx
        cases x with
        | c y => exact isVal_is this _
        | _ => cases this
      · split at h
        · rename_i hm
          exact fin (.inl (by rw [hs]; exact mayS_ok ho' hm)) h
        · obtain ⟨hb, h⟩ := grd_iff.1 h
          exact fin (.inl (by rw [hs]; simpa using hb)) h
    split at h
    all_goals first
      | (rename_i hc
         obtain ⟨s1, h1, h⟩ := opT_ok (R := R) h
         exact ⟨s1, by rw [hc]; exact h1, h⟩)
      | exact h.elim
  · rename_i src dst x ho
    rw [ho]
    simp only
    obtain ⟨a, _, ha, h⟩ := eval1_ok (R := R) h
    obtain ⟨v, hv, h⟩ := convK_ok (R := R) h
    exact ⟨_, by simp only [ha, hv, Option.map_some, emb_put], h⟩
  · rename_i t ps ho
    obtain ⟨s1, h1, h⟩ := opT_ok (R := R) h
    exact ⟨s1, by rw [ho]; exact h1, h⟩
  · have h0 := h
    obtain ⟨v, hv, h⟩ := pureT_ok (R := R) (o := o) h
    refine ⟨_, ?_, h⟩
    rw [emb_put, ← hv]
    clear hv h
    revert h0
    cases ho : o.op <;> intro h0 <;> first | rfl | exact (show False from h0).elim
theorem drawT_ok {D : Lends} (hl : ∀ f, D f = none → ∀ j, E.lend f j = false) (hG : CtrOk E G) (hD : LendOk E D) {o : Oper} {K : TSt → Prop} (h : drawT P G D E.solo s o K) : ∃ s1, drawOp P E rec (s.emb R) o = some (s1.emb R) ∧ K s1 := by
  unfold drawT at h
  unfold drawOp
  split at h
  · rename_i hs
    rw [if_pos hs]
    exact stepOpT_ok hl hG hD h
  · rename_i hs
    rw [if_neg (by simp [hs])]
    exact quietT_ok hG h
theorem guardT_ok {ops : Array Oper} {g : Option (Nat × Bool)} {K : Bool → TSt → Prop} (h : guardT ops s g K) : ∃ b s1, guardA ops (s.emb R) g = some b ∧ s1.emb R = s.emb R ∧ K b s1 := by
  unfold guardT at h
  unfold guardA
  split at h
  · exact ⟨_, _, rfl, rfl, h⟩
  · rename_i j want
    split at h
    · rename_i t ht
      simp only [ht]
      split at h
      · rename_i b hb
        have hg : (s.emb R).get t = .x (.bool b) := by rw [emb_get, hb]; rfl
        have hself : ∀ c, b = c → (s.put (some t) (TV.bool c)).emb R = s.emb R := by
          intro c hc; subst hc
          rw [emb_put]
          show St.put (s.emb R) (some t) (.x (.bool b)) = s.emb R
          rw [← hg]
          simp only [St.put, St.get]
          congr 1
          have hlt : t < (s.emb R).slots.length := by
            rcases Nat.lt_or_ge t (s.emb R).slots.length with h' | h'
            · exact h'
            · simp only [St.get, List.getD_eq_getElem?_getD, List.getElem?_eq_none h', Option.getD_none] at hg; cases hg
          rw [List.getD_eq_getElem?_getD, List.getElem?_eq_getElem hlt, Option.getD_some, List.set_getElem_self]
          rfl
        simp only [hg]
        rcases brc_cases h with ⟨rfl, h'⟩ | ⟨rfl, h'⟩
        · exact ⟨_, _, rfl, hself true rfl, h'⟩
        · exact ⟨_, _, rfl, hself false rfl, h'⟩
      · rename_i hb
        have hg : (s.emb R).get t = .und := by rw [emb_get, hb]; rfl
        simp only [hg]
        exact ⟨_, _, rfl, rfl, h⟩
      · exact h.elim
    · exact h.elim
theorem opsT_ok {st : TSt → Oper → (TSt → Prop) → Prop} {stA : Oper → St → Option St} (hst : ∀ s o K, st s o K → ∃ s1, stA o (s.emb R) = some (s1.emb R) ∧ K s1) {ops : Array Oper} : ∀ (l : List Nat) (s : TSt) (K : TSt → Prop), opsT st ops l s K → ∃ s1, opsA stA ops l (s.emb R) = some (s1.emb R) ∧ K s1 := by
  intro l
  induction l with
  | nil => intro s K h; exact ⟨s, rfl, h⟩
  | cons i r ih =>
    intro s K h
    simp only [opsT] at h
    simp only [opsA]
    split at h
    · rename_i hi
      simp only [hi]
      exact ih s K h
    · rename_i o hi
      simp only [hi]
      obtain ⟨b, s1, hg, he, h⟩ := guardT_ok (R := R) h
      rw [hg]
      split at h
      · simp only
        obtain ⟨s2, h2, h⟩ := hst _ _ _ h
        rw [← he, h2]
        exact ih s2 K h
      · simp only
        have := ih _ K h
        rw [emb_put, he] at this
        exact this
end
end Go.AbsM
end

section
namespace Go.AbsM
section
variable {P : Program} {E : Env} {w : World} {g : Gh} {may : Nat → Prop}
def AV.at : AV → Option (Nat × Nat)
  | .arr i k .. => some (i, k)
  | .ref i k _ => some (i, k)
  | .ear i k .. => some (i, k)
  | _ => none
theorem CRep.weak {S1 S2 : List Store} {a : AV} {v : Value} (h : CRep P w g S1 a v) (hk : ∀ i k, a.at = some (i, k) → getOb S2 i k = getOb S1 i k) : CRep P w g S2 a v := by
  cases a with
  | arr i k e lo n tot =>
    obtain ⟨fz, xs, h1, h2⟩ := h
    exact ⟨fz, xs, by rw [hk i k rfl]; exact h1, h2⟩
  | ref i k off => exact ⟨by rw [hk i k rfl]; exact h.1, h.2⟩
  | ear i k e tot j off =>
    obtain ⟨fz, xs, h1, h2⟩ := h
    exact ⟨fz, xs, by rw [hk i k rfl]; exact h1, h2⟩
  | _ => exact h
theorem lookT_pick (S : TStore) (ks : List Nat) (k : Nat) : lookT (pickT S ks) k = if k ∈ ks then lookT S k else none := by
  induction ks with
  | nil => rfl
  | cons j r ih =>
    simp only [pickT]
    cases hj : lookT S j with
    | none =>
      simp only [ih]
      by_cases hk : k = j
      · subst hk; simp [hj]
      · simp [hk]
    | some o =>
      simp only [lookT, ih]
      by_cases hk : j = k
      · subst hk; simp [hj]
      · simp [hk, Ne.symm hk]
theorem ok_look {S : TStore} {ks : List Nat} {k : Nat} (h : (lookT (pickT S ks) k).isSome = true) : lookT (pickT S ks) k = lookT S k := by
  rw [lookT_pick] at h ⊢
  split
  · rfl
  · rename_i hk; rw [if_neg hk] at h; cases h
theorem ok_shape {S : TStore} {ks : List Nat} {k : Nat} (h : (lookT (pickT S ks) k).isSome = true) : shapeT (pickT S ks) k = shapeT S k := by
  simp only [shapeT, ok_look h]
theorem okc {S : TStore} {ks : List Nat} {c : TC} (h : c.okIn (pickT S ks) = true) : c.emb (pickT S ks) = c.emb S ∧ ∀ i k, (c.emb S).at = some (i, k) → i = 0 ∧ (lookT (pickT S ks) k).isSome = true := by
  cases c with
  | h j =>
    simp only [TC.okIn] at h
    refine ⟨by simp only [TC.emb, ok_shape h], fun i k hk => ?_⟩
    simp only [TC.emb] at hk
    split at hk
    · simp only [AV.at, Option.some.injEq, Prod.mk.injEq] at hk
      obtain ⟨rfl, rfl⟩ := hk; exact ⟨rfl, h⟩
    · cases hk
  | eh j m off =>
    simp only [TC.okIn] at h
    refine ⟨by simp only [TC.emb, ok_shape h], fun i k hk => ?_⟩
    simp only [TC.emb] at hk
    split at hk
    · simp only [AV.at, Option.some.injEq, Prod.mk.injEq] at hk
      obtain ⟨rfl, rfl⟩ := hk; exact ⟨rfl, h⟩
    · cases hk
  | sl e t x => exact ⟨rfl, fun i k hk => by cases x <;> cases hk⟩
  | a x =>
    refine ⟨rfl, fun i k hk => ?_⟩
    cases x with
    | arr i' k' e lo n tot =>
      simp only [TC.emb, AV.one, AV.at, Option.some.injEq, Prod.mk.injEq] at hk
      obtain ⟨rfl, rfl⟩ := hk
      cases i' with
      | zero => exact ⟨rfl, h⟩
      | succ i => cases h
    | ref i' k' off =>
      simp only [TC.emb, AV.one, AV.at, Option.some.injEq, Prod.mk.injEq] at hk
      obtain ⟨rfl, rfl⟩ := hk
      cases i' with
      | zero => exact ⟨rfl, h⟩
      | succ i => cases h
    | ear i' k' e tot j off =>
      simp only [TC.emb, AV.one, AV.at, Option.some.injEq, Prod.mk.injEq] at hk
      obtain ⟨rfl, rfl⟩ := hk
      cases i' with
      | zero => exact ⟨rfl, h⟩
      | succ i => cases h
    | _ => cases hk
def St2 (S : TStore) (R : List Store) : List Store := embStore S :: R
theorem getOb_st2 (S : TStore) (R : List Store) (k : Nat) : getOb (St2 S R) 0 k = (lookT S k).map (TOb.emb S) := look_embAux S S k
theorem okob {S : TStore} {ks : List Nat} (hst : (pickT S ks).all (fun p => p.2.okIn (pickT S ks)) = true) {k : Nat} {o : TOb} (h : lookT (pickT S ks) k = some o) : o.emb (pickT S ks) = o.emb S ∧ o.okIn (pickT S ks) = true := by
  have hmem : ∀ (l : TStore), lookT l k = some o → ∃ j, (j, o) ∈ l := by
    intro l
    induction l with
    | nil => intro h; cases h
    | cons p r ih =>
      obtain ⟨j, q⟩ := p
      intro h
      simp only [lookT] at h
      split at h
      · simp only [Option.some.injEq] at h; subst h; exact ⟨j, List.mem_cons_self⟩
      · obtain ⟨m, hm⟩ := ih h; exact ⟨m, List.mem_cons_of_mem _ hm⟩
  obtain ⟨j, hj⟩ := hmem _ h
  have hok := List.all_eq_true.1 hst _ hj
  refine ⟨?_, hok⟩
  cases o with
  | arr => rfl
  | hb => rfl
  | box cs =>
    simp only [TOb.emb]
    congr 1
    exact List.map_congr_left fun c hc => (okc (List.all_eq_true.1 hok c hc)).1
theorem look_weak {S : TStore} {R : List Store} {ks : List Nat} (hst : (pickT S ks).all (fun p => p.2.okIn (pickT S ks)) = true) {i k : Nat} {o : Ob} (h : getOb (St2 (pickT S ks) R) i k = some o) : getOb (St2 S R) i k = some o := by
  cases i with
  | succ i => exact h
  | zero =>
    rw [getOb_st2] at h ⊢
    cases hl : lookT (pickT S ks) k with
    | none => rw [hl] at h; cases h
    | some q =>
      have h1 := ok_look (S := S) (ks := ks) (k := k) (by rw [hl]; rfl)
      rw [← h1, hl, Option.map_some, ← (okob hst hl).1, ← Option.map_some, ← hl]; exact h
theorem at_weak {S : TStore} {R : List Store} {ks : List Nat} (hst : (pickT S ks).all (fun p => p.2.okIn (pickT S ks)) = true) {c : TC} (h : c.okIn (pickT S ks) = true) (i k : Nat) (hk : (c.emb S).at = some (i, k)) : getOb (St2 (pickT S ks) R) i k = getOb (St2 S R) i k := by
  obtain ⟨rfl, hs⟩ := (okc h).2 i k hk
  rw [getOb_st2, getOb_st2, ← ok_look hs]
  cases hl : lookT (pickT S ks) k with
  | none => rfl
  | some o => simp only [Option.map_some, (okob hst hl).1]
theorem at_shift (c : AV) (n i k : Nat) (h : (c.shift n).at = some (i, k)) : n ≤ i ∧ c.at = some (i - n, k) := by
  cases c <;> simp only [AV.shift, AV.at, Option.some.injEq, Prod.mk.injEq] at h <;> first | (obtain ⟨rfl, rfl⟩ := h; exact ⟨by omega, by simp [AV.at]⟩) | cases h
theorem emb_at (t : VT) (x : t.den) : (t.emb x).at = none := by
  rcases emb_val t x with h | ⟨cs, h⟩
  · cases hy : t.emb x <;> rw [hy] at h <;> first | rfl | cases h
  · rw [h]; rfl
theorem SInv.weak {S : TStore} {R : List Store} {ks : List Nat} (hst : (pickT S ks).all (fun p => p.2.okIn (pickT S ks)) = true) (h : SInv P w g may (St2 S R)) : SInv P w g may (St2 (pickT S ks) R) := by
  refine ⟨fun i k cs hg => ?_, fun i k e xs hg => h.arr i k e xs (look_weak hst hg), fun i k e xs hg => h.fz i k e xs (look_weak hst hg), fun i k o i' k' o' hg hg' => h.inj i k o i' k' o' (look_weak hst hg) (look_weak hst hg'), h.mlt⟩
  obtain ⟨h1, h2, vs, t, h3, h4, h5⟩ := h.box i k cs (look_weak hst hg)
  refine ⟨h1, h2, vs, t, h3, h4, fun j c u hc hu => ⟨(h5 j c u hc hu).1.weak fun i' k' hat => ?_, (h5 j c u hc hu).2⟩⟩
  cases i with
  | succ i =>
    have := (at_shift c (i + 1) i' k' hat).1
    cases i' with
    | zero => omega
    | succ i' => rfl
  | zero =>
    rw [getOb_st2] at hg
    cases hl : lookT (pickT S ks) k with
    | none => rw [hl] at hg; cases hg
    | some q =>
      rw [hl] at hg
      cases q with
      | arr => cases hg
      | hb vt xs =>
        simp only [Option.map_some, TOb.emb, Option.some.injEq, Ob.box.injEq] at hg
        subst hg
        obtain ⟨y, _, rfl⟩ := List.mem_map.1 (List.mem_of_getElem? hc)
        have := (at_shift _ 0 i' k' hat).2
        rw [emb_at] at this; cases this
      | box tcs =>
        simp only [Option.map_some, TOb.emb, Option.some.injEq, Ob.box.injEq] at hg
        subst hg
        have hok := (okob hst hl).2
        simp only [List.getElem?_map, Option.map_eq_some_iff] at hc
        obtain ⟨tc, htc, rfl⟩ := hc
        have htok := List.all_eq_true.1 hok tc (List.mem_of_getElem? htc)
        rw [(okc htok).1] at hat
        have := (at_shift _ 0 i' k' hat).2
        exact at_weak hst htok i' k' (by simpa using this)
theorem hrep1_weak {S : TStore} {R : List Store} {ks : List Nat} (hst : (pickT S ks).all (fun p => p.2.okIn (pickT S ks)) = true) {x : T1} (hx : x.okIn (pickT S ks) = true) {v : Value} (h : HRep1 P w g (St2 S R) (x.emb S) v) : HRep1 P w g (St2 (pickT S ks) R) (x.emb (pickT S ks)) v := by
  cases x with
  | c c =>
    have hs := tc_simple c S
    have e : (T1.c c).emb (pickT S ks) = (T1.c c).emb S := (okc hx).1
    rw [e]
    have h' : CRep P w g (St2 S R) (c.emb S) v := by
      have h : HRep1 P w g (St2 S R) (c.emb S) v := h
      cases hy : c.emb S <;> rw [hy] at h <;> first | exact h | exact absurd hy (hs.1 _)
    have h2 : CRep P w g (St2 (pickT S ks) R) (c.emb S) v := h'.weak fun i k hk => at_weak hst hx i k hk
    show HRep1 P w g (St2 (pickT S ks) R) (c.emb S) v
    cases hy : c.emb S <;> rw [hy] at h2 <;> first | exact h2 | exact absurd hy (hs.1 _)
  | agg cs =>
    have hx := List.all_eq_true.1 hx
    obtain ⟨vs, rfl, hl, hc⟩ := h
    have e : (T1.agg cs).emb (pickT S ks) = (T1.agg cs).emb S := by
      simp only [T1.emb]; congr 1
      exact List.map_congr_left fun c hc => (okc (hx c hc)).1
    rw [e]
    refine ⟨vs, rfl, hl, fun i c u hc' hu => ?_⟩
    obtain ⟨q1, q2⟩ := hc i c u hc' hu
    refine ⟨q1.weak fun i' k' hk => ?_, q2⟩
    simp only [List.getElem?_map, Option.map_eq_some_iff] at hc'
    obtain ⟨tc, htc, rfl⟩ := hc'
    exact at_weak hst (hx tc (List.mem_of_getElem? htc)) i' k' hk
  | own => cases hx
theorem hrep_weak {S : TStore} {R : List Store} {ks : List Nat} (hst : (pickT S ks).all (fun p => p.2.okIn (pickT S ks)) = true) {x : TV} (hx : x.okIn (pickT S ks) = true) {v : Value} (h : HRep P w g (St2 S R) (x.emb S) v) : HRep P w g (St2 (pickT S ks) R) (x.emb (pickT S ks)) v := by
  cases x with
  | o x =>
    have hs := t1_simple x S
    have hs2 := t1_simple x (pickT S ks)
    have h' : HRep1 P w g (St2 S R) (x.emb S) v := by
      have h : HRep P w g (St2 S R) (x.emb S) v := h
      cases hy : x.emb S <;> rw [hy] at h <;> first | exact h | exact absurd hy (hs _)
    have h2 := hrep1_weak hst hx h'
    show HRep P w g (St2 (pickT S ks) R) (x.emb (pickT S ks)) v
    cases hy : x.emb (pickT S ks) <;> rw [hy] at h2 <;> first | exact h2 | exact absurd hy (hs2 _)
  | tup xs =>
    have hx := List.all_eq_true.1 hx
    obtain ⟨vs, rfl, hl, hc⟩ := h
    refine ⟨vs, rfl, by simpa using hl, fun i c u hc' hu => ?_⟩
    simp only [List.getElem?_map, Option.map_eq_some_iff] at hc'
    obtain ⟨y, hy, rfl⟩ := hc'
    exact hrep1_weak hst (hx y (List.mem_of_getElem? hy)) (hc i (y.emb S) u (by rw [List.getElem?_map, hy]; rfl) hu)
  | efz t x off => exact h
theorem findSlot_map (ls : List Nat) (f : Nat → TV) (t : Nat) : findSlot (ls.map fun t => (t, f t)) t = if t ∈ ls then f t else .a .dead := by
  induction ls with
  | nil => rfl
  | cons j r ih =>
    simp only [List.map_cons, findSlot, ih]
    by_cases h : j = t
    · subst h; simp
    · simp [h, Ne.symm h]
def Wk (P : Program) (s s2 : TSt) : Prop := (∀ (R : List Store) (may : Nat → Prop) (a : Act) (w : World) (g : Gh), Sim P may (s.emb R) a w g → Sim P may (s2.emb R) a w g) ∧ ∀ k, 500000 ≤ k → (lookT s2.st k).map (TOb.emb s2.st) = (lookT s.st k).map (TOb.emb s.st)
theorem lookT_mem {S : TStore} {k : Nat} {o : TOb} (h : lookT S k = some o) : (k, o) ∈ S := by
  induction S with
  | nil => cases h
  | cons p r ih =>
    obtain ⟨j, q⟩ := p
    simp only [lookT] at h
    split at h
    · rename_i he
      simp only [Option.some.injEq] at h; subst h; subst he; exact List.mem_cons_self
    · exact List.mem_cons_of_mem _ (ih h)
theorem cleanT_ok {n : Nat} {ls ks : List Nat} {s : TSt} {K : TSt → Prop} (h : cleanT n ls ks s K) :
    ∃ s2, K s2 ∧ Wk P s s2 := by
  unfold cleanT at h
  simp only at h
  split at h
  · rename_i hc
    obtain ⟨hn, hsl, hst, hkp⟩ := hc
    refine ⟨_, h, fun R may a w g hs => ?_, fun k hk => ?_⟩
    case refine_2 =>
      show (lookT (pickT s.st ks) k).map _ = _
      cases hl : lookT s.st k with
      | none =>
        rw [lookT_pick, hl]
        split <;> rfl
      | some o =>
        have hm := List.all_eq_true.1 hkp _ (lookT_mem hl)
        simp only [Bool.or_eq_true] at hm
        have hin : k ∈ ks := by
          rcases hm with hm | hm
          · have : Nat.blt k 500000 = true := hm
            have := Nat.le_of_ble_eq_true this
            omega
          · simpa using hm
        have h1 : lookT (pickT s.st ks) k = some o := by rw [lookT_pick, if_pos hin, hl]
        rw [h1]
        simp only [Option.map_some, Option.some.injEq]
        exact (okob hst h1).1
    refine ⟨SInv.weak hst hs.inv, ?_, fun t x hx => ?_, hs.defers, by simp [TSt.emb]⟩
    · rw [hs.len]; simp [TSt.emb, mkS, hn]
    · simp only [TSt.emb, mkS, List.map_map, List.getElem?_map, Option.map_eq_some_iff] at hx
      obtain ⟨t', ht, rfl⟩ := hx
      have htt : t' = t ∧ t < n := by
        have := List.getElem?_eq_some_iff.1 ht
        obtain ⟨hlt, he⟩ := this
        simp at hlt he
        exact ⟨he.symm, hlt⟩
      obtain ⟨rfl, hlt⟩ := htt
      simp only [Function.comp, findSlot_map]
      split
      · rename_i hm
        have hok := List.all_eq_true.1 hsl _ (List.mem_map.2 ⟨t', hm, rfl⟩)
        have := hs.get t'
        rw [emb_get] at this
        exact hrep_weak hst hok this
      · trivial
  · exact h.elim
theorem Wk.look {s s2 : TSt} (h : Wk P s s2) (R : List Store) {i k : Nat} (hi : 1 ≤ i ∨ 500000 ≤ k) : getOb (s2.emb R).stores i k = getOb (s.emb R).stores i k := by
  cases i with
  | succ i => rfl
  | zero =>
    show getOb (St2 s2.st R) 0 k = getOb (St2 s.st R) 0 k
    rw [getOb_st2, getOb_st2]
    exact h.2 k (by omega)
theorem leaves_from {s s2 : TSt} {R : List Store} {s' : St} {a' : Act} {w' : World} (hw : Wk P s s2) (h : Leaves P may (s2.emb R) w g s' a' w') : Leaves P may (s.emb R) w g s' a' w' := by
  obtain ⟨g', h1, h2, h3⟩ := h
  exact ⟨g', h1, h2, fun i k cs hi hb => h3.box i k cs hi (by rw [hw.look R hi]; exact hb), fun i k fz e xs hi ha => h3.arr i k fz e xs hi (by rw [hw.look R hi]; exact ha)⟩
theorem leaves_to {s2 s1 : TSt} {s0 : St} {R : List Store} {a' : Act} {w' : World} (hw : Wk P s1 s2) (h : Leaves P may s0 w g (s1.emb R) a' w') : Leaves P may s0 w g (s2.emb R) a' w' := by
  obtain ⟨g', h1, h2, h3⟩ := h
  refine ⟨g', hw.1 _ _ _ _ _ h1, h2, fun i k cs hi hb => ?_, fun i k fz e xs hi ha => ?_⟩
  · have := h3.box i k cs hi hb
    rw [hw.look R hi]; exact this
  · have := h3.arr i k fz e xs hi ha
    rw [hw.look R hi]; exact this
def Ends (P : Program) (may : Nat → Prop) (R : List Store) (s : TSt) (w : World) (g : Gh) (Φ : AExit → TSt → Prop) : Exit → Act → World → Prop :=
  fun x a' w' => ∃ e s', x = e.toExit ∧ Φ e s' ∧ Leaves P may (s.emb R) w g (s'.emb R) a' w'
def Run (P : Program) (t : Task) (s : TSt) (Φ : AExit → TSt → Prop) : Prop :=
  ∀ (R : List Store) (may : Nat → Prop) (a : Act) (w : World) (g : Gh), Sim P may (s.emb R) a w g → (∀ b, w.heap.size ≤ b → may b) → Goes P t (Ends P may R s w g Φ) a w
theorem Run.of_clean {t : Task} {s : TSt} {n : Nat} {ls ks : List Nat} {Φ : AExit → TSt → Prop} {K : TSt → Prop} (h : cleanT n ls ks s K) (hK : ∀ s2, K s2 → Run P t s2 Φ) : Run P t s Φ := by
  obtain ⟨s2, hk, hw⟩ := cleanT_ok (P := P) h
  intro R may a w g hs hm
  have h2 := hK s2 hk R may a w g (hw.1 _ _ _ _ _ hs) hm
  have step : ∀ x a' w', Ends P may R s2 w g Φ x a' w' → Ends P may R s w g Φ x a' w' := by
    rintro x a' w' ⟨e, s', hx, hp, hl⟩
    exact ⟨e, s', hx, hp, leaves_from hw hl⟩
  cases t with
  | within c rest =>
    intro b k cs
    obtain ⟨e, a', w', hq, harr⟩ := h2 b k cs
    exact ⟨e, a', w', step _ _ _ hq, harr⟩
  | code c =>
    cases c with
    | loop c =>
      intro b k cs
      obtain ⟨e, a', w', hq, harr⟩ := h2 b k cs
      exact ⟨e, a', w', step _ _ _ hq, harr⟩
    | _ => exact wp_mono h2 step
theorem Run.mono {t : Task} {s : TSt} {Φ Φ' : AExit → TSt → Prop} (h : Run P t s Φ) (hk : ∀ e s', Φ e s' → ∃ s2, Φ' e s2 ∧ Wk P s' s2) : Run P t s Φ' := by
  intro R may a w g hs hm
  have h2 := h R may a w g hs hm
  have step : ∀ x a' w', Ends P may R s w g Φ x a' w' → Ends P may R s w g Φ' x a' w' := by
    rintro x a' w' ⟨e, s', hx, hp, hl⟩
    obtain ⟨s2, hp2, hw⟩ := hk e s' hp
    exact ⟨e, s2, hx, hp2, leaves_to hw hl⟩
  cases t with
  | within c rest =>
    intro b k cs
    obtain ⟨e, a', w', hq, harr⟩ := h2 b k cs
    exact ⟨e, a', w', step _ _ _ hq, harr⟩
  | code c =>
    cases c with
    | loop c =>
      intro b k cs
      obtain ⟨e, a', w', hq, harr⟩ := h2 b k cs
      exact ⟨e, a', w', step _ _ _ hq, harr⟩
    | _ => exact wp_mono h2 step
theorem Run.code {c : Code} {s : TSt} {Φ : AExit → TSt → Prop} (h : Run P (.code c) s Φ) {R : List Store} {a : Act} (hs : Sim P may (s.emb R) a w g) (hm : ∀ b, w.heap.size ≤ b → may b) : c.wp P (Ends P may R s w g Φ) a w :=
  (h R may a w g hs hm).code
theorem Ends.trans {R : List Store} {s s1 : TSt} {Φ : AExit → TSt → Prop} {x : Exit} {a2 : Act} {w1 w2 : World} {g1 : Gh} (k2 : Fr may w g.M w1 g1.M) (k3 : Kp 1 (s.emb R).stores g (s1.emb R).stores g1) (h : Ends P may R s1 w1 g1 Φ x a2 w2) : Ends P may R s w g Φ x a2 w2 := by
  obtain ⟨e, s', hx, hp, g2, q1, q2, q3⟩ := h
  exact ⟨e, s', hx, hp, g2, q1, k2.trans q2, k3.trans q3⟩
def LamOk (P : Program) (Λ : Known) : Code → Prop
  | .seq a b => LamOk P Λ a ∧ LamOk P Λ b
  | .cond _ a b => LamOk P Λ a ∧ LamOk P Λ b
  | .block id c => match Λ.blk id with
    | some ψ => ∀ s Φ, ψ s Φ → Run P (.code (.block id c)) s Φ
    | none => LamOk P Λ c
  | .scope c => LamOk P Λ c ∧ ∀ l rest ψ, findLabel c l = some rest → Λ.lab l = some ψ → ∀ s Φ, ψ s Φ → Run P (.within c rest) s Φ
  | _ => True
structure KnownOk (P : Program) (E : Env) (Λ : Known) : Prop where
  env : EnvOk P E
  lend : ∀ f, Λ.D f = none → ∀ j, E.lend f j = false
  ctr : CtrOk E Λ.G
  del : LendOk E Λ.D
  solo : E.solo = Λ.solo
  draw : ∀ ops, Λ.ok ops = true → drawM E.solo ops = true
theorem wpT_ok {Λ : Known} (hΛ : KnownOk P E Λ) : ∀ (c : Code) (s : TSt) (Φ : AExit → TSt → Prop), LamOk P Λ c → wpT P Λ c s Φ → Run P (.code c) s Φ := by
  intro c
  induction c with
  | skip => intro s Φ _ h R may a w g hs hm; exact wp_skip ⟨.normal, s, rfl, h, .same hs rfl⟩
  | label l => intro s Φ _ h R may a w g hs hm; exact wp_label ⟨.normal, s, rfl, h, .same hs rfl⟩
  | exit id => intro s Φ _ h R may a w g hs hm; exact wp_exit ⟨.exit id, s, rfl, h, .same hs rfl⟩
  | goto l => intro s Φ _ h R may a w g hs hm; exact wp_goto ⟨.goto l, s, rfl, h, .same hs rfl⟩
  | ret => intro s Φ _ h R may a w g hs hm; exact wp_ret ⟨.ret, s, rfl, h, .same hs rfl⟩
  | region id ops d =>
    intro s Φ _ h R may a w g hs hm
    let rec0 : Rec := fun _ _ => none
    have hrec : RecOk P rec0 := fun t s e s' h => by cases h
    cases d with
    | false =>
      obtain ⟨s1, h1, hp⟩ := opsT_ok (R := R) (stA := fun o s => stepOp P E rec0 s o) (fun s o K hk => stepOpT_ok hΛ.lend hΛ.ctr hΛ.del hk) _ s _ h
      exact wp_region (opsA_wp (fun o s s' h => stepOp_wp hΛ.env hrec h) hm (fun a' w' hl => ⟨.normal, s1, rfl, hp, hl⟩) _ _ _ _ h1 (.same hs rfl))
    | true =>
      simp only [wpT] at h
      split at h
      · rename_i hok
        obtain ⟨s1, h1, hp⟩ := opsT_ok (R := R) (stA := fun o s => drawOp P E rec0 s o) (fun s o K hk => by
          rw [← hΛ.solo] at hk; exact drawT_ok hΛ.lend hΛ.ctr hΛ.del hk) _ s _ h
        refine wp_region_draw fun t => ?_
        rw [hΛ.env.wide]
        have h2 := draw_okM (hΛ.draw ops hok) rec0 _ _ t h1
        have hd : Ext w { w with drawn := w.drawn + 1 } := Ext.drew w
        obtain ⟨q1, q2, q3⟩ := hs.grow hm hd (M' := g.M) (fun b o h => h) (fun b o h hn => absurd h hn)
        exact opsA_wp (fun o s s' h => drawOp_wp hΛ.env hrec h) hm (fun a' w' hl => ⟨.normal, s1, rfl, hp, hl⟩) _ _ _ _ h2 ⟨_, q1, q2, q3.mono (by omega)⟩
      · exact h.elim
  | seq x y ihx ihy =>
    intro s Φ hl h R may a w g hs hm
    refine wp_seq (wp_mono ((ihx s _ hl.1 h).code hs hm) fun ex a1 w1 ⟨e, s1, hx, hp, hlv⟩ => ?_)
    subst hx
    cases e with
    | normal =>
      obtain ⟨g1, k1, k2, k3⟩ := hlv
      exact wp_mono ((ihy s1 Φ hl.2 hp).code k1 fun b hb => hm b (Nat.le_trans k2.size hb)) fun ex a2 w2 he => he.trans k2 k3
    | exit id => exact ⟨.exit id, s1, rfl, hp, hlv⟩
    | goto l => exact ⟨.goto l, s1, rfl, hp, hlv⟩
    | ret => exact ⟨.ret, s1, rfl, hp, hlv⟩
  | cond c x y ihx ihy =>
    intro s Φ hl h R may a w g hs hm
    simp only [wpT] at h
    split at h
    · rename_i t ht
      have he : evalO (s.emb R) c = some (.x (.bool t)) := evalT_ok ht
      have := (hs.evalO he).inv_x.1
      rcases brc_cases h with ⟨rfl, h'⟩ | ⟨rfl, h'⟩
      · exact wp_cond this ((ihx s Φ hl.1 h').code hs hm)
      · exact wp_cond this ((ihy s Φ hl.2 h').code hs hm)
    · exact h.elim
  | block id c ih =>
    intro s Φ hl h R may a w g hs hm
    simp only [wpT] at h
    simp only [LamOk] at hl
    split at h
    · rename_i ψ hψ
      rw [hψ] at hl
      exact (hl s Φ h) R may a w g hs hm
    · rename_i hψ
      rw [hψ] at hl
      refine wp_block (wp_mono ((ih s _ hl h).code hs hm) fun ex a1 w1 ⟨e, s1, hx, hp, hlv⟩ => ?_)
      subst hx
      cases e with
      | normal => exact ⟨.normal, s1, rfl, hp, hlv⟩
      | goto l => exact ⟨.goto l, s1, rfl, hp, hlv⟩
      | ret => exact ⟨.ret, s1, rfl, hp, hlv⟩
      | exit i =>
        simp only [AExit.toExit, Exit.inBlock]
        simp only at hp
        split at hp
        · rename_i hi
          rw [if_pos (Nat.eq_of_beq_eq_true hi)]
          exact ⟨.normal, s1, rfl, hp, hlv⟩
        · rename_i hi
          rw [if_neg (Nat.ne_of_beq_eq_false hi)]
          exact ⟨.exit i, s1, rfl, hp, hlv⟩
  | loop c ih => intro s Φ _ h; exact h.elim
  | scope c ih =>
    intro s Φ hl h R may a w g hs hm
    have h1 := (ih s _ hl.1 h).code hs hm
    intro b k cs
    obtain ⟨ex, a1, w1, ⟨e, s1, hx, hp, hlv⟩, harr⟩ := h1 b (.inScope c :: k) cs
    subst hx
    have fin : ∀ {ex a2 w2}, Ends P may R s w g Φ ex a2 w2 → Arrives P (lone (b.at a (.code c :: .inScope c :: k)) cs w) b k cs ex a2 w2 → ∃ e a' w', Ends P may R s w g Φ e a' w' ∧ Arrives P (lone (b.at a (.code (.scope c) :: k)) cs w) b k cs e a' w' :=
      fun h1 h2 => ⟨_, _, _, h1, .of_steps (.one step_scope) h2⟩
    cases e with
    | normal => exact fin ⟨.normal, s1, rfl, hp, hlv⟩ (Steps.trans harr (.one step_inScope))
    | exit id => exact fin ⟨.exit id, s1, rfl, hp, hlv⟩ (fun k' hk => harr k' (by simp [exitTo, hk]))
    | ret => exact fin ⟨.ret, s1, rfl, hp, hlv⟩ harr
    | goto l =>
      simp only at hp
      split at hp
      · rename_i rest hf
        obtain ⟨ψ, hψ, hp⟩ := need_some hp
        obtain ⟨g1, k1, k2, k3⟩ := hlv
        obtain ⟨ex, a2, w2, he, harr2⟩ := hl.2 l rest ψ hf hψ s1 Φ hp R may a1 w1 g1 k1 (fun b hb => hm b (Nat.le_trans k2.size hb)) b k cs
        exact fin (he.trans k2 k3) (.of_steps (harr _ (gotoIn_scope hf)) harr2)
      · rename_i hf
        exact fin ⟨.goto l, s1, rfl, hp, hlv⟩ (fun k' hk => harr k' (by simp [gotoIn, hf, hk]))
  | rangeFunc => intro s Φ _ h; exact h.elim
  | refuse => intro s Φ _ h; exact h.elim
end
end Go.AbsM
end

section
namespace Go.AbsM
section
variable {P : Program} {E : Env} {w : World} {g : Gh} {may : Nat → Prop}
abbrev Post := AExit → TSt → Prop
def blockK (id : Nat) (Φ : Post) : Post := fun e s2 => match e with
  | .exit k => match k.beq id with
    | true => Φ .normal s2
    | false => Φ (.exit k) s2
  | .normal => Φ .normal s2
  | .goto l => Φ (.goto l) s2
  | .ret => Φ .ret s2
def stepK {ι : Type} (n : Nat) (ls ks lx kx : List Nat) (id : Nat) (mk : ι → TSt) (μ : ι → Nat) (ψ : ι → Post → Prop) (m : Nat) (Φ : Post) : Post := fun e s1 => match e with
  | .normal => cleanT n ls ks s1 fun s2 => ∃ j, s2 = mk j ∧ μ j < m ∧ ψ j Φ
  | .exit k => cleanT n lx kx s1 fun s2 => match k.beq id with
    | true => Φ .normal s2
    | false => Φ (.exit k) s2
  | .goto l => cleanT n lx kx s1 fun s2 => Φ (.goto l) s2
  | .ret => cleanT n lx kx s1 fun s2 => Φ .ret s2
theorem run_loop0 {ι : Type} {Λ : Known} (hΛ : KnownOk P E Λ) {n : Nat} {ls ks lx kx : List Nat} {id : Nat} {mk : ι → TSt} {μ : ι → Nat} {ψ : ι → Post → Prop} {c : Code} (hL : LamOk P Λ c)
    (step : ∀ i Φ, ψ i Φ → wpT P Λ c (mk i) (stepK n ls ks lx kx id mk μ ψ (μ i) Φ)) : ∀ (m : Nat) (i : ι) (Φ : Post), μ i < m → ψ i Φ → Run P (.code (.loop c)) (mk i) (fun e s2 => e ≠ .normal ∧ blockK id Φ e s2) := by
  intro m
  induction m with
  | zero => intro i Φ h; omega
  | succ m ih =>
    intro i Φ hi hψ R may a w g hs hm b k cs
    have h1 := (wpT_ok hΛ c (mk i) _ hL (step i Φ hψ)).code hs hm
    obtain ⟨ex, a1, w1, ⟨e, s1, hx, hp, hlv⟩, harr⟩ := h1 b (.inLoop c :: k) cs
    subst hx
    unfold stepK at hp
    cases e with
    | normal =>
      obtain ⟨s2, hp, hw⟩ := cleanT_ok (P := P) hp
      have hlv := leaves_to hw hlv
      obtain ⟨j, rfl, hj, hψj⟩ := hp
      obtain ⟨g1, k1, k2, k3⟩ := hlv
      obtain ⟨ex, a2, w2, he, harr2⟩ := ih j Φ (by omega) hψj R may a1 w1 g1 k1 (fun b hb => hm b (Nat.le_trans k2.size hb)) b k cs
      exact ⟨ex, a2, w2, he.trans k2 k3, .of_steps (Steps.trans harr (.one step_inLoop)) harr2⟩
    | exit id' =>
      obtain ⟨s2, hp, hw⟩ := cleanT_ok (P := P) hp
      exact ⟨_, a1, w1, ⟨.exit id', s2, rfl, ⟨(fun h => by cases h), hp⟩, leaves_to hw hlv⟩, .pass (x := .inLoop c) rfl (fun _ _ => .inl (by simp [AExit.toExit])) harr⟩
    | goto l =>
      obtain ⟨s2, hp, hw⟩ := cleanT_ok (P := P) hp
      exact ⟨_, a1, w1, ⟨.goto l, s2, rfl, ⟨(fun h => by cases h), hp⟩, leaves_to hw hlv⟩, .pass (x := .inLoop c) rfl (fun _ _ => .inl (by simp [AExit.toExit])) harr⟩
    | ret =>
      obtain ⟨s2, hp, hw⟩ := cleanT_ok (P := P) hp
      exact ⟨_, a1, w1, ⟨.ret, s2, rfl, ⟨(fun h => by cases h), hp⟩, leaves_to hw hlv⟩, .pass (x := .inLoop c) rfl (fun _ _ => .inl (by simp [AExit.toExit])) harr⟩
theorem run_block {id : Nat} {c : Code} {s : TSt} {Φ : Post} (h : Run P (.code c) s (blockK id Φ)) : Run P (.code (.block id c)) s Φ := by
  intro R may a w g hs hm
  refine wp_block (wp_mono (h.code hs hm) fun ex a1 w1 ⟨e, s1, hx, hp, hlv⟩ => ?_)
  subst hx
  cases e with
  | normal => exact ⟨.normal, s1, rfl, hp, hlv⟩
  | goto l => exact ⟨.goto l, s1, rfl, hp, hlv⟩
  | ret => exact ⟨.ret, s1, rfl, hp, hlv⟩
  | exit i =>
    simp only [AExit.toExit, Exit.inBlock]
    simp only [blockK] at hp
    split at hp
    · rename_i hi
      rw [if_pos (Nat.eq_of_beq_eq_true hi)]
      exact ⟨.normal, s1, rfl, hp, hlv⟩
    · rename_i hi
      rw [if_neg (Nat.ne_of_beq_eq_false hi)]
      exact ⟨.exit i, s1, rfl, hp, hlv⟩
theorem sim_id (s' : TSt) : Wk P s' s' := ⟨fun _ _ _ _ _ h => h, fun _ _ => rfl⟩
def loopP {ι : Type} (n : Nat) (ls ks : List Nat) (mk : ι → TSt) (ψ : ι → Post → Prop) : Piece := fun s Φ => cleanT n ls ks s fun s2 => ∃ i, s2 = mk i ∧ ψ i Φ
theorem run_loop {ι : Type} {Λ : Known} (hΛ : KnownOk P E Λ) {n : Nat} {ls ks lx kx : List Nat} {id : Nat} {mk : ι → TSt} {ψ : ι → Post → Prop} {c : Code} (μ : ι → Nat) (hL : LamOk P Λ c)
    (step : ∀ i Φ, ψ i Φ → wpT P Λ c (mk i) (stepK n ls ks lx kx id mk μ ψ (μ i) Φ)) (s : TSt) (Φ : Post) (h : loopP n ls ks mk ψ s Φ) : Run P (.code (.block id (.loop c))) s Φ := by
  refine Run.of_clean h fun s2 ⟨i, he, hψ⟩ => ?_
  subst he
  exact run_block (Run.mono (run_loop0 hΛ hL step _ i Φ (Nat.lt_succ_self _) hψ) fun e s' h => ⟨s', h.2, sim_id s'⟩)
def jumpK {ι : Type} (Λ : Known) (n : Nat) (ls ks lx kx : List Nat) (c : Code) (l : Nat) (mk : ι → TSt) (μ : ι → Nat) (ψ : ι → Post → Prop) (m : Nat) (Φ : Post) : Post := fun e s1 => match e with
  | .goto l' => match l'.beq l with
    | true => cleanT n ls ks s1 fun s2 => ∃ j, s2 = mk j ∧ μ j < m ∧ ψ j Φ
    | false => match findLabel c l' with
      | none => cleanT n lx kx s1 fun s2 => Φ (.goto l') s2
      | some _ => need (Λ.lab l') fun ψ' => ψ' s1 fun e s2 => cleanT n lx kx s2 fun s3 => Φ e s3
  | .normal => cleanT n lx kx s1 fun s2 => Φ .normal s2
  | .exit i => cleanT n lx kx s1 fun s2 => Φ (.exit i) s2
  | .ret => cleanT n lx kx s1 fun s2 => Φ .ret s2
theorem run_jump0 {ι : Type} {Λ : Known} (hΛ : KnownOk P E Λ) {n : Nat} {ls ks lx kx : List Nat} {mk : ι → TSt} {μ : ι → Nat} {ψ : ι → Post → Prop} {c rest : Code} {l : Nat} (hL : LamOk P Λ rest) (hf : findLabel c l = some rest)
    (hlab : ∀ l' rest' ψ', l' ≠ l → findLabel c l' = some rest' → Λ.lab l' = some ψ' → ∀ s Φ, ψ' s Φ → Run P (.within c rest') s Φ)
    (step : ∀ i Φ, ψ i Φ → wpT P Λ rest (mk i) (jumpK Λ n ls ks lx kx c l mk μ ψ (μ i) Φ)) : ∀ (m : Nat) (i : ι) (Φ : Post), μ i < m → ψ i Φ → Run P (.within c rest) (mk i) Φ := by
  intro m
  induction m with
  | zero => intro i Φ h; omega
  | succ m ih =>
    intro i Φ hi hψ R may a w g hs hm b k cs
    have h1 := (wpT_ok hΛ rest (mk i) _ hL (step i Φ hψ)).code hs hm
    obtain ⟨ex, a1, w1, ⟨e, s1, hx, hp, hlv⟩, harr⟩ := h1 b (.inScope c :: k) cs
    subst hx
    cases e with
    | normal =>
      obtain ⟨s2, hp, hw⟩ := cleanT_ok (P := P) hp
      exact ⟨_, a1, w1, ⟨.normal, s2, rfl, hp, leaves_to hw hlv⟩, Steps.trans harr (.one step_inScope)⟩
    | exit id =>
      obtain ⟨s2, hp, hw⟩ := cleanT_ok (P := P) hp
      exact ⟨_, a1, w1, ⟨.exit id, s2, rfl, hp, leaves_to hw hlv⟩, fun k' hk => harr k' (by simp [exitTo, hk])⟩
    | ret =>
      obtain ⟨s2, hp, hw⟩ := cleanT_ok (P := P) hp
      exact ⟨_, a1, w1, ⟨.ret, s2, rfl, hp, leaves_to hw hlv⟩, harr⟩
    | goto l' =>
      simp only [jumpK] at hp
      split at hp
      · rename_i he
        have he := Nat.eq_of_beq_eq_true he
        subst he
        obtain ⟨s2, hp, hw⟩ := cleanT_ok (P := P) hp
        have hlv := leaves_to hw hlv
        obtain ⟨j, rfl, hj, hψj⟩ := hp
        obtain ⟨g1, k1, k2, k3⟩ := hlv
        obtain ⟨ex, a2, w2, he, harr2⟩ := ih j Φ (by omega) hψj R may a1 w1 g1 k1 (fun b hb => hm b (Nat.le_trans k2.size hb)) b k cs
        exact ⟨ex, a2, w2, he.trans k2 k3, .of_steps (harr _ (gotoIn_scope hf)) harr2⟩
      · rename_i hne
        have hne := Nat.ne_of_beq_eq_false hne
        split at hp
        · rename_i hf'
          obtain ⟨s2, hp, hw⟩ := cleanT_ok (P := P) hp
          exact ⟨_, a1, w1, ⟨.goto l', s2, rfl, hp, leaves_to hw hlv⟩, fun k' hk => harr k' (by simp [gotoIn, hf', hk])⟩
        · rename_i rest' hf'
          obtain ⟨ψ', hψ', hp⟩ := need_some hp
          obtain ⟨g1, k1, k2, k3⟩ := hlv
          have hr := (hlab l' rest' ψ' hne hf' hψ' s1 _ hp).mono fun e s' h => cleanT_ok (P := P) h
          obtain ⟨ex, a2, w2, he, harr2⟩ := hr R may a1 w1 g1 k1 (fun b hb => hm b (Nat.le_trans k2.size hb)) b k cs
          exact ⟨ex, a2, w2, he.trans k2 k3, .of_steps (harr _ (gotoIn_scope hf')) harr2⟩
theorem run_jump {ι : Type} {Λ : Known} (hΛ : KnownOk P E Λ) {n : Nat} {ls ks lx kx : List Nat} {mk : ι → TSt} {ψ : ι → Post → Prop} {c rest : Code} {l : Nat} (μ : ι → Nat) (hL : LamOk P Λ rest) (hf : findLabel c l = some rest)
    (hlab : ∀ l' rest' ψ', l' ≠ l → findLabel c l' = some rest' → Λ.lab l' = some ψ' → ∀ s Φ, ψ' s Φ → Run P (.within c rest') s Φ)
    (step : ∀ i Φ, ψ i Φ → wpT P Λ rest (mk i) (jumpK Λ n ls ks lx kx c l mk μ ψ (μ i) Φ)) (s : TSt) (Φ : Post) (h : loopP n ls ks mk ψ s Φ) : Run P (.within c rest) s Φ := by
  refine Run.of_clean h fun s2 ⟨i, he, hψ⟩ => ?_
  subst he
  exact run_jump0 hΛ hL hf hlab step _ i Φ (Nat.lt_succ_self _) hψ
def blocksOf : Code → List (Nat × Code)
  | .seq a b => blocksOf a ++ blocksOf b
  | .cond _ a b => blocksOf a ++ blocksOf b
  | .block id c => (id, c) :: blocksOf c
  | .loop c => blocksOf c
  | .scope c => blocksOf c
  | _ => []
def scopesOf : Code → List Code
  | .seq a b => scopesOf a ++ scopesOf b
  | .cond _ a b => scopesOf a ++ scopesOf b
  | .block _ c => scopesOf c
  | .loop c => scopesOf c
  | .scope c => c :: scopesOf c
  | _ => []
theorem lamOk_of {Λ : Known} {c : Code} (hb : ∀ id c', (id, c') ∈ blocksOf c → ∀ ψ, Λ.blk id = some ψ → ∀ s Φ, ψ s Φ → Run P (.code (.block id c')) s Φ)
    (hs : ∀ c', c' ∈ scopesOf c → ∀ l rest ψ, findLabel c' l = some rest → Λ.lab l = some ψ → ∀ s Φ, ψ s Φ → Run P (.within c' rest) s Φ) : LamOk P Λ c := by
  induction c with
  | seq a b iha ihb =>
    exact ⟨iha (fun id c' h => hb id c' (List.mem_append_left _ h)) (fun c' h => hs c' (List.mem_append_left _ h)), ihb (fun id c' h => hb id c' (List.mem_append_right _ h)) (fun c' h => hs c' (List.mem_append_right _ h))⟩
  | cond o a b iha ihb =>
    exact ⟨iha (fun id c' h => hb id c' (List.mem_append_left _ h)) (fun c' h => hs c' (List.mem_append_left _ h)), ihb (fun id c' h => hb id c' (List.mem_append_right _ h)) (fun c' h => hs c' (List.mem_append_right _ h))⟩
  | block id c ih =>
    simp only [LamOk]
    split
    · rename_i ψ hψ; exact hb id c List.mem_cons_self ψ hψ
    · exact ih (fun id c' h => hb id c' (List.mem_cons_of_mem _ h)) hs
  | scope c ih =>
    exact ⟨ih hb (fun c' h => hs c' (List.mem_cons_of_mem _ h)), hs c List.mem_cons_self⟩
  | _ => trivial
def nodupB : List Nat → Bool
  | [] => true
  | a :: r => !r.contains a && nodupB r
def findB : List (Nat × Code) → Nat → Code
  | [], _ => .skip
  | (k, c) :: r, n => if k = n then c else findB r n
theorem findB_mem {l : List (Nat × Code)} (hn : nodupB (l.map (·.1)) = true) {id : Nat} {c : Code} (h : (id, c) ∈ l) : c = findB l id := by
  induction l with
  | nil => cases h
  | cons p r ih =>
    obtain ⟨k, c'⟩ := p
    simp only [List.map_cons, nodupB, Bool.and_eq_true, Bool.not_eq_true'] at hn
    simp only [findB]
    rcases List.mem_cons.1 h with h | h
    · cases h; rw [if_pos rfl]
    · have hne : k ≠ id := by
        intro e; subst e
        have : k ∈ r.map (·.1) := List.mem_map.2 ⟨_, h, rfl⟩
        have h2 := hn.1
        simp at h2
        simp at this
        obtain ⟨x, hx⟩ := this
        exact h2 x hx
      rw [if_neg hne]; exact ih hn.2 h
def blkC (c : Code) (id : Nat) : Code := findB (blocksOf c) id
def scC (c : Code) : Code := (scopesOf c).headD .skip
theorem lamOk_body {Λ : Known} {c : Code} (hn : nodupB ((blocksOf c).map (·.1)) = true) (h1 : decide ((scopesOf c).length ≤ 1) = true)
    (hb : ∀ id ψ, Λ.blk id = some ψ → ∀ s Φ, ψ s Φ → Run P (.code (.block id (blkC c id))) s Φ)
    (hs : ∀ l rest ψ, findLabel (scC c) l = some rest → Λ.lab l = some ψ → ∀ s Φ, ψ s Φ → Run P (.within (scC c) rest) s Φ) : LamOk P Λ c := by
  refine lamOk_of (fun id c' h ψ hψ => ?_) fun c' h => ?_
  · rw [findB_mem hn h]; exact hb id ψ hψ
  · have h1 := of_decide_eq_true h1
    have : c' = scC c := by
      unfold scC
      cases hl : scopesOf c with
      | nil => rw [hl] at h; cases h
      | cons x r =>
        rw [hl] at h h1
        cases r with
        | nil => simp at h; simp [h]
        | cons y r => simp at h1
    rw [this]; exact hs
theorem body_sound2 {f : FuncId} {fn : Func} {c : Code} {args : List AV} {S : List Store} {r : AV} (hf : P.funcs[f]? = some fn) (hb : fn.body = some c)
    (hc : ∀ (may : Nat → Prop) (a : Act) (w : World) (g : Gh), Sim P may (enterA fn args S) a w g → (∀ b, w.heap.size ≤ b → may b) → c.wp P (fun x a' w' => ∃ e s1 s2 l l1 ys t, x = AExit.toExit e ∧ (e = .ret ∨ e = .normal) ∧ resultAll P s1 fn.results.toList = some l ∧ settle s1 l = some (s2, l1) ∧ outAll s2 [] l1 = some ys ∧ s2.stores = t :: S ∧ r = oneOf ys ∧ Leaves P may (enterA fn args S) w g s1 a' w') a w) : CallC P f args S S r := by
  intro may w g vs hi hm hlen hargs
  refine calls_of_wp hf hb (wp_mono (hc may _ w _ (enter_sim hi hlen hargs) hm) fun x a' w' ⟨e, s1, s2, l, l1, ys, t, hx, he, hl, hse, ho, hst, hr, g1, h1, h2, h3⟩ => ?_)
  have fin : a'.defers = [] ∧ ∃ v, (results fn a'.tmps).run P w' = .ok v w' ∧ (∃ v' g', Ending.returned v = Ending.returned v' ∧ Fr may w g.M w' g'.M ∧ SInv P w' g' may S ∧ Kp 0 S g S g' ∧ ResRep P may w' g' S r v') := by
    refine ⟨h1.defers, ?_⟩
    obtain ⟨us, hrun, hus⟩ := resultAll_sound (f := (fun | .tmp t => pure (a'.tmps.getD t undef) | .cell c t => do loadVar t (← asAddr (a'.tmps.getD c undef)) : ResultVar → Sem Value)) h1 (fun _ => rfl) (fun _ _ => rfl) hl
    obtain ⟨g2, k1, hus1⟩ := settle_sound h1 hus hse
    obtain ⟨hul, ks, o1, o2, o3⟩ := outAll_sound hst k1.1.inv hus1 ho
    refine ⟨_, results_run (fun _ => rfl) (fun _ _ => rfl) hrun, _, g2.pop, rfl, h2.trans k1.2.1, ?_, ?_, ?_⟩
    · have := k1.1.inv; rw [hst] at this; exact this.pop
    · have := h3.trans (k1.2.2.1.mono (by omega)); rw [hst] at this; exact this.pop
    · subst hr
      have all : OReps P may w' g2.pop S ys us := ⟨hul, fun i => g2.B 0 (ks i), o1, fun i j e xs e' xs' hi' hj' heq => by
        obtain ⟨_, o, ho1, ho2⟩ := o2 i _ _ hi'
        obtain ⟨_, p, hp1, hp2⟩ := o2 j _ _ hj'
        exact o3 i j _ _ _ _ hi' hj' (k1.1.inv.inj 0 (ks i) o 0 (ks j) p ho1 hp1 ho2 hp2 heq).2⟩
      match ys, us, hul, all with
      | [], [], _, all => exact ⟨[], rfl, all⟩
      | [y], [u], _, all =>
        obtain ⟨_, bl, q1, _⟩ := all
        have := q1 0 y u rfl rfl
        show ResRep P may w' g2.pop S y u
        unfold ResRep
        split
        · exact this.elim
        · exact ⟨_, this⟩
      | y :: y' :: ys, u :: u' :: us, _, all => exact ⟨_, rfl, all⟩
  rcases he with rfl | rfl
  · subst hx; exact fin
  · subst hx; exact fin
variable {R : List Store} {s : TSt}
theorem resultAllT_ok {rs : List ResultVar} {K : List T1 → Prop} (h : resultAllT P s rs K) : ∃ l, resultAll P (s.emb R) rs = some (l.map (T1.emb s.st)) ∧ K l := by
  induction rs generalizing K with
  | nil => exact ⟨[], rfl, h⟩
  | cons r rs ih =>
    simp only [resultAllT] at h
    have h1 : ∃ a, resultOne P (s.emb R) r = some (a.emb s.st) ∧ resultAllT P s rs fun b => K (a :: b) := by
      unfold resultOneT at h
      split at h
      · split at h
        · rename_i t x hx
          exact ⟨x, by simp only [resultOne, emb_get, hx]; rfl, h⟩
        · exact h.elim
      · split at h
        · rename_i a t k off ha
          obtain ⟨x, hx, h⟩ := loadT_ok (R := R) h
          exact ⟨x, by simp only [resultOne, emb_get, ha]; exact hx, h⟩
        · exact h.elim
    obtain ⟨a, ha, h⟩ := h1
    obtain ⟨l, hl, h⟩ := ih h
    exact ⟨a :: l, by simp only [resultAll, ha, hl, List.map_cons], h⟩
theorem settleOneT_ok {x : T1} {K : TSt → T1 → Prop} (h : settleOneT s x K) : ∃ s1 y, settleOne (s.emb R) (x.emb s.st) = some (s1.emb R, y.emb s1.st) ∧ Alike s.st s1.st ∧ K s1 y := by
  unfold settleOneT at h
  split at h
  · rename_i cs
    obtain ⟨s1, ds, h1, hv, ha, hl, h⟩ := resCs_ok (R := R) h
    refine ⟨s1, .agg ds, ?_, ha, h⟩
    have : ds.map (TC.emb []) = ds.map (TC.emb s1.st) := List.map_congr_left fun c hc => isVal_emb (hv c hc) _ _
    simp only [T1.emb, settleOne, resolve, h1, this]
  · rename_i k
    split at h
    · rename_i e t xs hl
      refine ⟨s, _, ?_, fun _ => rfl, h⟩
      have hsh : shapeT s.st k = some (e, xs.length) := by simp only [shapeT, hl]
      simp [T1.emb, TC.emb, hsh, settleOne, wholeA, getOb_emb, hl, TOb.emb]
    · rename_i e t xs hl
      refine ⟨_, _, ?_, fz_alike s k, h⟩
      have hsh : shapeT s.st k = some (e, xs.length) := by simp only [shapeT, hl]
      have hlt : List.take xs.length (xs.map t.emb) = xs.map t.emb := List.take_of_length_le (by simp)
      simp [T1.emb, TC.emb, hsh, settleOne, wholeA, getOb_emb, hl, TOb.emb, resolve1, St.elems, emb_fz, hlt, nlAV]
    · exact h.elim
  · rename_i k e lo n tot
    split at h
    · rename_i fz e' t xs hl
      rcases brc_cases h with ⟨hb, hk⟩ | ⟨hb, h⟩
      · simp only [Bool.and_eq_true, Bool.not_eq_true', beq_iff_eq] at hb
        obtain ⟨⟨⟨⟨h1, h2⟩, h3⟩, h4⟩, h5⟩ := hb
        have h2 : xs.length = tot := of_decide_eq_true h2
        have h5 : n = tot := of_decide_eq_true h5
        have h4 : lo = 0 := of_decide_eq_true h4
        subst h1; subst h3; subst h4; subst h5; subst h2
        refine ⟨s, _, ?_, fun _ => rfl, hk⟩
        have hsh : shapeT s.st k = some (e', xs.length) := by simp only [shapeT, hl]
        simp [T1.emb, TC.emb, AV.one, hsh, settleOne, wholeA, getOb_emb, hl, TOb.emb]
      · obtain ⟨s1, d, h1, hv, ha, h⟩ := resC_ok (R := R) h
        refine ⟨s1, _, ?_, ha, h⟩
        have hw : wholeA (s.emb R) k e lo n tot = false := by
          simp only [wholeA, getOb_emb, hl, Option.map_some, TOb.emb, List.length_map]
          simp only [W.neq, W.len] at hb
          rw [← hb]
          simp [Nat.beq_eq_true_eq, BEq.beq]
          rfl
        show settleOne (s.emb R) (.arr 0 k e lo n tot) = _
        simp only [settleOne, hw, Bool.false_eq_true, if_false]
        rw [show (T1.c d).emb s1.st = d.emb [] from isVal_emb hv _ _]
        exact h1
    · exact h.elim
  · exact h.elim
  · exact h.elim
  · rename_i n1 n2 n3 n4 n5
    refine ⟨s, x, ?_, fun _ => rfl, h⟩
    cases x with
    | agg cs => exact (n1 _ rfl).elim
    | own e t xs => exact (n5 _ _ _ rfl).elim
    | c c =>
      cases c with
      | h k => exact (n2 _ rfl).elim
      | eh k j off => exact (n4 _ _ _ rfl).elim
      | sl e t y => cases y <;> rfl
      | a y =>
        cases y with
        | arr i k e lo n tot =>
          cases i with
          | zero => exact (n3 _ _ _ _ _ rfl).elim
          | succ i => rfl
        | _ => rfl
theorem settleT_ok {l : List T1} {K : TSt → List T1 → Prop} (h : settleT s l K) : ∃ s1 ys, settle (s.emb R) (l.map (T1.emb s.st)) = some (s1.emb R, ys.map (T1.emb s1.st)) ∧ Alike s.st s1.st ∧ K s1 ys := by
  induction l generalizing s K with
  | nil => exact ⟨s, [], rfl, fun _ => rfl, h⟩
  | cons x r ih =>
    obtain ⟨s1, y, h1, ha, h⟩ := settleOneT_ok (R := R) h
    obtain ⟨s2, ys, h2, ha2, h⟩ := ih h
    refine ⟨s2, y :: ys, ?_, fun k => (ha k).trans (ha2 k), h⟩
    rw [← ha.t1s r] at h2
    simp only [List.map_cons, settle, h1, h2, ha2.t1 y]
theorem cellVT_ok {c : TC} {p : Sigma VT.den} (h : cellVT c = some p) : p.1.tc p.2 = [c] := by
  unfold cellVT at h
  split at h <;> first | cases h; rfl | cases h
theorem objVT_ok : ∀ {cs : List TC} {p : Sigma VT.den}, objVT cs = some p → p.1.tc p.2 = cs ∧ p.1.isAgg = true
  | [], p, h => by cases h; exact ⟨rfl, rfl⟩
  | c :: r, p, h => by
    unfold objVT at h
    split at h
    · rename_i a x b y h1 h2
      cases h
      have q1 := cellVT_ok h1
      have q2 := (objVT_ok h2).1
      refine ⟨?_, rfl⟩
      show a.tc x ++ b.tc y = c :: r
      rw [q1, q2]; rfl
    · cases h
theorem outOneT_ok {used : List Nat} {x : T1} {K : List Nat → T1 → Prop} (h : outOneT s used x K) : ∃ u1 y, outOne (s.emb R) used (x.emb s.st) = some (u1, y.emb []) ∧ y.outOk = true ∧ K u1 y := by
  unfold outOneT at h
  split at h
  · rename_i k
    split at h
    · rename_i e t xs hl
      cases hbx : Nat.beq e objE with
      | true => rw [hbx] at h; exact h.elim
      | false =>
      rw [hbx] at h
      simp only at h
      split at h
      · rename_i hu
        refine ⟨_, _, ?_, by simp [T1.outOk, hbx], h⟩
        have hsh : shapeT s.st k = some (e, xs.length) := by simp only [shapeT, hl]
        have ha : (T1.c (.h k)).emb s.st = .arr 0 k e 0 xs.length xs.length := by simp only [T1.emb, TC.emb, hsh]
        have hw : wholeA (s.emb R) k e 0 xs.length xs.length = true := by simp [wholeA, getOb_emb, hl, TOb.emb]
        rw [ha]
        simp only [outOne]
        rw [if_pos ⟨⟨hw, hu⟩, hbx⟩]
        simp only [getOb_emb, hl, Option.map_some, TOb.emb, T1.emb]
      · exact h.elim
    · exact h.elim
  · rename_i k
    split at h
    · rename_i cs hl
      split at h
      · rename_i p hp
        split at h
        · rename_i hu
          obtain ⟨q1, q2⟩ := objVT_ok hp
          refine ⟨_, _, ?_, by simp [T1.outOk, q2], h⟩
          have hv : (cs.map (TC.emb s.st)).all AV.isVal = true := isVals_emb _ (List.all_eq_true.2 fun c hc => tc_val p.1 p.2 c (by rw [q1]; exact hc))
          have he : cs.map (TC.emb s.st) = p.1.cells p.2 := by rw [← q1]; exact tc_emb _ _ _
          show outOne (s.emb R) used (.ref 0 k 0) = _
          simp only [outOne, getOb_emb, hl, Option.map_some, TOb.emb]
          rw [if_pos ⟨hv, hu⟩, he]
          simp only [T1.emb, List.map_cons, List.map_nil, VT.emb, embOf, q2]
        · exact h.elim
      · exact h.elim
    · exact h.elim
  · exact ⟨_, _, rfl, rfl, h⟩
  · exact ⟨_, _, rfl, rfl, h⟩
  · exact ⟨_, _, rfl, rfl, h⟩
  · exact ⟨_, _, rfl, rfl, h⟩
  · rename_i e t y
    refine ⟨_, _, ?_, rfl, h⟩
    cases y <;> rfl
  · rename_i cs
    split at h
    · rename_i hv
      refine ⟨_, .agg cs, ?_, hv, h⟩
      have hv' := List.all_eq_true.1 hv
      have : cs.map (TC.emb s.st) = cs.map (TC.emb []) := List.map_congr_left fun c hc => isVal_emb (hv' c hc) _ _
      simp only [T1.emb, outOne]
      rw [if_pos (isVals_emb _ hv), this]
    · exact h.elim
  · exact h.elim
theorem outAllT_ok {used : List Nat} {l : List T1} {K : List T1 → Prop} (h : outAllT s used l K) : ∃ ys, outAll (s.emb R) used (l.map (T1.emb s.st)) = some (ys.map (T1.emb [])) ∧ (∀ y, y ∈ ys → y.outOk = true) ∧ K ys := by
  induction l generalizing used K with
  | nil => exact ⟨[], rfl, (fun y hy => by cases hy), h⟩
  | cons x r ih =>
    obtain ⟨u1, y, h1, ho, h⟩ := outOneT_ok (R := R) h
    obtain ⟨ys, h2, hos, h⟩ := ih h
    refine ⟨y :: ys, ?_, fun z hz => ?_, h⟩
    · simp only [List.map_cons, outAll, h1, h2]
    · rcases List.mem_cons.1 hz with rfl | hz
      · exact ho
      · exact hos z hz
theorem oneOfT_ok {ys : List T1} (h : ∀ y, y ∈ ys → y.outOk = true) : (oneOfT ys).emb [] = oneOf (ys.map (T1.emb [])) ∧ (oneOfT ys).outOk = true := by
  match ys, h with
  | [], _ => exact ⟨rfl, rfl⟩
  | [y], h => exact ⟨rfl, h y List.mem_cons_self⟩
  | y :: z :: r, h => exact ⟨rfl, List.all_eq_true.2 h⟩
theorem outT_ok {rs : List ResultVar} {K : TV → Prop} (h : outT P s rs K) : ∃ (l : List AV) (s1 : TSt) (l1 ys : List AV) (v : TV), resultAll P (s.emb R) rs = some l ∧ settle (s.emb R) l = some (s1.emb R, l1) ∧ outAll (s1.emb R) [] l1 = some ys ∧ v.emb [] = oneOf ys ∧ v.outOk = true ∧ K v := by
  unfold outT at h
  obtain ⟨l, h1, h⟩ := resultAllT_ok (R := R) h
  obtain ⟨s1, l1, h2, ha, h⟩ := settleT_ok (R := R) h
  obtain ⟨ys, h3, ho, h⟩ := outAllT_ok (R := R) h
  obtain ⟨q1, q2⟩ := oneOfT_ok ho
  exact ⟨_, s1, _, _, _, h1, h2, h3, q1, q2, h⟩
theorem endT_ok {fn : Func} {K : TV → Prop} {e : AExit} (h : endT P fn K e s) : (e = .ret ∨ e = .normal) ∧ outT P s fn.results.toList K := by
  unfold endT at h
  cases e with
  | ret => exact ⟨.inl rfl, h⟩
  | normal => exact ⟨.inr rfl, h⟩
  | exit i => exact h.elim
  | goto l => exact h.elim
theorem enterT_emb {fn : Func} {args : List T1} (hn : ∀ a, a ∈ args → a.noH = true) (S : List Store) : (enterT fn args).emb S = enterA fn (args.map (T1.emb [])) S := by
  simp only [enterT, TSt.emb, enterA, List.map_append, List.map_map, List.map_replicate, List.length_map]
  rfl
theorem fn_call {Λ : Known} (hΛ : KnownOk P E Λ) {f : FuncId} {fn : Func} {c : Code} (hf : P.funcs[f]? = some fn) (hb : fn.body = some c) (hL : LamOk P Λ c) {args : List T1} (hn : ∀ a, a ∈ args → a.noH = true) {r : TV}
    (h : wpFn P Λ fn args (fun x => x = r)) (S : List Store) : CallC P f (args.map (T1.emb [])) S S (r.emb []) := by
  unfold wpFn at h
  rw [hb] at h
  have hr := wpT_ok hΛ c _ _ hL h
  refine body_sound2 hf hb fun may a w g hs hm => ?_
  rw [← enterT_emb hn S] at hs ⊢
  refine wp_mono (hr.code hs hm) fun x a' w' ⟨e, s', hx, hp, hl⟩ => ?_
  obtain ⟨he, ho⟩ := endT_ok hp
  obtain ⟨l, s1, l1, ys, v, h1, h2, h3, h4, _, rfl⟩ := outT_ok (R := S) ho
  exact ⟨e, _, _, l, l1, ys, embStore s1.st, hx, he, h1, h2, h3, rfl, h4, hl⟩
end
end Go.AbsM
end

section
namespace Go.AbsM
inductive AT where
  | v (t : VT)
  | l (e : TypeId) (t : VT)
@[reducible] def AT.den : AT → Type
  | .v t => t.den
  | .l _ t => List t.den
def dens : List AT → Type
  | [] => Unit
  | a :: r => a.den × dens r
def AT.t1 : (a : AT) → a.den → T1
  | .v t, x => t.t1 x
  | .l e t, xs => .c (.sl e t (.mk xs))
def t1s : (l : List AT) → dens l → List T1
  | [], _ => []
  | a :: r, d => a.t1 (Prod.fst d) :: t1s r (Prod.snd d)
def AT.dec : (a : AT) → T1 → Option a.den
  | .v t, x => t.ofT1 x
  | .l e t, x => match x with
    | .c (.a .nils) => some []
    | .c (.a .cap0) => some []
    | .c (.sl e' t' x) => if e' = e then if h : t' = t then some (h ▸ x.list) else none else none
    | _ => none
def decs : (l : List AT) → List T1 → Option (dens l)
  | [], [] => some ()
  | a :: r, x :: xs => match a.dec x, decs r xs with
    | some d, some ds => some (d, ds)
    | _, _ => none
  | _, _ => none
def mapA {α : Type} (f : AV → Option α) : List AV → Option (List α)
  | [] => some []
  | x :: r => match f x, mapA f r with
    | some a, some l => some (a :: l)
    | _, _ => none
def headA {α : Type} (f : AV → Option α) : List AV → Option (α × List AV)
  | [] => none
  | x :: r => match f x with
    | some a => some (a, r)
    | none => none
def oneA (agg : Bool) {α : Type} (f : List AV → Option (α × List AV)) (x : AV) : Option α := match agg, x with
  | true, .agg cs => match f cs with
    | some (a, []) => some a
    | _ => none
  | true, _ => none
  | false, x => match f [x] with
    | some (a, []) => some a
    | _ => none
def VT.ofAs : (t : VT) → List AV → Option (t.den × List AV)
  | .int k => headA fun x => match x with
    | .x (.int k' n) => if k' = k then some n else none
    | _ => none
  | .bool => headA fun x => match x with
    | .x (.bool b) => some b
    | _ => none
  | .str => headA fun x => match x with
    | .str l => some l
    | _ => none
  | .flt k => headA fun x => match x with
    | .x (.float k' n) => if k' = k then some n else none
    | _ => none
  | .cx k => headA fun x => match x with
    | .x (.complex k' a b) => if k' = k then some ((a, b) : Nat × Nat) else none
    | _ => none
  | .slc e t => headA fun x => match x with
    | .nils => some NL.nil
    | .cap0 => some NL.cap0
    | .sl e' xs => if e' = e then (mapA (oneA t.isAgg t.ofAs) xs).map NL.mk else none
    | _ => none
  | .unit => fun r => some ((), r)
  | .pair a b => fun cs => match a.ofAs cs with
    | some (x, r) => match b.ofAs r with
      | some (y, r') => some ((x, y), r')
      | none => none
    | none => none
def VT.ofA (t : VT) (x : AV) : Option t.den := oneA t.isAgg t.ofAs x
def AT.decA : (a : AT) → AV → Option a.den
  | .v t, x => t.ofA x
  | .l e t, x => match x with
    | .nils => some []
    | .cap0 => some []
    | .sl e' xs => if e' = e then mapA t.ofA xs else none
    | _ => none
def decsA : (l : List AT) → List AV → Option (dens l)
  | [], [] => some ()
  | a :: r, x :: xs => match a.decA x, decsA r xs with
    | some d, some ds => some (d, ds)
    | _, _ => none
  | _, _ => none
theorem ofAs_cells (t : VT) : ∀ (x : t.den) (r : List AV), t.ofAs (t.cells x ++ r) = some (x, r) := by
  induction t with
  | pair a b ha hb =>
    intro x r
    simp only [VT.cells, List.append_assoc, VT.ofAs, ha, hb]; rfl
  | unit => intro x r; rfl
  | slc e t ih =>
    intro x r
    have one : ∀ y, oneA t.isAgg t.ofAs (t.emb y) = some y := by
      intro y
      have := ih y []
      rw [List.append_nil] at this
      unfold VT.emb embOf
      cases h : t.isAgg with
      | true => simp only [oneA, this]
      | false =>
        obtain ⟨c, hc, _⟩ := cells_one h y
        rw [hc] at this ⊢
        simp only [oneA, List.headD_cons, this]
    have all : ∀ l : List t.den, mapA (oneA t.isAgg t.ofAs) (l.map t.emb) = some l := by
      intro l
      induction l with
      | nil => rfl
      | cons y l ihl => simp only [List.map_cons, mapA, one, ihl]
    cases x with
    | nil => rfl
    | cap0 => rfl
    | mk l =>
      have e1 : (VT.slc e t).cells (.mk l) = [.sl e (l.map t.emb)] := rfl
      rw [e1]
      simp only [List.cons_append, List.nil_append, VT.ofAs, headA, if_true, all]
      rfl
  | cx k => intro x r; obtain ⟨a, b⟩ := x; simp [VT.ofAs, VT.cells, headA]
  | _ => intro x r; first | rfl | simp [VT.ofAs, VT.cells, headA]
theorem ofA_emb (t : VT) (x : t.den) : t.ofA (t.emb x) = some x := by
  have := ofAs_cells t x []
  rw [List.append_nil] at this
  unfold VT.ofA VT.emb embOf
  cases h : t.isAgg with
  | true => simp only [oneA, this]
  | false =>
    obtain ⟨c, hc, _⟩ := cells_one h x
    rw [hc] at this ⊢
    simp only [oneA, List.headD_cons, this]
theorem mapA_emb (t : VT) (l : List t.den) : mapA t.ofA (l.map t.emb) = some l := by
  induction l with
  | nil => rfl
  | cons y l ihl => simp only [List.map_cons, mapA, ofA_emb, ihl]
theorem dec_decA {a : AT} {x : T1} {d : a.den} (h : a.dec x = some d) : a.decA (x.emb []) = some d := by
  cases a with
  | v t =>
    have := ofT1_emb [] h
    show t.ofA (x.emb []) = some (show t.den from d)
    rw [← this]; exact ofA_emb t d
  | l e t =>
    simp only [AT.dec] at h
    split at h
    · cases h; rfl
    · cases h; rfl
    · rename_i e' t' y
      split at h
      · rename_i he
        split at h
        · rename_i ht
          subst he; subst ht
          cases h
          cases y with
          | nil => rfl
          | cap0 => rfl
          | mk l =>
            show AT.decA (.l e' t') (.sl e' (l.map t'.emb)) = some l
            simp only [AT.decA, if_true, mapA_emb]
        · cases h
      · cases h
    · cases h
theorem decs_decsA : ∀ {l : List AT} {xs : List T1} {d : dens l}, decs l xs = some d → decsA l (xs.map (T1.emb [])) = some d
  | [], [], d, h => h
  | a :: r, x :: xs, d, h => by
    simp only [decs] at h
    split at h
    · rename_i d1 ds h1 h2
      simp only [List.map_cons, decsA, dec_decA h1, decs_decsA h2]; exact h
    · cases h
theorem headA_inv {α : Type} {f : AV → Option α} {l r : List AV} {x : α} (h : headA f l = some (x, r)) : ∃ c, l = c :: r ∧ f c = some x := by
  cases l with
  | nil => cases h
  | cons c l =>
    simp only [headA] at h
    split at h
    · rename_i a ha
      simp only [Option.some.injEq, Prod.mk.injEq] at h
      obtain ⟨rfl, rfl⟩ := h
      exact ⟨c, rfl, ha⟩
    · cases h
theorem ofAs_inv (t : VT) : ∀ (l r : List AV) (x : t.den), t.ofAs l = some (x, r) → l = t.cells x ++ r := by
  induction t with
  | pair a b ha hb =>
    intro l r x h
    simp only [VT.ofAs] at h
    split at h
    · rename_i x1 r1 h1
      split at h
      · rename_i y r2 h2
        simp only [Option.some.injEq, Prod.mk.injEq] at h
        obtain ⟨rfl, rfl⟩ := h
        rw [ha _ _ _ h1, hb _ _ _ h2]
        simp [VT.cells]
      · cases h
    · cases h
  | unit =>
    intro l r x h
    simp only [VT.ofAs, Option.some.injEq, Prod.mk.injEq] at h
    obtain ⟨rfl, rfl⟩ := h; rfl
  | slc e t ih =>
    intro l r x h
    obtain ⟨c, rfl, hc⟩ := headA_inv h
    have one : ∀ y d, oneA t.isAgg t.ofAs y = some d → y = t.emb d := by
      intro y d hy
      unfold VT.emb embOf
      unfold oneA at hy
      split at hy
      · rename_i cs hag
        split at hy
        · rename_i a ha
          simp only [Option.some.injEq] at hy; subst hy
          have := ih _ _ _ ha
          rw [List.append_nil] at this
          rw [this, hag]
        · cases hy
      · cases hy
      · rename_i hag
        split at hy
        · rename_i a ha
          simp only [Option.some.injEq] at hy; subst hy
          have := ih _ _ _ ha
          rw [List.append_nil] at this
          rw [hag, ← this]; rfl
        · cases hy
    have all : ∀ (xs : List AV) (l : List t.den), mapA (oneA t.isAgg t.ofAs) xs = some l → xs = l.map t.emb := by
      intro xs
      induction xs with
      | nil => intro l h; simp only [mapA, Option.some.injEq] at h; subst h; rfl
      | cons y xs ihx =>
        intro l h
        simp only [mapA] at h
        split at h
        · rename_i d ds h1 h2
          simp only [Option.some.injEq] at h; subst h
          rw [one _ _ h1, ihx _ h2]; rfl
        · cases h
    split at hc
    · cases hc; rfl
    · cases hc; rfl
    · split at hc
      · rename_i he
        subst he
        obtain ⟨l', hl, rfl⟩ := Option.map_eq_some_iff.1 hc
        rw [all _ _ hl]; rfl
      · cases hc
    · cases hc
  | _ =>
    intro l r x h
    obtain ⟨c, rfl, hc⟩ := headA_inv h
    split at hc
    · first
      | (split at hc
         · rename_i hk; subst hk; cases hc; rfl
         · cases hc)
      | (cases hc; rfl)
    · cases hc
theorem ofA_inv {t : VT} {x : AV} {d : t.den} (h : t.ofA x = some d) : x = t.emb d := by
  unfold VT.ofA oneA at h
  unfold VT.emb embOf
  split at h
  · rename_i cs hag
    split at h
    · rename_i a ha
      simp only [Option.some.injEq] at h; subst h
      have := ofAs_inv _ _ _ _ ha
      rw [List.append_nil] at this
      rw [this, hag]
    · cases h
  · cases h
  · rename_i hag
    split at h
    · rename_i a ha
      simp only [Option.some.injEq] at h; subst h
      have := ofAs_inv _ _ _ _ ha
      rw [List.append_nil] at this
      rw [hag, ← this]; rfl
    · cases h
theorem mapA_inv {t : VT} : ∀ {xs : List AV} {l : List t.den}, mapA t.ofA xs = some l → xs = l.map t.emb
  | [], l, h => by simp only [mapA, Option.some.injEq] at h; subst h; rfl
  | y :: xs, l, h => by
    simp only [mapA] at h
    split at h
    · rename_i d ds h1 h2
      simp only [Option.some.injEq] at h; subst h
      rw [ofA_inv h1, mapA_inv h2]; rfl
    · cases h
section
variable {P : Program} {w : World} {g : Gh}
theorem decA_rep {a : AT} {x : AV} {d : a.den} {v : Value} {S : List Store} (hc : ∀ e t, a = .l e t → 0 < P.cellsOf e) (h : a.decA x = some d) (hv : HRep P w g S x v) : HRep P w g S ((a.t1 d).emb []) v := by
  cases a with
  | v t =>
    have := ofA_inv h
    show HRep P w g S ((t.t1 d).emb []) v
    have h2 : (t.t1 d).emb [] = x := (t1_emb t d []).trans this.symm
    rw [h2]; exact hv
  | l e t =>
    have hc := hc e t rfl
    simp only [AT.decA] at h
    split at h
    · cases h
      have hv : Rep P w g.M .nils v := hv
      show Rep P w g.M (.sl e []) v
      cases hv
      exact .sl (us := []) rfl rfl (Nat.le_refl _) (by unfold maxLen; omega) hc (fun i x u h => by simp at h) (fun u h => by simp at h) (fun h => absurd rfl h)
    · cases h
      have hv : Rep P w g.M .cap0 v := hv
      show Rep P w g.M (.sl e []) v
      cases hv
      exact .sl (us := []) rfl rfl (Nat.le_refl _) (by unfold maxLen; omega) hc (fun i x u h => by simp at h) (fun u h => by simp at h) (fun h => absurd rfl h)
    · split at h
      · rename_i he
        subst he
        have := mapA_inv h
        show HRep P w g S (.sl _ (List.map t.emb d)) v
        rw [← this]; exact hv
      · cases h
    · cases h
theorem decsA_rep {S : List Store} : ∀ {l : List AT} {as : List AV} {d : dens l}, (∀ e t, AT.l e t ∈ l → 0 < P.cellsOf e) → decsA l as = some d → ((t1s l d).map (T1.emb [])).length = as.length ∧ ∀ (i : Nat) (x y : AV) (v : Value), as[i]? = some x → ((t1s l d).map (T1.emb []))[i]? = some y → HRep P w g S x v → HRep P w g S y v
  | [], [], d, _, h => ⟨rfl, fun i x y v hx => by simp at hx⟩
  | a :: r, z :: zs, d, hc, h => by
    simp only [decsA] at h
    split at h
    · rename_i d1 ds h1 h2
      cases h
      obtain ⟨q1, q2⟩ := decsA_rep (fun e t hm => hc e t (List.mem_cons_of_mem _ hm)) h2
      refine ⟨by simpa [t1s] using q1, fun i x y v hx hy hv => ?_⟩
      cases i with
      | zero =>
        simp only [List.getElem?_cons_zero, Option.some.injEq] at hx
        subst hx
        simp only [t1s, List.map_cons, List.getElem?_cons_zero, Option.some.injEq] at hy
        subst hy
        exact decA_rep (fun e t he => hc e t (by rw [he]; exact List.mem_cons_self)) h1 hv
      | succ i =>
        simp only [t1s, List.map_cons, List.getElem?_cons_succ] at hx hy
        exact q2 i x y v hx hy hv
    · cases h
end
theorem t1_noH (t : VT) (x : t.den) : (t.t1 x).noH = true := by
  unfold VT.t1
  cases h : t.isAgg with
  | true => exact List.all_eq_true.2 fun c hc => tc_val t x c hc
  | false =>
    show TC.isVal _ = true
    cases hl : t.tc x with
    | nil =>
      have := cells_length t x
      obtain ⟨c, hc, _⟩ := cells_one h x
      rw [hc, hl] at this; simp at this
    | cons a r => exact tc_val t x a (by rw [hl]; exact List.mem_cons_self)
theorem t1s_noH : ∀ (l : List AT) (d : dens l) (a : T1), a ∈ t1s l d → a.noH = true
  | [], d, a, h => by cases h
  | x :: r, d, a, h => by
    rcases List.mem_cons.1 h with rfl | h
    · cases x with
      | v t => exact t1_noH t _
      | l e t => rfl
    · exact t1s_noH r _ a h
end Go.AbsM
end
