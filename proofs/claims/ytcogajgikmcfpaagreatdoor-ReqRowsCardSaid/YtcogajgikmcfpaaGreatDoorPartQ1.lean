/-
  Texts of a proof over the translated program: proved evaluators and walks, part 1 of 23.
-/
import Derived.WalkKit
set_option linter.unusedVariables false
set_option linter.unusedSimpArgs false
set_option linter.unusedSectionVars false
set_option linter.unnecessarySimpa false
section
namespace Go.FM
noncomputable section
inductive HV where
  | int (k : IntKind) (n : Int)
  | bool (b : Bool)
  | flt (k : FloatKind) (b : Nat)
  | cpx (k : FloatKind) (a b : Nat)
  | str (n d : Nat)
  | ptr (k off : Nat)
  | nilp | nili | nilf
  | fn (f : FuncId) (caps : List (Nat × Nat))
  | nils
  | slc (k o n es : Nat) (cl : Bool)
  | agg (cs : List HV)
  | tup (vs : List HV)
  | und
  | dead
  | md (k : IntKind) (m r : Nat)
  | ub
  | mp (k : Nat)
  | nilm
  | any
  | sy (k : IntKind) (i : Nat)
  | par (k : IntKind) (r : Nat)
  deriving Inhabited
structure ME where
  (key : Int) (val : HV) (born : Nat)
  deriving Inhabited
inductive HB where
  | no
  | cells (cs : List HV)
  | byt (n d : Nat)
  | map (es : List ME) (cl : Nat)
  deriving Inhabited
inductive HO where
  | no
  | own (pre : Nat) (b : HB)
  | sh (b : HB)
  deriving Inhabited
def HO.body (o : HO) : HB := HO.casesOn o .no (fun _ b => b) fun b => b
inductive HT where
  | nil
  | leaf (o : HO)
  | node (a b c d : HT)
  deriving Inhabited
structure Q (α : Type) where
  (a b c d : α)
abbrev F := Q (Q (Q (Q HV)))
abbrev L := List HV
structure S where
  f : F
  h : HT
  c : Nat
def sel4 {α : Type} (i : Nat) (a b c d : α) : α := Bool.rec (motive := fun _ => α) (Bool.rec (motive := fun _ => α) a b (Nat.ble 1 i)) (Bool.rec (motive := fun _ => α) c d (Nat.ble 3 i)) (Nat.ble 2 i)
def leafO (t : HT) : HO := HT.rec (motive := fun _ => HO) .no (fun o => o) (fun _ _ _ _ _ _ _ _ => .no) t
def kid (i : Nat) (t : HT) : HT := HT.rec (motive := fun _ => Nat → HT) (fun _ => .nil) (fun _ _ => .nil) (fun a b c d _ _ _ _ i => sel4 i a b c d) t i
def HT.get (n k : Nat) (t : HT) : HO := Nat.rec (motive := fun _ => Nat → HT → HO) (fun _ t => leafO t) (fun _ ih k t => ih (Nat.div k 4) (kid (Nat.mod k 4) t)) n k t
def setKid (i : Nat) (f : HT → HT) (t : HT) : HT :=
  HT.rec (motive := fun _ => Nat → (HT → HT) → HT) (fun i f => sel4 i (.node (f .nil) .nil .nil .nil) (.node .nil (f .nil) .nil .nil) (.node .nil .nil (f .nil) .nil) (.node .nil .nil .nil (f .nil)))
    (fun o _ _ => .leaf o) (fun a b c d _ _ _ _ i f => sel4 i (.node (f a) b c d) (.node a (f b) c d) (.node a b (f c) d) (.node a b c (f d))) t i f
def HT.set (n k : Nat) (o : HO) (t : HT) : HT := Nat.rec (motive := fun _ => Nat → HO → HT → HT) (fun _ o _ => .leaf o) (fun _ ih k o t => setKid (Nat.mod k 4) (ih (Nat.div k 4) o) t) n k o t
def hd (l : L) : HV := List.rec (motive := fun _ => HV) .dead (fun v _ _ => v) l
def tl (l : L) : L := List.rec (motive := fun _ => L) [] (fun _ r _ => r) l
def lget (n : Nat) (l : L) : HV := Nat.rec (motive := fun _ => L → HV) (fun l => hd l) (fun _ ih l => ih (tl l)) n l
def p8 (n : Nat) : Nat := Nat.pow 256 n
def bAt (d i : Nat) : Nat := Nat.mod (Nat.div d (p8 i)) 256
def bCut (d lo n : Nat) : Nat := Nat.mod (Nat.div d (p8 lo)) (p8 n)
def bLay (d lo m e : Nat) : Nat := Nat.add (Nat.add (Nat.mod d (p8 lo)) (Nat.mul e (p8 lo))) (Nat.mul (Nat.div d (p8 (Nat.add lo m))) (p8 (Nat.add lo m)))
def byteV (b : Nat) : HV := .int .u8 (.ofNat b)
def Q.get {α : Type} (i : Nat) (q : Q α) : α := sel4 i q.a q.b q.c q.d
def Q.upd {α : Type} (i : Nat) (f : α → α) (q : Q α) : Q α := Q.casesOn q fun a b c d => sel4 i ⟨f a, b, c, d⟩ ⟨a, f b, c, d⟩ ⟨a, b, f c, d⟩ ⟨a, b, c, f d⟩
def fget (r : Nat) (f : F) : HV := Q.get (r % 4) (Q.get (r / 4 % 4) (Q.get (r / 16 % 4) (Q.get (r / 64) f)))
def fset (r : Nat) (v : HV) (f : F) : F := Q.upd (r / 64) (Q.upd (r / 16 % 4) (Q.upd (r / 4 % 4) (Q.upd (r % 4) fun _ => v))) f
inductive G where
  | c (v : HV)
  | f (f : L → F → HV)
def G.ev (g : G) (t : L) (s : F) : HV := G.rec (motive := fun _ => L → F → HV) (fun v _ _ => v) (fun f t s => f t s) g t s
inductive P where
  | skip
  | loc
  | var (u : HV → F → F)
def selG {β : Type} (i : Nat) (k : (∀ {α : Type}, Q α → α) → β) : β := sel4 i (k fun {_} q => q.a) (k fun {_} q => q.b) (k fun {_} q => q.c) (k fun {_} q => q.d)
def updA {α : Type} (f : α → α) (q : Q α) : Q α := Q.casesOn q fun a b c d => ⟨f a, b, c, d⟩
def updB {α : Type} (f : α → α) (q : Q α) : Q α := Q.casesOn q fun a b c d => ⟨a, f b, c, d⟩
def updC {α : Type} (f : α → α) (q : Q α) : Q α := Q.casesOn q fun a b c d => ⟨a, b, f c, d⟩
def updD {α : Type} (f : α → α) (q : Q α) : Q α := Q.casesOn q fun a b c d => ⟨a, b, c, f d⟩
def selU {β : Type} (i : Nat) (k : (∀ {α : Type}, (α → α) → Q α → Q α) → β) : β := sel4 i (k updA) (k updB) (k updC) (k updD)
def gVar (r : Nat) : G := selG (Nat.div r 64) fun p0 => selG (Nat.mod (Nat.div r 16) 4) fun p1 => selG (Nat.mod (Nat.div r 4) 4) fun p2 => selG (Nat.mod r 4) fun p3 => .f fun _ s => p3 (p2 (p1 (p0 s)))
def pVar (r : Nat) : P := selU (Nat.div r 64) fun u0 => selU (Nat.mod (Nat.div r 16) 4) fun u1 => selU (Nat.mod (Nat.div r 4) 4) fun u2 => selU (Nat.mod r 4) fun u3 => .var fun v s => u0 (u1 (u2 (u3 fun _ => v))) s
def packB : List UInt8 → Nat
  | [] => 0
  | b :: r => b.toNat + 256 * packB r
def constHV : Value → HV
  | .bool b => .bool b
  | .int k n => .int k n
  | .float k b => .flt k b
  | .complex k a b => .cpx k a b
  | .pointer none => .nilp
  | .nilIface => .nili
  | .nilFunc => .nilf
  | .string s => .str s.size (packB s.data.toList)
  | .slice none 0 0 => .nils
  | .map none => .nilm
  | _ => .dead
def HV.isCell : HV → Bool
  | .agg _ => false
  | .tup _ => false
  | .und => false
  | .dead => false
  | .any => false
  | _ => true
def constV : Value → HV
  | .agg cs => ((cs.toList.map constHV).all HV.isCell).casesOn .dead (.agg (cs.toList.map constHV))
  | v => constHV v
def HV.cells : HV → List HV
  | .agg cs => cs
  | v => [v]
def ikN (a : IntKind) : Nat := IntKind.rec (motive := fun _ => Nat) 0 1 2 3 4 5 6 7 a
def ikEq (a b : IntKind) : Bool := Nat.beq (ikN a) (ikN b)
def top (k : IntKind) : Nat := IntKind.rec (motive := fun _ => Nat) 127 32767 2147483647 9223372036854775807 255 65535 4294967295 18446744073709551615 k
def wrapN (k : IntKind) (n : Nat) : HV := (Nat.ble n (top k)).casesOn (.int k (k.wrap (.ofNat n))) (.int k (.ofNat n))
def wrapF (k : IntKind) (r : Int) : HV := Int.casesOn r (fun n => wrapN k n) fun n => .int k (k.wrap (.negSucc n))
def int2b (y : HV) : IntKind → Int → (IntKind → Int → Int → HV) → HV :=
  HV.rec (motive_1 := fun _ => IntKind → Int → (IntKind → Int → Int → HV) → HV) (motive_2 := fun _ => Unit)
    (fun k' b k a f => (ikEq k k').casesOn .dead (f k a b)) (fun _ _ _ _ => .dead) (fun _ _ _ _ _ => .dead) (fun _ _ _ _ _ _ => .dead) (fun _ _ _ _ _ => .dead) (fun _ _ _ _ _ => .dead) (fun _ _ _ => .dead) (fun _ _ _ => .dead) (fun _ _ _ => .dead) (fun _ _ _ _ _ => .dead) (fun _ _ _ => .dead) (fun _ _ _ _ _ _ _ _ => .dead) (fun _ _ _ _ _ => .dead) (fun _ _ _ _ _ => .dead) (fun _ _ _ => .dead) (fun _ _ _ => .dead) (fun _ _ _ _ _ _ => .dead) (fun _ _ _ => .dead) (fun _ _ _ _ => .dead) (fun _ _ _ => .dead) (fun _ _ _ => .dead) (fun _ _ _ _ _ => .dead) (fun _ _ _ _ _ => .dead) () (fun _ _ _ _ => ()) y
def int2 (f : IntKind → Int → Int → HV) (x y : HV) : HV :=
  HV.rec (motive_1 := fun _ => HV → (IntKind → Int → Int → HV) → HV) (motive_2 := fun _ => Unit)
    (fun k a y f => int2b y k a f) (fun _ _ _ => .dead) (fun _ _ _ _ => .dead) (fun _ _ _ _ _ => .dead) (fun _ _ _ _ => .dead) (fun _ _ _ _ => .dead) (fun _ _ => .dead) (fun _ _ => .dead) (fun _ _ => .dead) (fun _ _ _ _ => .dead) (fun _ _ => .dead) (fun _ _ _ _ _ _ _ => .dead) (fun _ _ _ _ => .dead) (fun _ _ _ _ => .dead) (fun _ _ => .dead) (fun _ _ => .dead) (fun _ _ _ _ _ => .dead) (fun _ _ => .dead) (fun _ _ _ => .dead) (fun _ _ => .dead) (fun _ _ => .dead) (fun _ _ _ _ => .dead) (fun _ _ _ _ => .dead) () (fun _ _ _ _ => ()) x y f
def nat2 (f : IntKind → Nat → Nat → HV) (g : IntKind → Int → Int → HV) (k : IntKind) (a b : Int) : HV :=
  Int.casesOn a (fun m => Int.casesOn b (fun n => f k m n) fun _ => g k a b) fun _ => g k a b
def subN (k : IntKind) (m n : Nat) : HV := (Nat.ble n m).casesOn (.int k (k.wrap (Int.sub (.ofNat m) (.ofNat n)))) (wrapN k (Nat.sub m n))
def andI (k : IntKind) (a b : Int) : Int := k.wrap (BitVec.ofInt k.bits a &&& BitVec.ofInt k.bits b).toNat
def orI (k : IntKind) (a b : Int) : Int := k.wrap (BitVec.ofInt k.bits a ||| BitVec.ofInt k.bits b).toNat
def xorI (k : IntKind) (a b : Int) : Int := k.wrap (BitVec.ofInt k.bits a ^^^ BitVec.ofInt k.bits b).toNat
def andNotI (k : IntKind) (a b : Int) : Int := k.wrap (BitVec.ofInt k.bits a &&& ~~~BitVec.ofInt k.bits b).toNat
inductive F1 where
  | f (f : HV → HV)
  | no
inductive F2 where
  | f (f : HV → HV → HV)
  | no
def fAdd : HV → HV → HV := int2 (nat2 (fun k m n => wrapN k (Nat.add m n)) fun k a b => .int k (k.wrap (a + b)))
def fSub : HV → HV → HV := int2 (nat2 subN fun k a b => .int k (k.wrap (a - b)))
def fMul : HV → HV → HV := int2 (nat2 (fun k m n => wrapN k (Nat.mul m n)) fun k a b => .int k (k.wrap (a * b)))
def fQuo : HV → HV → HV := int2 (nat2 (fun k m n => (Nat.beq n 0).casesOn (wrapN k (Nat.div m n)) .dead) fun k a b => if b = 0 then .dead else .int k (k.wrap (a.tdiv b)))
def fRem : HV → HV → HV := int2 (nat2 (fun k m n => (Nat.beq n 0).casesOn (.int k (.ofNat (Nat.mod m n))) .dead) fun k a b => if b = 0 then .dead else .int k (a.tmod b))
def fAnd : HV → HV → HV := int2 fun k a b => .int k (andI k a b)
def fOr : HV → HV → HV := int2 fun k a b => .int k (orI k a b)
def fXor : HV → HV → HV := int2 fun k a b => .int k (xorI k a b)
def fAndNot : HV → HV → HV := int2 fun k a b => .int k (andNotI k a b)
def fEql : HV → HV → HV := int2 (nat2 (fun _ m n => .bool (Nat.beq m n)) fun _ a b => .bool (a == b))
def fNeq : HV → HV → HV := int2 (nat2 (fun _ m n => .bool (Bool.not (Nat.beq m n))) fun _ a b => .bool (a != b))
def fLss : HV → HV → HV := int2 (nat2 (fun _ m n => .bool (Nat.blt m n)) fun _ a b => .bool (decide (a < b)))
def fLeq : HV → HV → HV := int2 (nat2 (fun _ m n => .bool (Nat.ble m n)) fun _ a b => .bool (decide (a ≤ b)))
def fGtr : HV → HV → HV := int2 (nat2 (fun _ m n => .bool (Nat.blt n m)) fun _ a b => .bool (decide (a > b)))
def fGeq : HV → HV → HV := int2 (nat2 (fun _ m n => .bool (Nat.ble n m)) fun _ a b => .bool (decide (a ≥ b)))
def intF (op : BinOp) : F2 := match op with
  | .add => .f fAdd | .sub => .f fSub | .mul => .f fMul | .quo => .f fQuo | .rem => .f fRem
  | .and => .f fAnd | .or => .f fOr | .xor => .f fXor | .andNot => .f fAndNot
  | .eql => .f fEql | .neq => .f fNeq | .lss => .f fLss | .leq => .f fLeq | .gtr => .f fGtr | .geq => .f fGeq
  | _ => .no
def shl (x y : HV) : HV := match x with
  | .int k a => match y with
    | .int _ b => if b < 0 then .dead else wrapF k (a * .ofNat (Nat.pow 2 (Nat.min b.toNat k.bits)))
    | _ => .dead
  | _ => .dead
def shr (x y : HV) : HV := match x with
  | .int k a => match y with
    | .int _ b => if b < 0 then .dead else match a with
      | .ofNat m => .int k (.ofNat (Nat.div m (Nat.pow 2 (Nat.min b.toNat k.bits))))
      | a => .int k (a.fdiv (2 ^ (min b.toNat k.bits)))
    | _ => .dead
  | _ => .dead
def remM (k : IntKind) (m r : Nat) (y : HV) : HV := match y with
  | .int k' (.ofNat b) => if ikEq k k' && !(Nat.beq b 0) && Nat.beq (Nat.mod m b) 0 then .int k (.ofNat (Nat.mod r b)) else .dead
  | _ => .dead
def andM (k : IntKind) (m r : Nat) (y : HV) : HV := match y with
  | .int k' (.ofNat b) => if ikEq k .u8 && ikEq k' .u8 && Nat.beq b 1 then (if Nat.beq (Nat.mod m 2) 0 then .int k (.ofNat (Nat.mod r 2)) else .md k 1 0) else .dead
  | _ => .dead
def eqlM (k : IntKind) (m r : Nat) (y : HV) : HV := match y with
  | .int k' (.ofNat b) => if ikEq k k' then (if Nat.beq (Nat.mod b m) r then .ub else .bool false) else .dead
  | _ => .dead
def shrM (k : IntKind) (m r : Nat) (y : HV) : HV := match y with
  | .int _ (.ofNat b) => if Nat.beq (Nat.mod m (Nat.pow 2 (Nat.min b k.bits))) 0 then .md k (Nat.div m (Nat.pow 2 (Nat.min b k.bits))) (Nat.div r (Nat.pow 2 (Nat.min b k.bits))) else .md k 1 0
  | _ => .dead
def mdW (q : IntKind → Nat → Nat → HV → HV) (f : HV → HV → HV) (x y : HV) : HV :=
  HV.rec (motive_1 := fun _ => (IntKind → Nat → Nat → HV → HV) → (HV → HV → HV) → HV → HV) (motive_2 := fun _ => Unit)
    (fun a0 a1 q f y => f (.int a0 a1) y)
    (fun a0 q f y => f (.bool a0) y)
    (fun a0 a1 q f y => f (.flt a0 a1) y)
    (fun a0 a1 a2 q f y => f (.cpx a0 a1 a2) y)
    (fun a0 a1 q f y => f (.str a0 a1) y)
    (fun a0 a1 q f y => f (.ptr a0 a1) y)
    (fun q f y => f (.nilp ) y)
    (fun q f y => f (.nili ) y)
    (fun q f y => f (.nilf ) y)
    (fun a0 a1 q f y => f (.fn a0 a1) y)
    (fun q f y => f (.nils ) y)
    (fun a0 a1 a2 a3 a4 q f y => f (.slc a0 a1 a2 a3 a4) y)
    (fun a0 a1 q f y => f (.agg a0) y)
    (fun a0 a1 q f y => f (.tup a0) y)
    (fun q f y => f (.und ) y)
    (fun q f y => f (.dead ) y)
    (fun k m r q f y => q k m r y)
    (fun q f y => f (.ub ) y)
    (fun a0 q f y => f (.mp a0) y)
    (fun q f y => f (.nilm ) y)
    (fun q f y => f (.any ) y)
    (fun a0 a1 q f y => f (.sy a0 a1) y)
    (fun a0 a1 q f y => f (.par a0 a1) y) () (fun _ _ _ _ => ()) x q f y
def syB (k : IntKind) (i : Nat) (y : HV) (q : Nat → Nat → Bool) : HV := match y with
  | .sy k' j => if ikEq k k' then .bool (q i j) else .dead
  | _ => .dead
def syW (q : Nat → Nat → Bool) (f : HV → HV → HV) (x y : HV) : HV :=
  HV.rec (motive_1 := fun _ => (Nat → Nat → Bool) → (HV → HV → HV) → HV → HV) (motive_2 := fun _ => Unit)
    (fun a0 a1 q f y => f (.int a0 a1) y)
    (fun a0 q f y => f (.bool a0) y)
    (fun a0 a1 q f y => f (.flt a0 a1) y)
    (fun a0 a1 a2 q f y => f (.cpx a0 a1 a2) y)
    (fun a0 a1 q f y => f (.str a0 a1) y)
    (fun a0 a1 q f y => f (.ptr a0 a1) y)
    (fun q f y => f (.nilp ) y)
    (fun q f y => f (.nili ) y)
    (fun q f y => f (.nilf ) y)
    (fun a0 a1 q f y => f (.fn a0 a1) y)
    (fun q f y => f (.nils ) y)
    (fun a0 a1 a2 a3 a4 q f y => f (.slc a0 a1 a2 a3 a4) y)
    (fun a0 a1 q f y => f (.agg a0) y)
    (fun a0 a1 q f y => f (.tup a0) y)
    (fun q f y => f (.und ) y)
    (fun q f y => f (.dead ) y)
    (fun a0 a1 a2 q f y => f (.md a0 a1 a2) y)
    (fun q f y => f (.ub ) y)
    (fun a0 q f y => f (.mp a0) y)
    (fun q f y => f (.nilm ) y)
    (fun q f y => f (.any ) y)
    (fun k i q f y => syB k i y q)
    (fun a0 a1 q f y => f (.par a0 a1) y) () (fun _ _ _ _ => ()) x q f y
def parB (k : IntKind) (r : Nat) (y : HV) : HV := match y with
  | .int k' (.ofNat b) => if ikEq k k' && Nat.beq b 1 then .int k (.ofNat r) else .dead
  | _ => .dead
def parW (f : HV → HV → HV) (x y : HV) : HV :=
  HV.rec (motive_1 := fun _ => (HV → HV → HV) → HV → HV) (motive_2 := fun _ => Unit)
    (fun a0 a1 f y => f (.int a0 a1) y)
    (fun a0 f y => f (.bool a0) y)
    (fun a0 a1 f y => f (.flt a0 a1) y)
    (fun a0 a1 a2 f y => f (.cpx a0 a1 a2) y)
    (fun a0 a1 f y => f (.str a0 a1) y)
    (fun a0 a1 f y => f (.ptr a0 a1) y)
    (fun f y => f (.nilp ) y)
    (fun f y => f (.nili ) y)
    (fun f y => f (.nilf ) y)
    (fun a0 a1 f y => f (.fn a0 a1) y)
    (fun f y => f (.nils ) y)
    (fun a0 a1 a2 a3 a4 f y => f (.slc a0 a1 a2 a3 a4) y)
    (fun a0 a1 f y => f (.agg a0) y)
    (fun a0 a1 f y => f (.tup a0) y)
    (fun f y => f (.und ) y)
    (fun f y => f (.dead ) y)
    (fun a0 a1 a2 f y => f (.md a0 a1 a2) y)
    (fun f y => f (.ub ) y)
    (fun a0 f y => f (.mp a0) y)
    (fun f y => f (.nilm ) y)
    (fun f y => f (.any ) y)
    (fun a0 a1 f y => f (.sy a0 a1) y)
    (fun k r f y => parB k r y) () (fun _ _ _ _ => ()) x f y
def mdF (op : BinOp) (q : F2) : F2 := match q with
  | .f f => match op with
    | .rem => .f (mdW remM f)
    | .and => .f (parW (mdW andM f))
    | .eql => .f (syW Nat.beq (mdW eqlM f))
    | .neq => .f (syW (fun i j => Bool.not (Nat.beq i j)) f)
    | .lss => .f (syW Nat.blt f)
    | .leq => .f (syW Nat.ble f)
    | .gtr => .f (syW (fun i j => Nat.blt j i) f)
    | .geq => .f (syW (fun i j => Nat.ble j i) f)
    | _ => .f f
  | .no => .no
def fltA (op : BinOp) (k : FloatKind) (a b : Nat) : Option Nat :=
  match op with
  | .add => k.format.add a b
  | .sub => k.format.sub a b
  | .mul => k.format.mul a b
  | .quo => k.format.div a b
  | _ => none
def fltV (op : BinOp) (k : FloatKind) (a b : Nat) : HV :=
  let c := k.format.order a b
  match op with
  | .add | .sub | .mul | .quo => match fltA op k a b with | some r => .flt k r | none => .dead
  | .eql => .bool (c == some .eq)
  | .neq => .bool (c != some .eq)
  | .lss => .bool (c == some .lt)
  | .leq => .bool (c == some .lt || c == some .eq)
  | .gtr => .bool (c == some .gt)
  | .geq => .bool (c == some .gt || c == some .eq)
  | _ => .dead
def fltF (op : BinOp) (x y : HV) : HV := match x, y with
  | .flt k a, .flt k' b => if k = k' then fltV op k a b else .dead
  | _, _ => .dead
def cpxV (op : BinOp) (k : FloatKind) (xr xi yr yi : Nat) : HV :=
  match op with
  | .add | .sub => match fltA op k xr yr, fltA op k xi yi with
    | some a, some b => .cpx k a b
    | _, _ => .dead
  | .mul => if k = .f64 then
      match fltA .mul k xr yr, fltA .mul k xi yi, fltA .mul k xr yi, fltA .mul k xi yr with
      | some ac, some bd, some ad, some bc => match fltA .sub k ac bd, fltA .add k ad bc with
        | some a, some b => .cpx k a b
        | _, _ => .dead
      | _, _, _, _ => .dead
    else .dead
  | .eql => .bool ((k.format.order xr yr == some .eq) && (k.format.order xi yi == some .eq))
  | .neq => .bool !((k.format.order xr yr == some .eq) && (k.format.order xi yi == some .eq))
  | _ => .dead
def cpxF (op : BinOp) (x y : HV) : HV := match x, y with
  | .cpx k a b, .cpx k' c d => if k = k' then cpxV op k a b c d else .dead
  | _, _ => .dead
def bLess : Nat → Nat → Nat → Nat → Nat → Bool
  | 0, _, _, _, _ => false
  | f + 1, n, d, m, e => match m with
    | 0 => false
    | m + 1 => match n with
      | 0 => true
      | n + 1 => if Nat.blt (Nat.mod d 256) (Nat.mod e 256) then true else if Nat.blt (Nat.mod e 256) (Nat.mod d 256) then false else bLess f n (Nat.div d 256) m (Nat.div e 256)
def sEq (n d m e : Nat) : Bool := (Nat.beq n m).casesOn false (Nat.beq d e)
def sLess (n d m e : Nat) : Bool := bLess (Nat.add n 1) n d m e
def strV (op : BinOp) (n d m e : Nat) : HV :=
  match op with
  | .add => if Nat.ble (Nat.add n m) 9223372036854775807 then .str (Nat.add n m) (Nat.add d (Nat.mul e (p8 n))) else .dead
  | .eql => .bool (sEq n d m e)
  | .neq => .bool (!(sEq n d m e))
  | .lss => .bool (sLess n d m e)
  | .leq => .bool (sLess n d m e || sEq n d m e)
  | .gtr => .bool (!(sLess n d m e || sEq n d m e))
  | .geq => .bool (!(sLess n d m e))
  | _ => .dead
def strF (op : BinOp) (x y : HV) : HV := match x with
  | .str n d => match y with
    | .str m e => strV op n d m e
    | _ => .dead
  | _ => .dead
def boolF (op : BinOp) (x y : HV) : HV := match x, y with
  | .bool a, .bool b => match op with
    | .eql => .bool (a == b)
    | .neq => .bool (!(a == b))
    | _ => .dead
  | _, _ => .dead
def nilP (x y : HV) : Option Bool := match x, y with
  | .nilp, .nilp => some true
  | .ptr _ _, .nilp => some false
  | .nilp, .ptr _ _ => some false
  | _, _ => none
def nilS (x y : HV) : Option Bool := match x, y with
  | .nils, .nils => some true
  | .slc _ _ _ _ _, .nils => some false
  | _, _ => none
def nilFn (x y : HV) : Option Bool := match x, y with
  | .nilf, .nilf => some true
  | .fn _ _, .nilf => some false
  | _, _ => none
def nilI (x y : HV) : Option Bool := match x, y with
  | .nili, .nili => some true
  | _, _ => none
def nilF (q : HV → HV → Option Bool) (op : BinOp) (x y : HV) : HV := match q x y with
  | some b => match op with
    | .eql => .bool b
    | .neq => .bool (!b)
    | _ => .dead
  | none => .dead
section
variable (Pr : Program)
def sizeT (t : TypeId) : Option Nat := (Pr.info? t).map (·.size)
def bytesT (t : TypeId) : Option Nat := (Pr.info? t).map (·.bytes)
def zeroT (t : TypeId) : HV := match (Pr.info? t).bind (·.zero) with
  | some v => constV v
  | none => .dead
def aggT (t : TypeId) : Option Bool := match Pr.underlying t with
  | some (.struct _) => some true
  | some (.array _ _) => some true
  | some _ => some false
  | none => none
def elemT (t : TypeId) : Option TypeId := match Pr.underlying t with
  | some (.slice e) => some e
  | _ => none
def isU8 (t : TypeId) : Bool := match Pr.underlying t with
  | some (.int .u8) => true
  | _ => false
def partV (agg : Bool) (n off : Nat) (cs : List HV) : HV :=
  agg.casesOn (lget off cs) (if Nat.ble (Nat.add off n) cs.length then .agg ((cs.drop off).take n) else .dead)
def eqFs (eq : TypeId → HV → HV → Option Bool) : List Field → List HV → List HV → Option Bool
  | [], _, _ => some true
  | f :: r, xs, ys =>
    if f.name = "_" then eqFs eq r xs ys else
    match sizeT Pr f.type, aggT Pr f.type with
    | some n, some b => match eq f.type (partV b n f.offset xs) (partV b n f.offset ys) with
      | some true => eqFs eq r xs ys
      | some false => some false
      | none => none
    | _, _ => none
def eqIn : Nat → TypeId → HV → HV → Option Bool
  | 0 => fun _ _ _ => none
  | d + 1 => fun t x y =>
    match Pr.underlying t, x, y with
    | some .bool, .bool a, .bool b => some (a == b)
    | some (.int _), .int k a, .int k' b => if k = k' then some (a == b) else none
    | some (.float _), .flt k a, .flt k' b => if k = k' then some (Op.floatEq k a b) else none
    | some (.complex _), .cpx k a b, .cpx k' a' b' => if k = k' then some (Op.floatEq k a a' && Op.floatEq k b b') else none
    | some .string, .str n a, .str m b => some (sEq n a m b)
    | some (.struct fields), .agg xs, .agg ys =>
      if Pr.stoodInHeld t then none else eqFs Pr (fun t x y => eqIn d t x y) fields.toList xs ys
    | _, _, _ => none
def aggF (op : BinOp) (t : TypeId) (x y : HV) : HV := match x, y with
  | .agg a, .agg b => if Pr.eqGuardType Pr.depth t then .dead else match op, eqIn Pr 10000 t (.agg a) (.agg b) with
    | .eql, some b => .bool b
    | .neq, some b => .bool (!b)
    | _, _ => .dead
  | _, _ => .dead
def binF (op : BinOp) (t : TypeId) : F2 := match op with
  | .shl => .f shl
  | .shr => .f (mdW shrM shr)
  | op => match Pr.underlying t with
    | some (.int _) => mdF op (intF op)
    | some .bool => .f (boolF op)
    | some (.float _) => .f (fltF op)
    | some (.complex _) => .f (cpxF op)
    | some .string => .f (strF op)
    | some (.pointer _) => .f (nilF nilP op)
    | some (.slice _) => .f (nilF nilS op)
    | some (.func _ _ _) => .f (nilF nilFn op)
    | some (.struct _) => .f (aggF Pr op t)
    | _ => .no
def isConstO : Operand → Bool
  | .const _ => true
  | _ => false
def binG (op : BinOp) (t : TypeId) (x y : Operand) : F2 := match Pr.underlying t with
  | some (.interface _) => if isConstO x || isConstO y then .f (nilF nilI op) else .no
  | _ => binF Pr op t
def unV (op : UnOp) (x : HV) : HV := match x with
  | .int k n => match op with
    | .neg => .int k (k.wrap (0 - n))
    | .xor => .int k (k.wrap (BitVec.ofInt k.bits (if k.signed then -1 else k.max) ^^^ BitVec.ofInt k.bits n).toNat)
    | _ => .dead
  | .flt k b => match op with | .neg => .flt k (Op.negFloat k b) | _ => .dead
  | .cpx k a b => match op with | .neg => .cpx k (Op.negFloat k a) (Op.negFloat k b) | _ => .dead
  | .bool b => match op with | .not => .bool (!b) | _ => .dead
  | _ => .dead
def toInt (k : IntKind) (x : HV) : HV := match x with
  | .int _ n => wrapF k n
  | .flt s b => match (s.decode b).toInt .zero with
    | some n => if k.min ≤ n ∧ n ≤ k.max then .int k n else .dead
    | none => .dead
  | .md k' m r => if Nat.ble (top k') (top k) then .md k m r else .dead
  | _ => .dead
def toFlt (k : FloatKind) (x : HV) : HV := match x with
  | .int _ n => .flt k (k.nearest n)
  | .flt s b => if s = k then .flt k b else .dead
  | _ => .dead
def idStr (x : HV) : HV := match x with
  | .str n d => .str n d
  | _ => .dead
inductive CR where
  | ok (v : HV) (h : HT) (c : Nat)
  | x (why : Nat)
variable (D : Nat)
def toStr (h : HT) (x : HV) : HV := match x with
  | .nils => .str 0 0
  | .slc k o n _ _ => match (HT.get D k h).body with
    | .byt m d => if Nat.ble (Nat.add o n) m then .str n (bCut d o n) else .dead
    | _ => .dead
  | _ => .dead
inductive H1 where
  | p (f : HV → HV)
  | f (f : HT → HV → HV)
  | no
def convF (src dst : TypeId) : H1 := match Pr.underlying src, Pr.underlying dst with
  | some _, some (.int k) => .p (toInt k)
  | some _, some (.float k) => .p (toFlt k)
  | some .string, some .string => .p idStr
  | some (.slice e), some .string => if isU8 Pr e then .f (toStr D) else .no
  | _, _ => .no
def loadO (agg : Bool) (n off : Nat) (o : HB) : HV := HB.casesOn o .dead (fun cs => partV agg n off cs)
  (fun m d => agg.casesOn ((Nat.blt off m).casesOn .dead (byteV (bAt d off))) .dead) fun _ _ => .dead
def load (agg : Bool) (n : Nat) (h : HT) (x : HV) : HV := match x with
  | .ptr k off => loadO agg n off (HT.get D k h).body
  | _ => .dead
def loadF (t : TypeId) : H1 := match sizeT Pr t, aggT Pr t with
  | some n, some b => .f (load D b n)
  | _, _ => .no
def layL (cs : List HV) (off : Nat) (ds : List HV) : Option (List HV) :=
  if Nat.ble (Nat.add off ds.length) cs.length then some (cs.take off ++ (ds ++ cs.drop (off + ds.length))) else none
def u8Of (v : HV) : Option Nat := match v with
  | .int k (.ofNat b) => if ikEq k .u8 && Nat.blt b 256 then some b else none
  | _ => none
def storeO (n off : Nat) (v : HV) (o : HB) : HB := match o with
  | .cells cs => if v.cells.length = n ∧ v.cells.all HV.isCell then match layL cs off v.cells with
      | some ds => .cells ds
      | none => .no else .no
  | .byt m d => match u8Of v with
    | some b => if Nat.blt off m && Nat.beq n 1 then .byt m (bLay d off 1 b) else .no
    | none => .no
  | _ => .no
def unpre (pre : Nat) (h : HT) : HT := pre.casesOn h fun k => HT.set D k .no h
def putO (k : Nat) (f : HB → HB) (v : HV) (h : HT) (c : Nat) : CR := HO.casesOn (HT.get D k h) (.x 1) (fun pre b => HB.casesOn (f b) (.x 1) (fun cs => .ok v (HT.set D k (.own 0 (.cells cs)) (unpre D pre h)) c) (fun n d => .ok v (HT.set D k (.own 0 (.byt n d)) (unpre D pre h)) c) fun _ _ => .x 80) fun _ => .x 17
def store (n : Nat) (h : HT) (c : Nat) (x y : HV) : CR := match x with
  | .ptr k off => putO D k (storeO n off y) .und h c
  | _ => .x 2
def fieldAddr (off : Nat) (x : HV) : HV := match x with
  | .ptr k o => .ptr k (Nat.add o off)
  | _ => .dead
def fieldAddrF (t : TypeId) (i : Nat) : F1 := match Pr.underlying t with
  | some (.struct fields) => match fields[i]? with
    | some fd => match sizeT Pr fd.type with
      | some (_ + 1) => .f (fieldAddr fd.offset)
      | _ => .no
    | none => .no
  | _ => .no
def fieldV (agg : Bool) (n off : Nat) (x : HV) : HV := match x with
  | .agg cs => partV agg n off cs
  | _ => .dead
def fieldF (t : TypeId) (i : Nat) : F1 := match Pr.underlying t with
  | some (.struct fields) => match fields[i]? with
    | some fd => match sizeT Pr fd.type, aggT Pr fd.type with
      | some n, some b => .f (fieldV b n fd.offset)
      | _, _ => .no
    | none => .no
  | _ => .no
def natOf (v : HV) : Option Nat := match v with
  | .int _ (.ofNat n) => some n
  | _ => none
def indexAddrS (sz : Nat) (x y : HV) : HV := match x with
  | .slc k o n es _ => match natOf y with
    | some i => (Nat.blt i n).casesOn .dead ((Nat.beq es sz).casesOn .dead (.ptr k (Nat.add o (Nat.mul i es))))
    | none => .dead
  | _ => .dead
def indexAddrA (len n : Nat) (x y : HV) : HV := match x with
  | .ptr k o => match natOf y with
    | some i => (Nat.blt i len).casesOn .dead (.ptr k (Nat.add o (Nat.mul i n)))
    | none => .dead
  | _ => .dead
def indexAddrF (t : TypeId) : F2 := match Pr.underlying t with
  | some (.slice e) => match sizeT Pr e with
    | some n => .f (indexAddrS n)
    | none => .no
  | some (.array len e) => match sizeT Pr e with
    | some n => .f (indexAddrA len n)
    | none => .no
  | _ => .no
def indexV (len n : Nat) (agg : Bool) (x y : HV) : HV := match x, natOf y with
  | .agg cs, some i => if Nat.blt i len then partV agg n (Nat.mul i n) cs else .dead
  | _, _ => .dead
def indexStr (x y : HV) : HV := match x, natOf y with
  | .str n d, some i => if Nat.blt i n then byteV (bAt d i) else .dead
  | _, _ => .dead
def indexF (t : TypeId) : F2 := match Pr.underlying t with
  | some .string => .f indexStr
  | some (.array len e) => match sizeT Pr e, aggT Pr e with
    | some n, some b => .f (indexV len n b)
    | _, _ => .no
  | _ => .no
def boundM (most : Nat) (v : HV) : Option Nat := match natOf v with
  | some i => if Nat.ble i most then some i else none
  | none => none
def boundH (hh : Bool) (dflt : Nat) (v : HV) : Option Nat := hh.casesOn (some dflt) (boundM dflt v)
def sliceStr (hh : Bool) (x lo hi : HV) : HV := match x with
  | .str n d => match boundH hh n hi with
    | some h => match boundM h lo with
      | some l => .str (Nat.sub h l) (bCut d l (Nat.sub h l))
      | none => .dead
    | none => .dead
  | _ => .dead
def sliceSlc (hh : Bool) (sz : Nat) (x lo hi : HV) : HV := match x with
  | .slc k o n es cl => match boundH hh n hi with
    | some h => match boundM h lo with
      | some l => (cl && !(Nat.beq h n) || !(Nat.beq es sz)).casesOn (.slc k (Nat.add o (Nat.mul l es)) (Nat.sub h l) es cl) .dead
      | none => .dead
    | none => .dead
  | .nils => match boundH hh 0 hi with
    | some _ => match boundM 0 lo with
      | some _ => .nils
      | none => .dead
    | none => .dead
  | _ => .dead
def sliceClip (sz : Nat) (x lo hi mx : HV) : HV := match x with
  | .slc k o n es cl => match natOf mx, natOf hi with
    | some m, some h => if Nat.ble m n && Nat.beq h m && Nat.beq es sz then match boundM h lo with
      | some l => .slc k (Nat.add o (Nat.mul l es)) (Nat.sub h l) es true
      | none => .dead else if Nat.ble m n && Nat.ble h m && Nat.beq es sz then match boundM h lo with
      | some _ => .any
      | none => .dead else .dead
    | _, _ => .dead
  | .nils => match natOf mx, natOf hi, boundM 0 lo with
    | some 0, some 0, some _ => .nils
    | _, _, _ => .dead
  | _ => .dead
inductive F3 where
  | f (f : HV → HV → HV → HV)
  | no
def sliceF (hh : Bool) (t : TypeId) : F3 := match Pr.underlying t with
  | some .string => .f (sliceStr hh)
  | some (.slice e) => match sizeT Pr e with
    | some n => .f (sliceSlc hh n)
    | none => .no
  | _ => .no
def pickV (c a b : HV) : HV := match c with
  | .bool t => t.casesOn b a
  | _ => .dead
def nilCheck (x : HV) : HV := match x with
  | .ptr k o => .ptr k o
  | .fn f cs => .fn f cs
  | _ => .dead
def extractV (i : Nat) (x : HV) : HV := match x with
  | .tup vs => lget i vs
  | _ => .dead
inductive FN where
  | f (f : List HV → HV)
  | no
def fillL (place : Nat → Option (Nat × Nat)) (cells : List HV) : List (Nat × HV) → Option (List HV)
  | [] => some cells
  | (i, v) :: rest =>
    match place i with
    | none => none
    | some (off, size) =>
      if v.cells.length = size ∧ v.cells.all HV.isCell then
        match layL cells off v.cells with
        | some cells' => fillL place cells' rest
        | none => none
      else none
def placesT : List Field → Option (List (Nat × Nat))
  | [] => some []
  | f :: r => match sizeT Pr f.type, placesT r with
    | some n, some l => some ((f.offset, n) :: l)
    | _, _ => none
def aggOf (o : Option (List HV)) : HV := match o with
  | some cs => .agg cs
  | none => .dead
def buildF (t : TypeId) (is : List Nat) : FN := match zeroT Pr t, Pr.underlying t with
  | .agg z, some (.struct fields) => match placesT Pr fields.toList with
    | some places => .f fun vs => aggOf (fillL (places[·]?) z (is.zip vs))
    | none => .no
  | .agg z, some (.array _ e) => match sizeT Pr e with
    | some n => .f fun vs => aggOf (fillL (fun i => some (i * n, n)) z (is.zip vs))
    | none => .no
  | _, _ => .no
def bytesL : List HV → Option Nat
  | [] => some 0
  | v :: r => match u8Of v, bytesL r with
    | some b, some d => some (Nat.add b (Nat.mul 256 d))
    | _, _ => none
def objOf (u8 : Bool) (cs : List HV) : HB := u8.casesOn (if cs.all HV.isCell then .cells cs else .no) (match bytesL cs with
  | some d => .byt cs.length d
  | none => .no)
def zero8 (z : List HV) : Bool := match z with
  | [v] => match u8Of v with
    | some 0 => true
    | _ => false
  | _ => false
def repO (u8 : Bool) (l : Nat) (z : List HV) : HB := u8.casesOn ((z.all HV.isCell).casesOn .no (.cells (List.replicate l z).flatten)) ((zero8 z).casesOn .no (.byt l 0))
def newO (pre : Nat) (o : HB) (v : HV) (h : HT) (c : Nat) : CR := (Nat.blt c (Nat.pow 4 D)).casesOn (.x 3) (HB.casesOn o (.x 4) (fun cs => .ok v (HT.set D c (.own pre (.cells cs)) h) (Nat.succ c)) (fun n d => .ok v (HT.set D c (.own pre (.byt n d)) h) (Nat.succ c)) fun es cl => .ok v (HT.set D c (.own pre (.map es cl)) h) (Nat.succ c))
inductive AN where
  | f (f : HT → Nat → List HV → CR)
  | no
def allocF (e : TypeId) : AN := match zeroT Pr e with
  | .dead => .no
  | z => (z.cells.all HV.isCell).casesOn .no (.f fun h c _ => newO D 0 (.cells z.cells) (.ptr c 0) h c)
def boxF (e : TypeId) : AN := match sizeT Pr e with
  | some n => .f fun h c vs => match vs with
    | [v] => if v.cells.length = n ∧ v.cells.all HV.isCell then newO D 0 (.cells v.cells) (.ptr c 0) h c else .x 5
    | _ => .x 5
  | none => .no
def buildSliceF (t : TypeId) (len : Nat) (is : List Nat) : AN := match elemT Pr t with
  | some e => match sizeT Pr e, zeroT Pr e with
    | some _, .dead => .no
    | some n, z => if n = 0 ∨ len * n > 16777216 ∨ z.cells.length ≠ n then .no else
      .f fun h c vs => match fillL (fun i => some (i * n, n)) ((List.replicate len z.cells).flatten) (is.zip vs) with
        | some cs => newO D 0 (objOf (isU8 Pr e) cs) (.slc c 0 len n false) h c
        | none => .x 6
    | _, _ => .no
  | none => .no
def makeSliceF (t : TypeId) : AN := match elemT Pr t with
  | some e => match sizeT Pr e, bytesT Pr e, zeroT Pr e with
    | some n, some by_, z => if n = 0 ∨ z.cells.length ≠ n then .no else
      .f fun h c vs => match vs with
        | [l, co] => match natOf l, natOf co with
          | some l, some co => if Nat.ble l co && Nat.ble co 9223372036854775807 && Nat.ble (Nat.mul by_ co) 281474976710656 then
              newO D 0 (repO (isU8 Pr e) l z.cells) (.slc c 0 l n false) h c else .x 7
          | _, _ => .x 7
        | _ => .x 7
    | _, _, _ => .no
  | none => .no
inductive Src where
  | byt (n d : Nat)
  | cells (n : Nat) (cs : List HV)
  | no
def srcOf (es : Nat) (h : HT) (x : HV) : Src := match x with
  | .str n d => (Nat.beq es 1).casesOn .no (.byt n d)
  | .nils => .cells 0 []
  | .slc k o n es' _ => (Nat.beq es es').casesOn .no (match (HT.get D k h).body with
    | .byt m d => if Nat.ble (Nat.add o n) m && Nat.beq es 1 then .byt n (bCut d o n) else .no
    | .cells cs => if Nat.ble (Nat.add o (Nat.mul n es)) cs.length then .cells n ((cs.drop o).take (Nat.mul n es)) else .no
    | _ => .no)
  | _ => .no
def Src.len : Src → Nat
  | .byt n _ => n
  | .cells n _ => n
  | .no => 0
def Src.obj (u8 : Bool) (s : Src) : HB := match s with
  | .byt n d => u8.casesOn .no (.byt n d)
  | .cells n cs => u8.casesOn (.cells cs) ((Nat.beq n 0).casesOn .no (.byt 0 0))
  | .no => .no
def joinO (o : Nat) (n : Nat) (x y : HB) : HB := match x, y with
  | .byt m d, .byt m' e => if Nat.ble (Nat.add o n) m then .byt (Nat.add n m') (Nat.add (bCut d o n) (Nat.mul e (p8 n))) else .no
  | .cells cs, .cells ds => if Nat.ble (Nat.add o n) cs.length then .cells ((cs.drop o).take n ++ ds) else .no
  | _, _ => .no
def overO (o : Nat) (y x : HB) : HB := match x, y with
  | .byt m d, .byt m' e => if Nat.ble (Nat.add o m') m then .byt m (bLay d o m' e) else .no
  | .cells cs, .cells ds => match layL cs o ds with
    | some cs => .cells cs
    | none => .no
  | _, _ => .no
def sizeO : HB → Nat
  | .byt n _ => n
  | .cells cs => cs.length
  | _ => 0
def append (u8 : Bool) (es by_ : Nat) (h : HT) (c : Nat) (x y : HV) : CR :=
  let s := srcOf D es h y
  let m := s.len
  match s.obj u8 with
  | .no => .x 8
  | ob => match x with
    | .nils => if Nat.beq m 0 then .ok .nils h c else if Nat.ble (Nat.mul m by_) 140737488355328 then newO D 0 ob (.slc c 0 m es false) h c else .x 9
    | .slc k o n es' cl => if Nat.beq m 0 then .ok (.slc k o n es' cl) h c else
      if Nat.beq es es' && Nat.ble (Nat.mul (Nat.add n m) by_) 140737488355328 then
      match HT.get D k h with
      | .own pre x =>
        let e := Nat.add o (Nat.mul n es)
        if cl then newO D 0 (joinO o (Nat.mul n es) x ob) (.slc c 0 (Nat.add n m) es false) h c
        else if Nat.beq e (sizeO x) && Nat.beq o 0 then newO D (Nat.succ k) (joinO o (Nat.mul n es) x ob) (.slc c 0 (Nat.add n m) es false) (HT.set D k (.sh x) (unpre D pre h)) c
        else if Nat.ble (Nat.add e (Nat.mul m es)) (sizeO x) then putO D k (overO e ob) (.slc k o (Nat.add n m) es false) h c
        else .x 11
      | .sh x => if cl then newO D 0 (joinO o (Nat.mul n es) x ob) (.slc c 0 (Nat.add n m) es false) h c else .x 18
      | .no => .x 11
      else .x 11
    | _ => .x 12
inductive E2 where
  | f (f : HT → Nat → HV → HV → CR)
  | no
def appendF (t t2 : TypeId) : E2 := match Pr.underlying t2 with
  | some (.slice _) | some .string => match elemT Pr t with
    | some e => match sizeT Pr e, bytesT Pr e, zeroT Pr e with
      | some es, some by_, z => if es = 0 ∨ by_ = 0 ∨ z.cells.length ≠ es ∨ z.cells.all HV.isCell = false then .no else .f (append D (isU8 Pr e) es by_)
      | _, _, _ => .no
    | none => .no
  | _ => .no
def cutSrc (es m : Nat) (s : Src) : Src := match s with
  | .byt n d => .byt m (bCut d 0 m)
  | .cells n cs => .cells m (cs.take (Nat.mul m es))
  | .no => .no
def copy (u8 : Bool) (es : Nat) (h : HT) (c : Nat) (x y : HV) : CR :=
  let s := srcOf D es h y
  match s with
  | .no => .x 13
  | s => match x with
    | .nils => .ok (.int .i64 (.ofNat 0)) h c
    | .slc k o n es' _ =>
      let m := Nat.min s.len n
      if Nat.beq m 0 then .ok (.int .i64 (.ofNat 0)) h c else
      if Nat.beq es es' then putO D k (overO o ((cutSrc es m s).obj u8)) (.int .i64 (.ofNat m)) h c else .x 14
    | _ => .x 14
def copyF (t : TypeId) : E2 := match elemT Pr t with
  | some e => match sizeT Pr e with
    | some es => .f (copy D (isU8 Pr e) es)
    | none => .no
  | none => .no
def clearE (u8 : Bool) (z : List HV) (h : HT) (c : Nat) (x _y : HV) : CR := match x with
  | .nils => .ok .und h c
  | .slc k o n _ _ => if Nat.beq n 0 then .ok .und h c else
    putO D k (overO o (repO u8 n z)) .und h c
  | _ => .x 15
def clearF (t : TypeId) : E2 := match elemT Pr t with
  | some e => match sizeT Pr e, zeroT Pr e with
    | some es, z => if es = 0 ∨ z.cells.length ≠ es then .no else .f (clearE D (isU8 Pr e) z.cells)
    | _, _ => .no
  | none => .no
def storeF (t : TypeId) : E2 := match sizeT Pr t with
  | some n => .f (store D n)
  | none => .no
def lenStr (x : HV) : HV := match x with
  | .str n _ => .int .i64 (.ofNat n)
  | _ => .dead
def lenSlc (x : HV) : HV := match x with
  | .slc _ _ n _ _ => .int .i64 (.ofNat n)
  | .nils => .int .i64 (.ofNat 0)
  | _ => .dead
def lenF (t : TypeId) : F1 := match Pr.underlying t with
  | some .string => .f lenStr
  | some (.slice _) => .f lenSlc
  | some (.array n _) => .f fun _ => .int .i64 (.ofNat n)
  | some (.pointer a) => match Pr.underlying a with
    | some (.array n _) => .f fun _ => .int .i64 (.ofNat n)
    | _ => .no
  | _ => .no
def minF (k : FloatKind) (a b : Nat) : HV := match k.format.order a b with
  | some .lt => .flt k a
  | some .gt => .flt k b
  | some .eq => .flt k (if (k.decode a).neg then a else b)
  | none => .dead
def maxF (k : FloatKind) (a b : Nat) : HV := match k.format.order a b with
  | some .lt => .flt k b
  | some .gt => .flt k a
  | some .eq => .flt k (if (k.decode a).neg then b else a)
  | none => .dead
def minV (x y : HV) : HV := match x, y with
  | .int k a, .int _ b => .int k (if b < a then b else a)
  | .flt k a, .flt k' b => if k = k' then minF k a b else .dead
  | _, _ => .dead
def maxV (x y : HV) : HV := match x, y with
  | .int k a, .int _ b => .int k (if b > a then b else a)
  | .flt k a, .flt k' b => if k = k' then maxF k a b else .dead
  | _, _ => .dead
def realV (x : HV) : HV := match x with
  | .cpx k a _ => .flt k a
  | _ => .dead
def imagV (x : HV) : HV := match x with
  | .cpx k _ b => .flt k b
  | _ => .dead
def cpxOf (x y : HV) : HV := match x, y with
  | .flt k a, .flt k' b => if k = k' then .cpx k a b else .dead
  | _, _ => .dead
def uM : Nat := 1099511627776
def keyEq (a b : Int) : Bool := match a, b with
  | .ofNat m, .ofNat n => Nat.beq m n
  | .negSucc m, .negSucc n => Nat.beq m n
  | _, _ => false
def findM (key : Int) : List ME → Option HV
  | [] => none
  | e :: r => if keyEq e.key key then some e.val else findM key r
def bornM (key : Int) : List ME → Option Nat
  | [] => none
  | e :: r => if keyEq e.key key then some e.born else bornM key r
def putM (key : Int) (v : HV) : List ME → Option (List ME)
  | [] => none
  | e :: r => if keyEq e.key key then some (⟨e.key, v, e.born⟩ :: r) else match putM key v r with
    | some l => some (e :: l)
    | none => none
def storeM (born : Nat) (v : HV) : List ME → Option (List ME)
  | [] => none
  | e :: r => if Nat.beq e.born born then some (⟨e.key, v, e.born⟩ :: r) else match storeM born v r with
    | some l => some (e :: l)
    | none => none
def delM (key : Int) : List ME → List ME
  | [] => []
  | e :: r => if keyEq e.key key then r else e :: delM key r
def okTup (ok : Bool) (v : HV) (b : Bool) : HV := if ok then .tup [v, .bool b] else v
def liveV : HV → Bool
  | .dead => false
  | .any => false
  | .tup _ => false
  | _ => true
def lookV (z : HV) (ok : Bool) (h : HT) (m : HV) (key : Int) : HV := match m with
  | .nilm => okTup ok z false
  | .mp k => match (HT.get D k h).body with
    | .map es _ => match findM key es with
      | some v => okTup ok v true
      | none => okTup ok z false
    | _ => .dead
  | _ => .dead
def lookupV (z : HV) (ok : Bool) (h : HT) (x : HV) : HV := match x with
  | .tup [m, .int k key] => if ikEq k .i64 then lookV D z ok h m key else .dead
  | _ => .dead
def mapT (t : TypeId) : Option TypeId := match Pr.underlying t with
  | some (.map kt et) => match Pr.underlying kt with
    | some (.int .i64) => some et
    | _ => none
  | _ => none
def lookupF (t : TypeId) (ok : Bool) : H1 := match mapT Pr t with
  | some et => if liveV (zeroT Pr et) then .f (lookupV D (zeroT Pr et) ok) else .no
  | none => .no
def setM (k : Nat) (v : HV) (es : List ME) (cl : Nat) (h : HT) (c : Nat) : CR := .ok v (HT.set D k (.own 0 (.map es cl)) h) c
def updE (h : HT) (c : Nat) (x y : HV) : CR := match x, y with
  | .mp k, .tup [.int ik key, v] => if ikEq ik .i64 && liveV v then match HT.get D k h with
    | .own 0 (.map es cl) => match putM key v es with
      | some l => setM D k .und l cl h c
      | none => (Nat.beq (Nat.succ cl) uM).casesOn (setM D k .und (es ++ [⟨key, v, cl⟩]) (Nat.succ cl) h c) (.x 86)
    | _ => .x 81 else .x 81
  | _, _ => .x 82
def updF (t : TypeId) : E2 := match mapT Pr t with
  | some _ => .f (updE D)
  | none => .no
def entE (z : HV) (h : HT) (c : Nat) (x y : HV) : CR := match x, y with
  | .mp k, .int ik key => if ikEq ik .i64 then match HT.get D k h with
    | .own 0 (.map es cl) => if Nat.blt cl uM then match findM key es, bornM key es with
      | some v, some b => setM D k (.tup [v, .int .i64 (.ofNat b)]) es cl h c
      | none, none => (Nat.beq (Nat.succ cl) uM).casesOn (setM D k (.tup [z, .int .i64 (.ofNat cl)]) (es ++ [⟨key, z, cl⟩]) (Nat.succ cl) h c) (.x 86)
      | _, _ => .x 81 else .x 85
    | _ => .x 81 else .x 81
  | _, _ => .x 82
def entF (t : TypeId) : E2 := match mapT Pr t with
  | some et => if liveV (zeroT Pr et) then .f (entE D (zeroT Pr et)) else .no
  | none => .no
def entStE (h : HT) (c : Nat) (x y : HV) : CR := match x, y with
  | .mp k, .tup [.int _ (.ofNat born), v] => if liveV v then match HT.get D k h with
    | .own 0 (.map es cl) => if Nat.blt cl uM then match storeM born v es with
      | some l => setM D k .und l cl h c
      | none => .x 80 else .x 85
    | _ => .x 81 else .x 81
  | _, _ => .x 82
def clrE (h : HT) (c : Nat) (x _y : HV) : CR := match x with
  | .mp k => match HT.get D k h with
    | .own 0 (.map _ cl) => setM D k .und [] cl h c
    | _ => .x 83
  | .nilm => .ok .und h c
  | _ => .x 84
def delE (h : HT) (c : Nat) (x y : HV) : CR := match x, y with
  | .mp k, .int ik key => if ikEq ik .i64 then match HT.get D k h with
    | .own 0 (.map es cl) => setM D k (.tup []) (delM key es) cl h c
    | _ => .x 83 else .x 83
  | .nilm, .int ik _ => if ikEq ik .i64 then .ok (.tup []) h c else .x 83
  | _, _ => .x 84
def delF (t : TypeId) : E2 := match mapT Pr t with
  | some _ => .f (delE D)
  | none => .no
def lenM (h : HT) (x : HV) : HV := match x with
  | .nilm => .int .i64 (.ofNat 0)
  | .mp k => match (HT.get D k h).body with
    | .map es _ => .int .i64 (.ofNat es.length)
    | _ => .dead
  | _ => .dead
def makeM (h : HT) (c : Nat) (_ : List HV) : CR := newO D 0 (.map [] 0) (.mp c) h c
def sliceWide (hh : Bool) (sz : Nat) (h : HT) (x lo hi : HV) : HV := match x with
  | .slc k o n es cl => if hh && (!cl && Nat.beq es sz) then match natOf hi with
    | some b => if Nat.blt n b && Nat.ble (Nat.add o (Nat.mul b es)) (sizeO (HT.get D k h).body) then match boundM b lo with
      | some l => .slc k (Nat.add o (Nat.mul l es)) (Nat.sub b l) es false
      | none => .dead else .dead
    | none => .dead else .dead
  | _ => .dead
def orV (v w : HV) : HV := match v with
  | .dead => w
  | v => v
def sliceH (hh : Bool) (sz : Nat) (h : HT) (v : HV) : HV := match v with
  | .tup [x, lo, hi] => orV (sliceSlc hh sz x lo hi) (sliceWide D hh sz h x lo hi)
  | _ => .dead
def tripG (x y z : G) : G := .f fun t s => .tup [x.ev t s, y.ev t s, z.ev t s]
def pairG (x y : G) : G := .f fun t s => .tup [x.ev t s, y.ev t s]
inductive FOp where
  | u1 (st : P) (f : HV → HV) (x : G)
  | u2 (st : P) (f : HV → HV → HV) (x y : G)
  | u3 (st : P) (f : HV → HV → HV → HV) (x y z : G)
  | un (st : P) (f : List HV → HV) (xs : List G)
  | h1 (st : P) (f : HT → HV → HV) (x : G)
  | al (st : P) (f : HT → Nat → List HV → CR) (xs : List G)
  | e2 (st : P) (f : HT → Nat → HV → HV → CR) (x y : G)
  | call (st : P) (f : FuncId) (xs : List G)
  | calv (st : P) (g : G) (xs : List G)
  | grd (g : G) (want : Bool) (st : P) (o : FOp)
  | bad (why : Nat)
inductive FOps where
  | nil
  | cons (o : FOp) (r : FOps)
inductive DOps where
  | nil
  | pure (o : FOp) (r : DOps)
  | read (o : FOp) (back fwd : Nat) (r : DOps)
  | new (o : FOp) (chk : List G) (r : DOps)
  | eff (o : FOp) (chk : List G) (r : DOps)
inductive FCode where
  | skip
  | ops (l : FOps)
  | draw (l : DOps)
  | seq (a b : FCode)
  | cond (g : G) (a b : FCode)
  | block (id : Nat) (c : FCode)
  | loop (c : FCode)
  | exit (id : Nat)
  | scope (c : Code) (r : FCode)
  | goto (l : Nat)
  | ret
  | bad (why : Nat)
def idx (t : Nat) : List Nat → Option Nat
  | [] => none
  | a :: r => (Nat.beq a t).casesOn (match idx t r with | some j => some (j + 1) | none => none) (some 0)
def rank (gl : Nat) : Nat → Nat
  | 0 => 0
  | t + 1 => (Nat.testBit gl t).casesOn (rank gl t) (Nat.succ (rank gl t))
def gLoc (j : Nat) : G := .f fun t _ => lget j t
def opnd (gl : Nat) (reg : List Nat) (o : Operand) : G := match o with
  | .tmp t => match idx t reg with
    | some j => gLoc j
    | none => (Nat.testBit gl t).casesOn (.c .dead) (gVar (rank gl t))
  | .const v => .c (constV v)
  | .func f => .c (.fn f [])
  | .global _ => .c .dead
def dstP (gl : Nat) (d : Option Nat) : P := match d with
  | none => .skip
  | some t => (Nat.testBit gl t).casesOn .loc (pVar (rank gl t))
def opnds (gl : Nat) (reg : List Nat) (l : List Operand) : List G := l.map (opnd gl reg)
def optG (gl : Nat) (reg : List Nat) (o : Option Operand) : G := match o with
  | none => .c (.int .i64 (.ofNat 0))
  | some o => opnd gl reg o
def oF1 (st : P) (f : F1) (x : G) : FOp := match f with | .f f => .u1 st f x | .no => .bad 20
def oF2 (st : P) (f : F2) (x y : G) : FOp := match f with | .f f => .u2 st f x y | .no => .bad 21
def oF3 (st : P) (f : F3) (x y z : G) : FOp := match f with | .f f => .u3 st f x y z | .no => .bad 22
def oFN (st : P) (f : FN) (xs : List G) : FOp := match f with | .f f => .un st f xs | .no => .bad 23
def oE2 (st : P) (f : E2) (x y : G) : FOp := match f with | .f f => .e2 st f x y | .no => .bad 24
def oAN (st : P) (f : AN) (xs : List G) : FOp := match f with | .f f => .al st f xs | .no => .bad 25
def oH1 (st : P) (f : H1) (x : G) : FOp := match f with | .p f => .u1 st f x | .f f => .h1 st f x | .no => .bad 26
def makeFn (f : FuncId) (vs : List HV) : HV := .fn f (vs.map fun v => match v with | .ptr k o => (k, o) | _ => (0, 0))
def allPtr (vs : List HV) : Bool := vs.all fun v => match v with | .ptr _ _ => true | _ => false
def makeFnF (f : FuncId) (vs : List HV) : HV := (allPtr vs).casesOn .dead (makeFn f vs)
def compBi (gl : Nat) (reg : List Nat) (st : P) (b : Builtin) (ts : List TypeId) (as : List Operand) : FOp :=
  let o := opnd gl reg
  match b, ts, as with
  | .len, t :: _, [a] => match Pr.underlying t with
    | some (.map _ _) => .h1 st (lenM D) (o a)
    | _ => oF1 st (lenF Pr t) (o a)
  | .delete, t :: _, [a, b] => oE2 st (delF Pr D t) (o a) (o b)
  | .append, [t, t2], [a, b] => oE2 st (appendF Pr D t t2) (o a) (o b)
  | .copy, t :: _, [a, b] => oE2 st (copyF Pr D t) (o a) (o b)
  | .clear, t :: _, [a] => match Pr.underlying t with
    | some (.map _ _) => .e2 st (clrE D) (o a) (.c .und)
    | _ => oE2 st (clearF Pr D t) (o a) (.c .und)
  | .min, _, [a, b] => .u2 st minV (o a) (o b)
  | .max, _, [a, b] => .u2 st maxV (o a) (o b)
  | .real, _, [a] => .u1 st realV (o a)
  | .imag, _, [a] => .u1 st imagV (o a)
  | .complex, _, [a, b] => .u2 st cpxOf (o a) (o b)
  | _, _, _ => .bad 27
def cmpName : String := "internal/bytealg.abigen_runtime_cmpstring"
def isCmp (f : FuncId) : Bool := match Pr.funcs[f]? with
  | some fn => fn.body.isNone && (fn.name == cmpName && fn.origin == "")
  | none => false
def cmpN (n a m b : Nat) : Int := match (List.range (Nat.min n m)).find? fun i => !(Nat.beq (bAt a i) (bAt b i)) with
  | some i => if Nat.blt (bAt a i) (bAt b i) then -1 else 1
  | none => if Nat.blt n m then -1 else if Nat.blt m n then 1 else 0
def cmpV (x y : HV) : HV := match x, y with
  | .str n a, .str m b => .int .i64 (cmpN n a m b)
  | _, _ => .dead
def cmpOp (gl : Nat) (reg : List Nat) (st : P) (as : List Operand) : FOp := match as with
  | [a, b] => .u2 st cmpV (opnd gl reg a) (opnd gl reg b)
  | _ => .bad 36
def idV (v : HV) : HV := v
def clipN (sz : Nat) (vs : List HV) : HV := match vs with
  | [x, lo, hi, mx] => sliceClip sz x lo hi mx
  | _ => .dead
def compOp (gl : Nat) (reg : List Nat) (dst : Option Nat) (op : Op) : FOp :=
  let st := dstP gl dst
  let o := opnd gl reg
  match op with
  | .move x => .u1 st idV (o x)
  | .assign x => .u1 st idV (o x)
  | .pick c a b => .u3 st pickV (o c) (o a) (o b)
  | .alloc e => oAN st (allocF Pr D e) []
  | .box e v => oAN st (boxF Pr D e) [o v]
  | .build t ps => oFN st (buildF Pr t (ps.toList.map (·.1))) (ps.toList.map fun p => o p.2)
  | .buildSlice t len ps => oAN st (buildSliceF Pr D t len (ps.toList.map (·.1))) (ps.toList.map fun p => o p.2)
  | .load t x => oH1 st (loadF Pr D t) (o x)
  | .store t x y => oE2 st (storeF Pr D t) (o x) (o y)
  | .nilCheck x => .u1 st nilCheck (o x)
  | .binOp op t x y _ => oF2 st (binG Pr op t x y) (o x) (o y)
  | .unOp op _ x => .u1 st (unV op) (o x)
  | .convert src dst x => oH1 st (convF Pr D src dst) (o x)
  | .makeFunc (.func f) first caps => if first.isEmpty then .un st (makeFnF f) (opnds gl reg caps.toList) else .bad 28
  | .makeSlice t l c => oAN st (makeSliceF Pr D t) [o l, o c]
  | .slice t x lo hi mx => match mx with
    | none => match Pr.underlying t with
      | some (.slice e) => match sizeT Pr e with
        | some n => .h1 st (sliceH D hi.isSome n) (tripG (o x) (optG gl reg lo) (optG gl reg hi))
        | none => .bad 22
      | _ => oF3 st (sliceF Pr hi.isSome t) (o x) (optG gl reg lo) (optG gl reg hi)
    | some mx => match Pr.underlying t with
      | some (.slice e) => match sizeT Pr e with
        | some n => if hi.isSome then .un st (clipN n) [o x, optG gl reg lo, optG gl reg hi, o mx] else .bad 29
        | none => .bad 29
      | _ => .bad 29
  | .fieldAddr t x i => oF1 st (fieldAddrF Pr t i) (o x)
  | .field t x i => oF1 st (fieldF Pr t i) (o x)
  | .indexAddr t x y => oF2 st (indexAddrF Pr t) (o x) (o y)
  | .index t x y => oF2 st (indexF Pr t) (o x) (o y)
  | .extract x i => .u1 st (extractV i) (o x)
  | .call c => match c.callee with
    | .value (.func f) => if isCmp Pr f then cmpOp gl reg st c.args.toList else .call st f (opnds gl reg c.args.toList)
    | .value v => .calv st (o v) (opnds gl reg c.args.toList)
    | .builtin b => compBi Pr D gl reg st b c.argTypes.toList c.args.toList
    | _ => .bad 30
  | .makeMap t none => .al st (makeM D) []
  | .lookup t x y ok => oH1 st (lookupF Pr D t ok) (pairG (o x) (o y))
  | .mapUpdate t x y z => oE2 st (updF Pr D t) (o x) (pairG (o y) (o z))
  | .mapEntry t x y => oE2 st (entF Pr D t) (o x) (o y)
  | .entryStore _ x y z => .e2 st (entStE D) (o x) (pairG (o y) (o z))
  | _ => .bad 31
def dstOk (nt : Nat) (d : Option Nat) : Bool := match d with
  | none => true
  | some t => Nat.blt t nt
def compG (ops : Array Oper) (nt gl : Nat) (reg : List Nat) (o : Oper) : FOp :=
  (dstOk nt o.dst).casesOn (.bad 34) (match o.guard with
  | none => compOp Pr D gl reg o.dst o.op
  | some (j, want) => match (ops[j]?).bind (·.dst) with
    | some t => .grd (opnd gl reg (.tmp t)) want (dstP gl o.dst) (compOp Pr D gl reg o.dst o.op)
    | none => .bad 32)
def regOf (d : Option Nat) (reg : List Nat) : List Nat := match d with
  | some t => t :: reg
  | none => reg
def compOps (ops : Array Oper) (nt gl : Nat) : List Nat → List Oper → FOps
  | _, [] => .nil
  | reg, o :: r => .cons (compG Pr D ops nt gl reg o) (compOps ops nt gl (regOf o.dst reg) r)
def regOps : List Nat → List Oper → List Nat
  | reg, [] => reg
  | reg, o :: r => regOps (regOf o.dst reg) r
inductive Kd where
  | pure | read | new | eff
def kdF (o : FOp) : Kd := match o with
  | .h1 _ _ _ => .read
  | .al _ _ _ => .new
  | .e2 _ _ _ _ => .eff
  | .call _ _ _ => .eff
  | .calv _ _ _ => .eff
  | .grd _ _ _ o => match o with
    | .h1 _ _ _ => .read
    | .al _ _ _ => .new
    | .e2 _ _ _ _ => .eff
    | .call _ _ _ => .eff
    | .calv _ _ _ => .eff
    | .grd _ _ _ _ => .eff
    | _ => .pure
  | _ => .pure
def natAt (l : List Nat) (i : Nat) : Nat := match l, i with
  | [], _ => 0
  | a :: _, 0 => a
  | _ :: r, i + 1 => natAt r i
def ancE (A : List Nat) : List Edge → Nat
  | [] => 0
  | e :: r => if Region.binds .any e then Nat.lor (Nat.lor (Nat.pow 2 e.on) (natAt A e.on)) (ancE A r) else ancE A r
def ancs (A : List Nat) : List Oper → List Nat
  | [] => A
  | o :: r => ancs (A ++ [ancE A o.after.toList]) r
def low (i : Nat) (es : List Edge) : Bool := es.all fun e => if Region.binds .any e then Nat.blt e.on i else true
def usesOf (ops : Array Oper) (o : Oper) : List Nat :=
  o.op.operands.toList.filterMap (fun | .tmp t => some t | _ => none) ++ match o.guard with
    | some (j, _) => match (ops[j]?).bind (·.dst) with
      | some t => [t]
      | none => []
    | none => []
def meets (ops : Array Oper) (a b : Oper) : Bool := match a.dst with
  | some x => (usesOf ops b).elem x || match b.dst with | some y => Nat.beq x y | none => false
  | none => false
def okPair (ops : Array Oper) (A : List Nat) (i : Nat) (ki : Kd) (oi : Oper) (j : Nat) (kj : Kd) (oj : Oper) : Bool :=
  Nat.testBit (natAt A j) i || (!(meets ops oi oj || meets ops oj oi) && match ki, kj with
    | .eff, .eff => false
    | .new, .eff => false
    | _, _ => true)
def okRow (ops : Array Oper) (A : List Nat) (j : Nat) (kj : Kd) (oj : Oper) : Nat → List (Kd × Oper) → Bool
  | _, [] => true
  | i, (ki, oi) :: r => (Nat.blt i j).casesOn true (okPair ops A i ki oi j kj oj && okRow ops A j kj oj (i + 1) r)
def seen (k : Kd) (o : Oper) : Bool := match k with
  | .read => o.dst.isSome
  | .new => o.dst.isSome
  | _ => true
def okRows (ops : Array Oper) (A : List Nat) (all : List (Kd × Oper)) : Nat → List (Kd × Oper) → Bool
  | _, [] => true
  | j, (kj, oj) :: r => low j oj.after.toList && seen kj oj && okRow ops A j kj oj 0 all && okRows ops A all (j + 1) r
def cntE (p : Nat → Bool) : Nat → List Kd → Nat
  | _, [] => 0
  | i, .eff :: r => (p i).casesOn (cntE p (i + 1) r) (Nat.succ (cntE p (i + 1) r))
  | i, _ :: r => cntE p (i + 1) r
def laterN (A : List Nat) (i : Nat) : Nat → List Kd → Bool
  | _, [] => false
  | j, .new :: r => (Nat.blt i j && !(Nat.testBit (natAt A j) i)) || laterN A i (j + 1) r
  | j, _ :: r => laterN A i (j + 1) r
def regsOf : List Nat → List Oper → List (List Nat)
  | _, [] => []
  | reg, o :: r => reg :: regsOf (regOf o.dst reg) r
def fopsOf (ops : Array Oper) (nt gl : Nat) : List Nat → List Oper → List FOp
  | _, [] => []
  | reg, o :: r => compG Pr D ops nt gl reg o :: fopsOf ops nt gl (regOf o.dst reg) r
def compD (gl : Nat) (A : List Nat) (ks : List Kd) : Nat → List Nat → List FOp → List Oper → DOps
  | i, reg, f :: fs, o :: r =>
    let rest := compD gl A ks (i + 1) (regOf o.dst reg) fs r
    match kdF f with
    | .pure => .pure f rest
    | .read => let cur := cntE (fun j => Nat.blt j i) 0 ks
      .read f (Nat.sub cur (cntE (fun j => Nat.testBit (natAt A i) j) 0 ks)) (Nat.sub (cntE (fun j => !(Nat.testBit (natAt A j) i)) 0 ks) cur) rest
    | .new => .new f (if laterN A i 0 ks then opnds gl reg o.op.operands.toList else []) rest
    | .eff => .eff f (if laterN A i 0 ks then opnds gl reg o.op.operands.toList else []) rest
  | _, _, _, _ => .nil
def nthP : List Nat → Nat → Nat
  | [], _ => 0
  | x :: _, 0 => x
  | _ :: l, k + 1 => nthP l k
def remap (ρ : List Nat) (o : Oper) : Oper := { o with after := o.after.map fun e => { e with on := nthP ρ e.on }, guard := o.guard.map fun p => (nthP ρ p.1, p.2) }
def permO (ops : Array Oper) (π ρ : List Nat) : Array Oper := ((List.range ops.size).filterMap fun k => (ops[nthP π k]?).map (remap ρ)).toArray
def isNewO : Op → Bool
  | .alloc _ => true
  | .box .. => true
  | .makeSlice .. => true
  | .buildSlice .. => true
  | _ => false
def isCallO : Op → Bool
  | .call c => match c.callee with
    | .builtin _ => false
    | _ => true
  | _ => false
def needsP (ops : Array Oper) : Bool :=
  let l := ops.toList
  if (l.any fun o => isNewO o.op) && (l.any fun o => isCallO o.op) then
    let A := ancs [] l
    (l.zipIdx.any fun p => isCallO p.1.op && l.zipIdx.any fun q => isNewO q.1.op && (Nat.blt q.2 p.2 && !(Nat.testBit (natAt A p.2) q.2)))
  else false
def readyP (done : List Nat) (o : Oper) : Bool := o.after.toList.all fun e => !(Region.binds .any e) || done.elem e.on
def nextP (done : List Nat) (l : List (Oper × Nat)) : Option Nat :=
  match l.find? fun p => !(done.elem p.2) && (!(isNewO p.1.op) && readyP done p.1) with
  | some p => some p.2
  | none => match l.find? fun p => !(done.elem p.2) && readyP done p.1 with
    | some p => some p.2
    | none => none
def orderP (l : List (Oper × Nat)) : Nat → List Nat → List Nat
  | 0, done => done
  | n + 1, done => match nextP done l with
    | some i => orderP l n (done ++ [i])
    | none => done
def invP (π : List Nat) (n : Nat) : List Nat := (List.range n).map fun i => π.idxOf i
def permB (ops : Array Oper) (π ρ : List Nat) : Bool :=
  let n := ops.size
  ((List.range n).all fun k => Nat.blt (nthP π k) n && Nat.beq (nthP ρ (nthP π k)) k) && (((List.range n).all fun i => Nat.blt (nthP ρ i) n && Nat.beq (nthP π (nthP ρ i)) i) &&
  ((ops.toList.all fun o => match o.guard with
    | some (j, _) => Nat.blt j n
    | none => true) && (ops.toList.zipIdx.all fun p => low p.2 p.1.after.toList)))
def opsP (ops : Array Oper) : Array Oper :=
  if needsP ops then
    let π := orderP ops.toList.zipIdx ops.size []
    let ρ := invP π ops.size
    if permB ops π ρ then permO ops π ρ else ops
  else ops
def compDraw (ops : Array Oper) (nt gl : Nat) : FCode :=
  let fs := fopsOf Pr D ops nt gl [] ops.toList
  let ks := fs.map kdF
  let A := ancs [] ops.toList
  let all := ks.zip ops.toList
  if okRows ops A all 0 all then .draw (compD gl A ks 0 [] fs ops.toList) else .bad 35
def regOut (reg : List Nat) : Code → List Nat
  | .skip => reg
  | .label _ => reg
  | .region _ ops false => regOps [] ops.toList
  | .region _ ops true => regOps [] (opsP ops).toList
  | .seq a b => regOut (regOut reg a) b
  | _ => []
def comp (nt gl : Nat) (reg : List Nat) : Code → FCode
  | .skip => .skip
  | .label _ => .skip
  | .region _ ops false => .ops (compOps Pr D ops nt gl [] ops.toList)
  | .region _ ops true => compDraw Pr D (opsP ops) nt gl
  | .seq a b => .seq (comp nt gl reg a) (comp nt gl (regOut reg a) b)
  | .cond c a b => .cond (opnd gl reg c) (comp nt gl [] a) (comp nt gl [] b)
  | .block id c => .block id (comp nt gl [] c)
  | .loop c => .loop (comp nt gl [] c)
  | .exit id => .exit id
  | .goto l => .goto l
  | .ret => .ret
  | .scope c => .scope c (comp nt gl [] c)
  | _ => .bad 33
def bit (t : Nat) : Nat := Nat.pow 2 t
def readsL (reg : List Nat) (l : List Operand) (gl : Nat) : Nat := l.foldl (fun gl o => match o with
  | .tmp t => match idx t reg with
    | some _ => gl
    | none => Nat.lor gl (bit t)
  | _ => gl) gl
def globOps (ops : Array Oper) : List Nat → List Oper → Nat → Nat
  | _, [], gl => gl
  | reg, o :: r, gl => globOps ops (regOf o.dst reg) r (readsL reg (o.op.operands.toList ++ match o.guard with
    | some (j, _) => match (ops[j]?).bind (·.dst) with
      | some t => [.tmp t]
      | none => []
    | none => []) gl)
def glob (reg : List Nat) : Code → Nat → Nat
  | .region _ ops _, gl => globOps ops [] ops.toList gl
  | .seq a b, gl => glob (regOut reg a) b (glob reg a gl)
  | .cond c a b, gl => glob [] b (glob [] a (readsL reg [c] gl))
  | .block _ c, gl => glob [] c gl
  | .loop c, gl => glob [] c gl
  | .scope c, gl => glob [] c gl
  | _, gl => gl
def resGl (l : List ResultVar) (gl : Nat) : Nat := l.foldl (fun gl r => match r with
  | .tmp t => Nat.lor gl (bit t)
  | .cell a _ => Nat.lor gl (bit a)) gl
inductive RG where
  | t (g : G)
  | h (f : HT → HV → HV) (g : G)
  | no
def resG (gl : Nat) : ResultVar → RG
  | .tmp t => .t (opnd gl [] (.tmp t))
  | .cell a t => match loadF Pr D t with
    | .f f => .h f (opnd gl [] (.tmp a))
    | _ => .no
inductive FFn where
  | f (ps : List P) (nt gl : Nat) (c : FCode) (rs : List RG)
  | no
def parPs (gl : Nat) : Nat → Nat → List P
  | 0, _ => []
  | n + 1, t => dstP gl (some t) :: parPs gl n (t + 1)
def compFn (f : FuncId) : FFn := match Pr.funcs[f]? with
  | some fn => if fn.name == "runtime.NumGoroutine" then .no else match fn.body with
    | some c =>
      let gl := resGl fn.results.toList (glob [] c 0)
      if Nat.ble (rank gl fn.ntmps) 256 && Nat.blt gl (Nat.pow 2 fn.ntmps) && Nat.ble (fn.params.size + fn.nfree) fn.ntmps then .f (parPs gl (fn.params.size + fn.nfree) 0) fn.ntmps gl (comp Pr D fn.ntmps gl [] c) (fn.results.toList.map (resG Pr D gl)) else .no
    | none => .no
  | none => .no
end
end
end Go.FM
end

section
namespace Go.FM
noncomputable section
inductive R where
  | n (t : L) (s : S)
  | ex (id : Nat) (s : S)
  | go (l : Nat) (s : S)
  | ret (s : S)
  | x (why : Nat)
abbrev K := L → S → R
abbrev Cl := FuncId → List HV → HT → Nat → CR
def forceN {α : Type} (n : Nat) (k : Nat → α) : α := n.casesOn (k 0) fun m => k (Nat.succ m)
def forceI {α : Type} (n : Int) (k : Int → α) : α := n.casesOn (fun m => forceN m fun m => k (.ofNat m)) fun m => forceN m fun m => k (.negSucc m)
def forceB {α : Type} (b : Bool) (k : Bool → α) : α := b.casesOn (k false) (k true)
def forceV (v : HV) (x : R) (k : HV → R) : R :=
  HV.rec (motive_1 := fun _ => R → (HV → R) → R) (motive_2 := fun _ => Unit)
    (fun i n _ k => forceI n fun n => k (.int i n))
    (fun b _ k => forceB b fun b => k (.bool b))
    (fun a0 a1 _ k => k (.flt a0 a1))
    (fun a0 a1 a2 _ k => k (.cpx a0 a1 a2))
    (fun n d _ k => forceN n fun n => forceN d fun d => k (.str n d))
    (fun a o _ k => forceN a fun a => forceN o fun o => k (.ptr a o))
    (fun _ k => k (.nilp ))
    (fun _ k => k (.nili ))
    (fun _ k => k (.nilf ))
    (fun a0 a1 _ k => k (.fn a0 a1))
    (fun _ k => k (.nils ))
    (fun a o n e cl _ k => forceN a fun a => forceN o fun o => forceN n fun n => forceN e fun e => forceB cl fun cl => k (.slc a o n e cl))
    (fun a0 a1 _ k => k (.agg a0))
    (fun a0 a1 _ k => k (.tup a0))
    (fun _ k => k (.und ))
    (fun x _ => x)
    (fun a0 a1 a2 _ k => k (.md a0 a1 a2))
    (fun _ k => k (.ub ))
    (fun a _ k => forceN a fun a => k (.mp a))
    (fun _ k => k (.nilm ))
    (fun _ k => k (.any ))
    (fun a0 a1 _ k => k (.sy a0 a1))
    (fun a0 a1 _ k => k (.par a0 a1)) () (fun _ _ _ _ => ()) v x k
def forceF {α : Type} (f : F) (k : F → α) : α := Q.casesOn f fun a b c d => k ⟨a, b, c, d⟩
def put (st : P) (v : HV) (k : K) (t : L) (s : S) : R :=
  P.rec (motive := fun _ => HV → K → L → S → R) (fun _ k t s => k t s) (fun v k t s => k (v :: t) s) (fun u v k t s => S.casesOn s fun f h c => forceF (u v f) fun f => k (v :: t) ⟨f, h, c⟩) st v k t s
def fin (why : Nat) (st : P) (v : HV) (k : K) (t : L) (s : S) : R := forceV v (.x why) fun v => put st v k t s
def finC (st : P) (r : CR) (k : K) (t : L) (s : S) : R :=
  CR.casesOn r (fun v h c => forceN c fun c => forceV v (.x 40) fun v => put st v k t ⟨s.f, h, c⟩) fun w => .x w
def evs (gs : List G) (t : L) (f : F) : List HV := List.rec (motive := fun _ => List HV) [] (fun g _ r => g.ev t f :: r) gs
variable (cl : Cl)
def aU1 (st : P) (f : HV → HV) (x : G) (k : K) (t : L) (s : S) : R := fin 41 st (f (x.ev t s.f)) k t s
def aU2 (st : P) (f : HV → HV → HV) (x y : G) (k : K) (t : L) (s : S) : R := fin 42 st (f (x.ev t s.f) (y.ev t s.f)) k t s
def aU3 (st : P) (f : HV → HV → HV → HV) (x y z : G) (k : K) (t : L) (s : S) : R := fin 43 st (f (x.ev t s.f) (y.ev t s.f) (z.ev t s.f)) k t s
def aUn (st : P) (f : List HV → HV) (xs : List G) (k : K) (t : L) (s : S) : R := fin 44 st (f (evs xs t s.f)) k t s
def aH1 (st : P) (f : HT → HV → HV) (x : G) (k : K) (t : L) (s : S) : R := fin 45 st (f s.h (x.ev t s.f)) k t s
def aAl (st : P) (f : HT → Nat → List HV → CR) (xs : List G) (k : K) (t : L) (s : S) : R := finC st (f s.h s.c (evs xs t s.f)) k t s
def aE2 (st : P) (f : HT → Nat → HV → HV → CR) (x y : G) (k : K) (t : L) (s : S) : R := finC st (f s.h s.c (x.ev t s.f) (y.ev t s.f)) k t s
def aCall (st : P) (f : FuncId) (xs : List G) (k : K) (t : L) (s : S) : R := finC st (cl f (evs xs t s.f) s.h s.c) k t s
def calv (v : HV) (as : List HV) (h : HT) (c : Nat) : CR := match v with
  | .fn f caps => cl f (as ++ caps.map fun p => .ptr p.1 p.2) h c
  | _ => .x 46
def aCalv (st : P) (g : G) (xs : List G) (k : K) (t : L) (s : S) : R := finC st (calv cl (g.ev t s.f) (evs xs t s.f) s.h s.c) k t s
def aBad (why : Nat) (_ : K) (_ : L) (_ : S) : R := .x why
def wants (v : HV) (want : Bool) : Option Bool := match v with
  | .bool b => some (b == want)
  | .und => some false
  | _ => none
def aGrd (g : G) (want : Bool) (st : P) (_ : FOp) (ih : K → L → S → R) (k : K) (t : L) (s : S) : R := Option.casesOn (wants (g.ev t s.f) want) (.x 47) fun b => b.casesOn (put st .und k t s) (ih k t s)
def exec (o : FOp) : K → L → S → R := FOp.rec (motive := fun _ => K → L → S → R) aU1 aU2 aU3 aUn aH1 aAl aE2 (aCall cl) (aCalv cl) aGrd aBad o
def runOps (l : FOps) : K := FOps.rec (motive := fun _ => K) R.n (fun o _ k => exec cl o k) l
def hvEq : HV → HV → Bool
  | .int k a, .int k' b => ikEq k k' && match a, b with
    | .ofNat m, .ofNat n => Nat.beq m n
    | .negSucc m, .negSucc n => Nat.beq m n
    | _, _ => false
  | .bool a, .bool b => a == b
  | .flt k a, .flt k' b => k == k' && Nat.beq a b
  | .cpx k a b, .cpx k' c d => k == k' && Nat.beq a c && Nat.beq b d
  | .str n d, .str m e => Nat.beq n m && Nat.beq d e
  | .ptr k o, .ptr k' o' => Nat.beq k k' && Nat.beq o o'
  | .nilp, .nilp => true
  | .nili, .nili => true
  | .nilf, .nilf => true
  | .fn f c, .fn f' c' => Nat.beq f f' && c == c'
  | .nils, .nils => true
  | .slc a b c d e, .slc a' b' c' d' e' => Nat.beq a a' && Nat.beq b b' && Nat.beq c c' && Nat.beq d d' && e == e'
  | .und, .und => true
  | .mp a, .mp b => Nat.beq a b
  | .nilm, .nilm => true
  | .sy k i, .sy k' j => ikEq k k' && Nat.beq i j
  | _, _ => false
def hvEqs : List HV → List HV → Bool
  | [], [] => true
  | a :: r, b :: s => hvEq a b && hvEqs r s
  | _, _ => false
def hvEqT : List HV → List HV → Bool
  | [], [] => true
  | a :: r, b :: s => (match a, b with
    | .agg x, .agg y => hvEqs x y
    | a, b => hvEq a b) && hvEqT r s
  | _, _ => false
def vEq (a b : HV) : Bool := match a, b with
  | .agg x, .agg y => hvEqs x y
  | .tup x, .tup y => hvEqT x y
  | a, b => hvEq a b
def valO (o : FOp) (t : L) (f : F) (h : HT) : HV := match o with
  | .u1 _ q x => q (x.ev t f)
  | .u2 _ q x y => q (x.ev t f) (y.ev t f)
  | .u3 _ q x y z => q (x.ev t f) (y.ev t f) (z.ev t f)
  | .un _ q xs => q (evs xs t f)
  | .h1 _ q x => q h (x.ev t f)
  | _ => .dead
def valG (o : FOp) (t : L) (f : F) (h : HT) : HV := match o with
  | .grd g want _ o => match wants (g.ev t f) want with
    | some true => valO o t f h
    | some false => .und
    | none => .dead
  | o => valO o t f h
def same (p : HT → Bool) (n : Nat) (hs : List HT) : Bool := Nat.rec (motive := fun _ => List HT → Bool) (fun _ => true) (fun _ ih hs => List.casesOn hs false fun h r => (p h).casesOn false (ih r)) n hs
inductive Pend where
  | nil
  | cons (n : Nat) (p : HT → Bool) (r : Pend)
def pAll (h : HT) (l : Pend) : Bool := Pend.rec (motive := fun _ => Bool) true (fun n p _ ih => Nat.casesOn n ih fun _ => (p h).casesOn false ih) l
def pNext (l : Pend) : Pend := Pend.rec (motive := fun _ => Pend) .nil (fun n p _ ih => Nat.casesOn n ih fun n => .cons n p ih) l
def underC (c : Nat) (v : HV) : Bool := match v with
  | .ptr k _ => Nat.blt k c
  | .slc k _ _ _ _ => Nat.blt k c
  | .mp k => Nat.blt k c
  | .fn _ caps => caps.all fun p => Nat.blt p.1 c
  | .agg _ => false
  | .tup _ => false
  | _ => true
def underV (c : Nat) (v : HV) : Bool := match v with
  | .agg cs => cs.all (underC c)
  | v => underC c v
def underA (c : Nat) (vs : List HV) : Bool := vs.all (underV c)
abbrev DK := List HT → Pend → K
def dNil (D : Nat) (_ : List HT) (_ : Pend) (t : L) (s : S) : R := (Nat.ble s.c (Nat.pow 4 D)).casesOn (.x 64) (.n t s)
def dPure (o : FOp) (_ : DOps) (ih : DK) (hs : List HT) (p : Pend) (t : L) (s : S) : R := exec cl o (ih hs p) t s
def dRead (o : FOp) (back fwd : Nat) (_ : DOps) (ih : DK) (hs : List HT) (p : Pend) (t : L) (s : S) : R :=
  exec cl o (fun t' s' => (same (fun h => vEq (hd t') (valG o t s.f h)) (Nat.succ back) hs).casesOn (.x 60)
    (ih hs (Nat.casesOn fwd p fun n => .cons (Nat.succ n) (fun h => vEq (hd t') (valG o t s.f h)) p) t' s')) t s
def dNew (o : FOp) (chk : List G) (_ : DOps) (ih : DK) (hs : List HT) (p : Pend) (t : L) (s : S) : R := (underA s.c (evs chk t s.f)).casesOn (.x 61) (exec cl o (ih hs p) t s)
def dEff (o : FOp) (chk : List G) (_ : DOps) (ih : DK) (hs : List HT) (p : Pend) (t : L) (s : S) : R := (underA s.c (evs chk t s.f)).casesOn (.x 62)
  (exec cl o (fun t' s' => (pAll s'.h p && Nat.ble s.c s'.c).casesOn (.x 63) (ih (s'.h :: hs) (pNext p) t' s')) t s)
def runD (D : Nat) (l : DOps) : DK := DOps.rec (motive := fun _ => DK) (dNil D) (dPure cl) (dRead cl) (dNew cl) (dEff cl) l
def runDraw (D : Nat) (l : DOps) (t : L) (s : S) : R := runD cl D l [s.h] .nil t s
end
noncomputable section
inductive Tk where
  | c (c : FCode)
  | w (sc : Code) (c : FCode)
abbrev Rec := Tk → L → S → R
def andThen (k : L → S → R) (r : R) : R := R.rec (motive := fun _ => (L → S → R) → R) (fun t s k => k t s) (fun i s _ => .ex i s) (fun l s _ => .go l s) (fun s _ => .ret s) (fun w _ => .x w) r k
def inBlock (id : Nat) (r : R) : R := R.rec (motive := fun _ => Nat → R) (fun t s _ => .n t s) (fun i s id => (Nat.beq i id).casesOn (.ex i s) (.n [] s)) (fun l s _ => .go l s) (fun s _ => .ret s) (fun w _ => .x w) r id
def br (a b : R) (v : HV) : R := match v with
  | .bool c => c.casesOn b a
  | _ => .x 52
variable (Pr : Program) (D : Nat) (nt gl : Nat) (rec : Rec)
def again (sc : Code) (l : Nat) (s : S) : R := match findLabel sc l with
  | some rest => rec (.w sc (comp Pr D nt gl [] rest)) [] s
  | none => .go l s
def inScope (sc : Code) (r : R) : R := R.casesOn r (fun t s => .n t s) (fun i s => .ex i s) (again Pr D nt gl rec sc) (fun s => .ret s) fun w => .x w
variable (ops : FOps → K) (dops : DOps → K)
def cSkip (t : L) (s : S) : R := .n t s
def cOps (l : FOps) (_ : L) (s : S) : R := ops l [] s
def cDraw (l : DOps) (_ : L) (s : S) : R := dops l [] s
def cSeq (a b : FCode) (t : L) (s : S) : R := andThen (rec (.c b)) (rec (.c a) t s)
def cCond (g : G) (a b : FCode) (t : L) (s : S) : R := br (rec (.c a) [] s) (rec (.c b) [] s) (g.ev t s.f)
def cBlock (id : Nat) (c : FCode) (_ : L) (s : S) : R := inBlock id (rec (.c c) [] s)
def cLoop (c : FCode) (_ : L) (s : S) : R := andThen (fun _ s => rec (.c (.loop c)) [] s) (rec (.c c) [] s)
def cExit (id : Nat) (_ : L) (s : S) : R := .ex id s
def cScope (sc : Code) (c : FCode) (_ : L) (s : S) : R := rec (.w sc c) [] s
def cGoto (l : Nat) (_ : L) (s : S) : R := .go l s
def cRet (_ : L) (s : S) : R := .ret s
def cBad (why : Nat) (_ : L) (_ : S) : R := .x why
def stepC (c : FCode) (t : L) (s : S) : R := FCode.rec (motive := fun _ => Rec → (FOps → K) → (DOps → K) → L → S → R)
  (fun _ _ _ => cSkip) (fun l _ ops _ => cOps ops l) (fun l _ _ dops => cDraw dops l) (fun a b _ _ rec _ _ => cSeq rec a b) (fun g a b _ _ rec _ _ => cCond rec g a b) (fun id c _ rec _ _ => cBlock rec id c)
  (fun c _ rec _ _ => cLoop rec c) (fun id _ _ _ => cExit id) (fun sc c _ rec _ _ => cScope rec sc c) (fun l _ _ _ => cGoto l) (fun _ _ _ => cRet) (fun w _ _ _ => cBad w) c rec ops dops t s
def stepT (t : Tk) : L → S → R := Tk.casesOn t (stepC rec ops dops) fun sc c t s => inScope Pr D nt gl rec sc (rec (.c c) t s)
def und1 : Q HV := ⟨.und, .und, .und, .und⟩
def und2 : Q (Q HV) := ⟨und1, und1, und1, und1⟩
def und3 : Q (Q (Q HV)) := ⟨und2, und2, und2, und2⟩
def und4 : F := ⟨und3, und3, und3, und3⟩
def initF : List P → List HV → F → Option F
  | [], [], f => some f
  | p :: ps, v :: vs, f => initF ps vs (match p with | .var u => u v f | _ => f)
  | _, _, _ => none
def resV (h : HT) (f : F) (g : RG) : HV := match g with
  | .t g => g.ev [] f
  | .h q g => q h (g.ev [] f)
  | .no => .dead
def HV.live : HV → Bool
  | .dead => false
  | .any => false
  | .tup _ => false
  | _ => true
def oneOf (vs : List HV) : HV := (vs.all HV.live).casesOn .dead (match vs with
  | [v] => v
  | vs => .tup vs)
def leave (rs : List RG) (s : S) : CR := .ok (oneOf (rs.map (resV s.h s.f))) s.h s.c
def endR (rs : List RG) (r : R) : CR := R.casesOn r (fun _ s => leave rs s) (fun _ _ => .x 53) (fun _ _ => .x 54) (fun s => leave rs s) fun w => .x w
end
noncomputable section
variable (Pr : Program) (D N : Nat)
def runT (cl : Cl) (nt gl n : Nat) : Rec := Nat.rec (motive := fun _ => Rec) (fun _ _ _ => .x 50) (fun _ ih => stepT Pr D nt gl ih (runOps cl) (runDraw cl D)) n
def enter (cl : Cl) (fn : FFn) (args : List HV) (h : HT) (c : Nat) : CR := match fn with
  | .f ps nt gl code rs => match initF ps args und4 with
    | some f => endR rs (runT Pr D cl nt gl N (.c code) [] ⟨f, h, c⟩)
    | none => .x 55
  | .no => .x 56
def callN (n : Nat) : Cl := Nat.rec (motive := fun _ => Cl) (fun _ _ _ _ => .x 51) (fun _ ih f args h c => enter Pr D N ih (compFn Pr D f) args h c) n
def isTrue : CR → Bool
  | .ok v _ _ => match v with
    | .bool b => b
    | _ => false
  | _ => false
end
end Go.FM
end

section
namespace Go.FM
noncomputable section
theorem sel4_lt {α : Type} (i : Nat) (a b c d : α) : sel4 i a b c d = if i = 0 then a else if i = 1 then b else if i = 2 then c else d := by
  rcases i with _ | _ | _ | i <;> first | rfl | (show d = _; simp)
theorem kid_setKid {i j : Nat} (hi : i < 4) (hj : j < 4) (f : HT → HT) (t : HT) (h : ∀ o, t ≠ .leaf o) : kid i (setKid j f t) = if i = j then f (kid j t) else kid i t := by
  cases t with
  | leaf o => exact absurd rfl (h o)
  | nil =>
    rcases i with _ | _ | _ | _ | i <;> rcases j with _ | _ | _ | _ | j <;> first | rfl | omega
  | node a b c d =>
    rcases i with _ | _ | _ | _ | i <;> rcases j with _ | _ | _ | _ | j <;> first | rfl | omega
def HT.deep : Nat → HT → Prop
  | 0, t => (t = .nil) ∨ ∃ o, t = .leaf o
  | n + 1, t => t = .nil ∨ ∃ a b c d, t = .node a b c d ∧ HT.deep n a ∧ HT.deep n b ∧ HT.deep n c ∧ HT.deep n d
theorem deep_nil : ∀ n, HT.deep n .nil
  | 0 => .inl rfl
  | n + 1 => .inl rfl
theorem deep_kid {n : Nat} {t : HT} (h : HT.deep (n + 1) t) (i : Nat) : HT.deep n (kid i t) := by
  rcases h with rfl | ⟨a, b, c, d, rfl, ha, hb, hc, hd⟩
  · exact deep_nil n
  · rcases i with _ | _ | _ | i
    · exact ha
    · exact hb
    · exact hc
    · exact hd
theorem deep_set : ∀ (n k : Nat) (o : HO) (t : HT), HT.deep n t → HT.deep n (HT.set n k o t)
  | 0, k, o, t, _ => .inr ⟨o, rfl⟩
  | n + 1, k, o, t, h => by
    have hm : Nat.mod k 4 < 4 := Nat.mod_lt _ (by omega)
    show HT.deep (n + 1) (setKid (Nat.mod k 4) (HT.set n (Nat.div k 4) o) t)
    have key : ∀ x, HT.deep n x → HT.deep n (HT.set n (Nat.div k 4) o x) := fun x hx => deep_set n _ o x hx
    generalize Nat.mod k 4 = i at hm ⊢
    rcases h with rfl | ⟨a, b, c, d, rfl, ha, hb, hc, hd⟩
    · rcases i with _ | _ | _ | _ | i
      · exact .inr ⟨_, _, _, _, rfl, key _ (deep_nil n), deep_nil n, deep_nil n, deep_nil n⟩
      · exact .inr ⟨_, _, _, _, rfl, deep_nil n, key _ (deep_nil n), deep_nil n, deep_nil n⟩
      · exact .inr ⟨_, _, _, _, rfl, deep_nil n, deep_nil n, key _ (deep_nil n), deep_nil n⟩
      · exact .inr ⟨_, _, _, _, rfl, deep_nil n, deep_nil n, deep_nil n, key _ (deep_nil n)⟩
      · omega
    · rcases i with _ | _ | _ | _ | i
      · exact .inr ⟨_, _, _, _, rfl, key _ ha, hb, hc, hd⟩
      · exact .inr ⟨_, _, _, _, rfl, ha, key _ hb, hc, hd⟩
      · exact .inr ⟨_, _, _, _, rfl, ha, hb, key _ hc, hd⟩
      · exact .inr ⟨_, _, _, _, rfl, ha, hb, hc, key _ hd⟩
      · omega
theorem get_nil : ∀ (n k : Nat), HT.get n k .nil = .no
  | 0, k => rfl
  | n + 1, k => by
    show HT.get n (Nat.div k 4) (kid (Nat.mod k 4) .nil) = .no
    exact get_nil n _
theorem get_set : ∀ (n k j : Nat) (o : HO) (t : HT), HT.deep n t → k < 4 ^ n → j < 4 ^ n → HT.get n k (HT.set n j o t) = if k = j then o else HT.get n k t
  | 0, k, j, o, t, _, hk, hj => by
    have : k = j := by simp at hk hj; omega
    rw [if_pos this]; rfl
  | n + 1, k, j, o, t, h, hk, hj => by
    have hmk : k % 4 < 4 := Nat.mod_lt _ (by omega)
    have hmj : j % 4 < 4 := Nat.mod_lt _ (by omega)
    show HT.get n (k / 4) (kid (k % 4) (setKid (j % 4) (HT.set n (j / 4) o) t)) = _
    have hl : ∀ o, t ≠ .leaf o := fun o e => by
      rcases h with rfl | ⟨a, b, c, d, rfl, _⟩ <;> cases e
    rw [kid_setKid hmk hmj _ t hl]
    have hp : 4 ^ (n + 1) = 4 ^ n * 4 := Nat.pow_succ 4 n
    by_cases hm : k % 4 = j % 4
    · rw [if_pos hm, get_set n (k / 4) (j / 4) o _ (deep_kid h _) (by omega) (by omega)]
      by_cases hkj : k = j
      · subst hkj; simp
      · rw [if_neg hkj, if_neg (by omega), ← hm]; rfl
    · rw [if_neg hm, if_neg (by intro e; subst e; exact hm rfl)]; rfl
theorem Qget_upd {α : Type} {i j : Nat} (hi : i < 4) (hj : j < 4) (f : α → α) (q : Q α) : Q.get i (Q.upd j f q) = if i = j then f (Q.get j q) else Q.get i q := by
  obtain ⟨a, b, c, d⟩ := q
  rcases i with _ | _ | _ | _ | i <;> rcases j with _ | _ | _ | _ | j <;> first | rfl | omega
theorem fget_fset {r s : Nat} (hr : r < 256) (hs : s < 256) (v : HV) (f : F) : fget r (fset s v f) = if r = s then v else fget r f := by
  unfold fget fset
  rw [Qget_upd (by omega) (by omega)]
  by_cases h1 : r / 64 = s / 64
  · rw [if_pos h1, Qget_upd (by omega) (by omega)]
    by_cases h2 : r / 16 % 4 = s / 16 % 4
    · rw [if_pos h2, Qget_upd (by omega) (by omega)]
      by_cases h3 : r / 4 % 4 = s / 4 % 4
      · rw [if_pos h3, Qget_upd (by omega) (by omega)]
        by_cases h4 : r % 4 = s % 4
        · rw [if_pos h4, if_pos (by omega)]
        · rw [if_neg h4, if_neg (by omega), h1, h2, h3]
      · rw [if_neg h3, if_neg (by omega), h1, h2]
    · rw [if_neg h2, if_neg (by omega), h1]
  · rw [if_neg h1, if_neg (by omega)]
theorem gVar_ev (r : Nat) (t : L) (f : F) : (gVar r).ev t f = fget r f := by
  have key : ∀ (i : Nat) {β : Type} (k : (∀ {α : Type}, Q α → α) → β), ∃ p : ∀ {α : Type}, Q α → α, selG i k = k p ∧ ∀ (α : Type) (q : Q α), p q = Q.get i q := by
    intro i β k
    rcases i with _ | _ | _ | i
    · exact ⟨fun {_} q => q.a, rfl, fun _ _ => rfl⟩
    · exact ⟨fun {_} q => q.b, rfl, fun _ _ => rfl⟩
    · exact ⟨fun {_} q => q.c, rfl, fun _ _ => rfl⟩
    · exact ⟨fun {_} q => q.d, rfl, fun _ _ => rfl⟩
  unfold gVar
  obtain ⟨p0, e0, h0⟩ := key (Nat.div r 64) (fun p0 => selG (Nat.mod (Nat.div r 16) 4) fun p1 => selG (Nat.mod (Nat.div r 4) 4) fun p2 => selG (Nat.mod r 4) fun p3 => G.f fun _ s => p3 (p2 (p1 (p0 s))))
  rw [e0]
  obtain ⟨p1, e1, h1⟩ := key (Nat.mod (Nat.div r 16) 4) (fun p1 => selG (Nat.mod (Nat.div r 4) 4) fun p2 => selG (Nat.mod r 4) fun p3 => G.f fun _ s => p3 (p2 (p1 (p0 s))))
  rw [e1]
  obtain ⟨p2, e2, h2⟩ := key (Nat.mod (Nat.div r 4) 4) (fun p2 => selG (Nat.mod r 4) fun p3 => G.f fun _ s => p3 (p2 (p1 (p0 s))))
  rw [e2]
  obtain ⟨p3, e3, h3⟩ := key (Nat.mod r 4) (fun p3 => G.f fun _ s => p3 (p2 (p1 (p0 s))))
  rw [e3]
  show p3 (p2 (p1 (p0 f))) = _
  rw [h3, h2, h1, h0]; rfl
theorem pVar_eq (r : Nat) : ∃ u, pVar r = .var u ∧ ∀ v f, u v f = fset r v f := by
  have key : ∀ (i : Nat) {β : Type} (k : (∀ {α : Type}, (α → α) → Q α → Q α) → β), ∃ p : ∀ {α : Type}, (α → α) → Q α → Q α, selU i k = k p ∧ ∀ (α : Type) (f : α → α) (q : Q α), p f q = Q.upd i f q := by
    intro i β k
    rcases i with _ | _ | _ | i
    · exact ⟨updA, rfl, fun _ _ _ => rfl⟩
    · exact ⟨updB, rfl, fun _ _ _ => rfl⟩
    · exact ⟨updC, rfl, fun _ _ _ => rfl⟩
    · exact ⟨updD, rfl, fun _ _ _ => rfl⟩
  unfold pVar
  obtain ⟨u0, e0, h0⟩ := key (Nat.div r 64) (fun u0 => selU (Nat.mod (Nat.div r 16) 4) fun u1 => selU (Nat.mod (Nat.div r 4) 4) fun u2 => selU (Nat.mod r 4) fun u3 => P.var fun v s => u0 (u1 (u2 (u3 fun _ => v))) s)
  rw [e0]
  obtain ⟨u1, e1, h1⟩ := key (Nat.mod (Nat.div r 16) 4) (fun u1 => selU (Nat.mod (Nat.div r 4) 4) fun u2 => selU (Nat.mod r 4) fun u3 => P.var fun v s => u0 (u1 (u2 (u3 fun _ => v))) s)
  rw [e1]
  obtain ⟨u2, e2, h2⟩ := key (Nat.mod (Nat.div r 4) 4) (fun u2 => selU (Nat.mod r 4) fun u3 => P.var fun v s => u0 (u1 (u2 (u3 fun _ => v))) s)
  rw [e2]
  obtain ⟨u3, e3, h3⟩ := key (Nat.mod r 4) (fun u3 => P.var fun v s => u0 (u1 (u2 (u3 fun _ => v))) s)
  rw [e3]
  refine ⟨_, rfl, fun v f => ?_⟩
  rw [h0]
  have q1 : u1 (u2 (u3 fun _ => v)) = Q.upd (Nat.mod (Nat.div r 16) 4) (Q.upd (Nat.mod (Nat.div r 4) 4) (Q.upd (Nat.mod r 4) fun _ => v)) := by
    funext q
    rw [h1]
    have q2 : u2 (u3 fun _ => v) = Q.upd (Nat.mod (Nat.div r 4) 4) (Q.upd (Nat.mod r 4) fun _ => v) := by
      funext q
      rw [h2]
      have q3 : (u3 fun _ => v) = Q.upd (Nat.mod r 4) fun _ => v := by funext q; rw [h3]
      rw [q3]
    rw [q2]
  rw [q1]; rfl
theorem rank_succ (gl t : Nat) : rank gl (t + 1) = rank gl t + (gl.testBit t).toNat := by
  rw [rank]
  cases gl.testBit t <;> rfl
theorem rank_mono (gl : Nat) {t u : Nat} (h : t ≤ u) : rank gl t ≤ rank gl u := by
  induction h with
  | refl => exact Nat.le_refl _
  | step _ ih => rw [rank_succ]; omega
theorem rank_lt (gl : Nat) {t u : Nat} (h : t < u) (ht : gl.testBit t = true) : rank gl t < rank gl u := by
  have h1 := rank_mono gl (show t + 1 ≤ u from h)
  rw [rank_succ, ht] at h1
  simp at h1; omega
theorem rank_inj (gl : Nat) {t u : Nat} (ht : gl.testBit t = true) (hu : gl.testBit u = true) (h : rank gl t = rank gl u) : t = u := by
  rcases Nat.lt_trichotomy t u with h1 | h1 | h1
  · have := rank_lt gl h1 ht; omega
  · exact h1
  · have := rank_lt gl h1 hu; omega
structure At where
  b : Nat
  o : Nat
  len : Nat
  bs : Nat
abbrev Gm := Nat → At
def addrOf (g : Gm) (k off : Nat) : Addr := ⟨(g k).b, (g k).o + off, none⟩
def bytesOf (n d : Nat) : List UInt8 := (List.range n).map fun i => UInt8.ofNat (d / 256 ^ i % 256)
def strOf (n d : Nat) : Value := .string ⟨(bytesOf n d).toArray⟩
class Env where
  m : Nat
  ρ : Nat → Int
  mono : ∀ i j, i < j → j < m → ρ i < ρ j
  keep : Nat → Option Obj
abbrev noEnv : Env := ⟨0, fun _ => 0, fun i j _ h => absurd h (Nat.not_lt_zero _), fun _ => none⟩
variable [Env]
def Nm (g : Gm) (c k : Nat) : Prop := k < c ∧ (g k).o + (g k).len ≤ (g k).bs
def CRep (g : Gm) (c : Nat) (x : HV) (v : Value) : Prop := match x with
  | .int k n => v = .int k n
  | .bool b => v = .bool b
  | .flt k b => v = .float k b
  | .cpx k a b => v = .complex k a b
  | .str n d => d < 256 ^ n ∧ v = strOf n d
  | .ptr k off => Nm g c k ∧ v = .pointer (some (addrOf g k off))
  | .nilp => v = .pointer none
  | .nili => v = .nilIface
  | .nilf => v = .nilFunc
  | .fn f caps => (∀ p, p ∈ caps → Nm g c p.1) ∧ v = .func (.func f) #[] (caps.map fun p => Value.pointer (some (addrOf g p.1 p.2))).toArray
  | .nils => v = .slice none 0 0
  | .slc k o n es cl => Nm g c k ∧ ∃ A m, v = .slice (some A) n m ∧ n ≤ m ∧ m ≤ maxLen ∧ 0 < es ∧ o + n * es ≤ (g k).len ∧ (g k).o + o + m * es ≤ (g k).bs ∧ (cl = false → (g k).len ≤ o + m * es) ∧ (cl = true → m = n) ∧ (0 < m → A = addrOf g k o)
  | .und => v = undef
  | .dead => True
  | .md k m r => ∃ n : Nat, v = .int k n ∧ n % m = r ∧ n ≤ top k
  | .ub => ∃ b, v = .bool b
  | .mp k => Nm g c k ∧ v = .map (some (g k).b)
  | .nilm => v = .map none
  | .any => True
  | .sy k i => i < Env.m ∧ v = .int k (Env.ρ i)
  | .par k r => ∃ n : Int, v = .int k n ∧ n % 2 = Int.ofNat r ∧ k.min ≤ n ∧ n ≤ k.max
  | .agg _ => False
  | .tup _ => False
def CReps (g : Gm) (c : Nat) (cs : List HV) (vs : List Value) : Prop := vs.length = cs.length ∧ ∀ (i : Nat) (x : HV) (u : Value), cs[i]? = some x → vs[i]? = some u → CRep g c x u ∧ u.oneCell' = true
def VRep (g : Gm) (c : Nat) (x : HV) (v : Value) : Prop := match x with
  | .agg cs => ∃ vs : List Value, v = .agg vs.toArray ∧ CReps g c cs vs
  | x => CRep g c x v
def TRep (g : Gm) (c : Nat) (x : HV) (v : Value) : Prop := match x with
  | .tup as => ∃ vs : List Value, v = .tuple vs.toArray ∧ vs.length = as.length ∧ ∀ (i : Nat) (x : HV) (u : Value), as[i]? = some x → vs[i]? = some u → VRep g c x u
  | x => VRep g c x v
def TReps (g : Gm) (c : Nat) (xs : List HV) (vs : List Value) : Prop := vs.length = xs.length ∧ ∀ (i : Nat) (x : HV) (u : Value), xs[i]? = some x → vs[i]? = some u → TRep g c x u
def Agree (c : Nat) (g g' : Gm) : Prop := ∀ k, k < c → g' k = g k
def Agr (c : Nat) (g g' : Gm) : Prop := ∀ k, Nm g c k → g' k = g k
theorem Agree.weak {g g' : Gm} {c : Nat} (h : Agree c g g') : Agr c g g' := fun k hk => h k hk.1
theorem Nm.mono' {g g' : Gm} {c c' k : Nat} (h : Nm g c k) (ha : Agr c g g') (hc : c ≤ c') : Nm g' c' k := ⟨Nat.lt_of_lt_of_le h.1 hc, by rw [ha k h]; exact h.2⟩
theorem CRep.mono' {g g' : Gm} {c c' : Nat} {x : HV} {v : Value} (h : CRep g c x v) (ha : Agr c g g') (hc : c ≤ c') : CRep g' c' x v := by
  cases x with
  | ptr k off => exact ⟨h.1.mono' ha hc, by rw [h.2]; simp only [addrOf, ha k h.1]⟩
  | fn f caps =>
    refine ⟨fun p hp => (h.1 p hp).mono' ha hc, ?_⟩
    rw [h.2]
    congr 2
    exact List.map_congr_left fun p hp => by simp only [addrOf, ha p.1 (h.1 p hp)]
  | slc k o n es cl =>
    obtain ⟨hk, A, m, h1⟩ := h
    refine ⟨hk.mono' ha hc, A, m, ?_⟩
    simp only [addrOf, ha k hk]
    exact h1
  | mp k => exact ⟨h.1.mono' ha hc, by rw [h.2, ha k h.1]⟩
  | _ => exact h
theorem CReps.mono' {g g' : Gm} {c c' : Nat} {xs : List HV} {vs : List Value} (h : CReps g c xs vs) (ha : Agr c g g') (hc : c ≤ c') : CReps g' c' xs vs :=
  ⟨h.1, fun i x u hx hu => ⟨(h.2 i x u hx hu).1.mono' ha hc, (h.2 i x u hx hu).2⟩⟩
theorem VRep.mono' {g g' : Gm} {c c' : Nat} {x : HV} {v : Value} (h : VRep g c x v) (ha : Agr c g g') (hc : c ≤ c') : VRep g' c' x v := by
  cases x with
  | agg cs => obtain ⟨vs, h1, h2⟩ := h; exact ⟨vs, h1, h2.mono' ha hc⟩
  | _ => unfold VRep at h ⊢; exact CRep.mono' h ha hc
theorem TRep.mono' {g g' : Gm} {c c' : Nat} {x : HV} {v : Value} (h : TRep g c x v) (ha : Agr c g g') (hc : c ≤ c') : TRep g' c' x v := by
  cases x with
  | tup as => obtain ⟨vs, h1, h2, h3⟩ := h; exact ⟨vs, h1, h2, fun i x u hx hu => (h3 i x u hx hu).mono' ha hc⟩
  | _ => unfold TRep at h ⊢; exact VRep.mono' h ha hc
theorem TReps.mono' {g g' : Gm} {c c' : Nat} {xs : List HV} {vs : List Value} (h : TReps g c xs vs) (ha : Agr c g g') (hc : c ≤ c') : TReps g' c' xs vs :=
  ⟨h.1, fun i x u hx hu => (h.2 i x u hx hu).mono' ha hc⟩
theorem Nm.mono {g g' : Gm} {c c' k : Nat} (h : Nm g c k) (ha : Agree c g g') (hc : c ≤ c') : Nm g' c' k := h.mono' ha.weak hc
theorem CRep.mono {g g' : Gm} {c c' : Nat} {x : HV} {v : Value} (h : CRep g c x v) (ha : Agree c g g') (hc : c ≤ c') : CRep g' c' x v := h.mono' ha.weak hc
theorem CReps.mono {g g' : Gm} {c c' : Nat} {xs : List HV} {vs : List Value} (h : CReps g c xs vs) (ha : Agree c g g') (hc : c ≤ c') : CReps g' c' xs vs := h.mono' ha.weak hc
theorem VRep.mono {g g' : Gm} {c c' : Nat} {x : HV} {v : Value} (h : VRep g c x v) (ha : Agree c g g') (hc : c ≤ c') : VRep g' c' x v := h.mono' ha.weak hc
theorem TRep.mono {g g' : Gm} {c c' : Nat} {x : HV} {v : Value} (h : TRep g c x v) (ha : Agree c g g') (hc : c ≤ c') : TRep g' c' x v := h.mono' ha.weak hc
theorem TReps.mono {g g' : Gm} {c c' : Nat} {xs : List HV} {vs : List Value} (h : TReps g c xs vs) (ha : Agree c g g') (hc : c ≤ c') : TReps g' c' xs vs := h.mono' ha.weak hc
theorem VRep.of_cell {g : Gm} {c : Nat} {x : HV} {v : Value} (h : CRep g c x v) : VRep g c x v := by
  cases x <;> first | exact h | exact h.elim
theorem TRep.of_cell {g : Gm} {c : Nat} {x : HV} {v : Value} (h : CRep g c x v) : TRep g c x v := by
  cases x <;> first | exact h | exact h.elim
theorem TRep.of_val {g : Gm} {c : Nat} {x : HV} {v : Value} (h : VRep g c x v) : TRep g c x v := by
  cases x <;> first | exact h | exact (show False from h).elim
theorem CRep.one {g : Gm} {c : Nat} {x : HV} {v : Value} (h : CRep g c x v) (hx : x.isCell = true) : v.oneCell' = true := by
  cases x <;> simp only [HV.isCell, Bool.false_eq_true] at hx <;> simp only [CRep] at h
  case str => rw [h.2]; rfl
  case ptr => rw [h.2]; rfl
  case fn => rw [h.2]; rfl
  case slc => obtain ⟨_, A, m, h, _⟩ := h; rw [h]; rfl
  case md => obtain ⟨n, h, _⟩ := h; rw [h]; rfl
  case ub => obtain ⟨b, h⟩ := h; rw [h]; rfl
  case sy => rw [h.2]; rfl
  case par => obtain ⟨n, h, _⟩ := h; rw [h]; rfl
  case mp => rw [h.2]; rfl
  all_goals (subst h; rfl)
theorem TRep.cell {g : Gm} {c : Nat} {x : HV} {v : Value} (h : TRep g c x v) (hx : x.isCell = true) : CRep g c x v := by
  cases x <;> first | exact h | simp [HV.isCell] at hx
theorem TRep.cells {g : Gm} {c : Nat} {x : HV} {v : Value} (h : TRep g c x v) (hx : x.cells.all HV.isCell = true) : CReps g c x.cells v.cells.toList := by
  cases x with
  | agg cs =>
    obtain ⟨vs, rfl, h1⟩ := h
    simpa [Value.cells, HV.cells] using h1
  | _ =>
    have hc := TRep.cell h (by simpa [HV.cells] using hx)
    have h1 := hc.one (by simpa [HV.cells] using hx)
    have hcl : v.cells = #[v] := by cases v <;> simp_all [Value.cells, Value.oneCell']
    rw [hcl]
    refine ⟨rfl, fun i y u h2 h3 => ?_⟩
    cases i with
    | zero => simp [HV.cells] at h2 h3; subst h2; subst h3; exact ⟨hc, h1⟩
    | succ i => simp [HV.cells] at h2
def BRep (g : Gm) (c : Nat) (b : HB) (us : List Value) : Prop := match b with
  | .no => False
  | .cells cs => CReps g c cs us
  | .byt n d => d < 256 ^ n ∧ us = (bytesOf n d).map fun b => Value.int .u8 b.toNat
  | .map _ _ => False
theorem BRep.mono' {g g' : Gm} {c c' : Nat} {b : HB} {us : List Value} (h : BRep g c b us) (ha : Agr c g g') (hc : c ≤ c') : BRep g' c' b us := by
  cases b with
  | no => exact h
  | cells cs => exact CReps.mono' h ha hc
  | byt n d => exact h
  | map es cl => exact h
theorem BRep.mono {g g' : Gm} {c c' : Nat} {b : HB} {us : List Value} (h : BRep g c b us) (ha : Agree c g g') (hc : c ≤ c') : BRep g' c' b us := h.mono' ha.weak hc
def At.row (a : At) (vs : List Value) : List Value := (vs.drop a.o).take a.len
def MRep (g : Gm) (c : Nat) (e : ME) (m : MapEntry) : Prop := m.key = .int .i64 e.key ∧ VRep g c e.val m.val ∧ m.born = e.born
def MReps (g : Gm) (c : Nat) : List ME → List MapEntry → Prop
  | [], [] => True
  | e :: r, m :: s => MRep g c e m ∧ MReps g c r s
  | _, _ => False
theorem MReps.mono' {g g' : Gm} {c c' : Nat} (ha : Agr c g g') (hc : c ≤ c') : ∀ {es : List ME} {ms : List MapEntry}, MReps g c es ms → MReps g' c' es ms
  | [], [], _ => trivial
  | e :: r, m :: s, h => ⟨⟨h.1.1, h.1.2.1.mono' ha hc, h.1.2.2⟩, MReps.mono' ha hc h.2⟩
  | [], _ :: _, h => h.elim
  | _ :: _, [], h => h.elim
def kvM (e : ME) : Int × HV := (e.key, e.val)
def simM (es es0 : List ME) : Prop := (es0.map kvM).Perm (es.map kvM)
def wfM (es : List ME) (cl : Nat) : Prop := (es.map ME.key).Nodup ∧ (es.map ME.born).Nodup ∧ ∀ e ∈ es, e.born < cl
def MapOk (g : Gm) (c : Nat) (es : List ME) (cl cl0 : Nat) (ms : List MapEntry) : Prop :=
  (MReps g c es ms ∧ cl0 = cl ∧ cl < uM) ∨ (uM ≤ cl ∧ ∃ es0, MReps g c es0 ms ∧ simM es es0 ∧ wfM es0 cl0)
theorem MapOk.mono' {g g' : Gm} {c c' : Nat} {es : List ME} {cl cl0 : Nat} {ms : List MapEntry} (h : MapOk g c es cl cl0 ms) (ha : Agr c g g') (hc : c ≤ c') : MapOk g' c' es cl cl0 ms := by
  rcases h with ⟨h1, h2⟩ | ⟨h1, es0, h2, h3⟩
  · exact .inl ⟨h1.mono' ha hc, h2⟩
  · exact .inr ⟨h1, es0, h2.mono' ha hc, h3⟩
def isMap : HB → Bool
  | .map _ _ => true
  | _ => false
def BOk (g : Gm) (c : Nat) (a : At) (b : HB) (w : World) : Prop :=
  (∃ (vs : List Value) (t : TypeId), w.heap[a.b]? = some (.cells vs.toArray t (0, 0)) ∧ vs.length = a.bs ∧ (a.o = 0 ∧ a.o + a.len ≤ a.bs) ∧ BRep g c b (a.row vs)) ∨
  ∃ (es : List ME) (cl cl0 : Nat) (ms : List MapEntry), b = .map es cl ∧ w.heap[a.b]? = some (.map ms.toArray cl0) ∧ (a.o = 0 ∧ a.o + a.len ≤ a.bs) ∧ MapOk g c es cl cl0 ms
theorem BOk.mono' {g g' : Gm} {c c' : Nat} {a : At} {b : HB} {w w' : World} (h : BOk g c a b w) (ha : Agr c g g') (hc : c ≤ c') (hw : w'.heap[a.b]? = w.heap[a.b]?) : BOk g' c' a b w' := by
  rcases h with ⟨vs, t, h1, h2, h3, h4⟩ | ⟨es, cl, cl0, ms, h0, h1, h2, h3⟩
  · exact .inl ⟨vs, t, by rw [hw]; exact h1, h2, h3, h4.mono' ha hc⟩
  · exact .inr ⟨es, cl, cl0, ms, h0, by rw [hw]; exact h1, h2, h3.mono' ha hc⟩
theorem BOk.mono {g g' : Gm} {c c' : Nat} {a : At} {b : HB} {w w' : World} (h : BOk g c a b w) (ha : Agree c g g') (hc : c ≤ c') (hw : w'.heap[a.b]? = w.heap[a.b]?) : BOk g' c' a b w' := h.mono' ha.weak hc hw
theorem BOk.ok {g : Gm} {c : Nat} {a : At} {b : HB} {w : World} (h : BOk g c a b w) : a.o + a.len ≤ a.bs := by
  rcases h with ⟨vs, t, h1, h2, h3, h4⟩ | ⟨es, cl, cl0, ms, h0, h1, h2, h3⟩
  · exact h3.2
  · exact h2.2
theorem BOk.zero {g : Gm} {c : Nat} {a : At} {b : HB} {w : World} (h : BOk g c a b w) : a.o = 0 := by
  rcases h with ⟨vs, t, h1, h2, h3, h4⟩ | ⟨es, cl, cl0, ms, h0, h1, h2, h3⟩
  · exact h3.1
  · exact h2.1
theorem BOk.lt {g : Gm} {c : Nat} {a : At} {b : HB} {w : World} (h : BOk g c a b w) : a.b < w.heap.size := by
  rcases h with ⟨vs, t, h1, _⟩ | ⟨es, cl, cl0, ms, h0, h1, _⟩ <;> exact (Array.getElem?_eq_some_iff.1 h1).1
theorem BOk.plain {g : Gm} {c : Nat} {a : At} {b : HB} {w : World} (h : BOk g c a b w) (hm : isMap b = false) : ∃ (vs : List Value) (t : TypeId), w.heap[a.b]? = some (.cells vs.toArray t (0, 0)) ∧ vs.length = a.bs ∧ (a.o = 0 ∧ a.o + a.len ≤ a.bs) ∧ BRep g c b (a.row vs) := by
  rcases h with h | ⟨es, cl, cl0, ms, h0, h1, h2, h3⟩
  · exact h
  · subst h0; cases hm
theorem BOk.asMap {g : Gm} {c : Nat} {a : At} {es : List ME} {cl : Nat} {w : World} (h : BOk g c a (.map es cl) w) : ∃ (ms : List MapEntry) (cl0 : Nat), w.heap[a.b]? = some (.map ms.toArray cl0) ∧ (a.o = 0 ∧ a.o + a.len ≤ a.bs) ∧ MapOk g c es cl cl0 ms := by
  rcases h with ⟨vs, t, h1, h2, h3, h4⟩ | ⟨es', cl', cl0, ms, h0, h1, h2, h3⟩
  · exact h4.elim
  · cases h0; exact ⟨ms, cl0, h1, h2, h3⟩
structure HInv (g : Gm) (h : Nat → HO) (c : Nat) (w : World) : Prop where
  own : ∀ k pre b, h k = .own pre b → BOk g c (g k) b w
  sh : ∀ k b, h k = .sh b → BOk g c (g k) b w
  apart : ∀ k b j pre b', h k = .sh b → h j = .own pre b' → (g j).b = (g k).b → pre = k + 1
  inj : ∀ k pre b k' pre' b', h k = .own pre b → h k' = .own pre' b' → (g k).b = (g k').b → k = k'
  lt : ∀ k, h k ≠ .no → k < c
  pre : ∀ k p b, h k = .own p b → p ≤ c
def Has (g : Gm) (h : Nat → HO) (b : Nat) : Prop := ∃ k, h k ≠ .no ∧ (g k).b = b
def Owns (g : Gm) (h : Nat → HO) (b : Nat) : Prop := ∃ k pre bd, h k = .own pre bd ∧ (g k).b = b
structure Post (g : Gm) (h : Nat → HO) (c : Nat) (w : World) (g' : Gm) (h' : Nat → HO) (c' : Nat) (w' : World) : Prop where
  ag : ∀ k, k < c ∨ c' ≤ k → g' k = g k
  le : c ≤ c'
  inv : HInv g' h' c' w'
  fr : ∀ b, b < w.heap.size → ¬ Owns g h b → w'.heap[b]? = w.heap[b]?
  ow : ∀ b, Owns g' h' b → w.heap.size ≤ b ∨ Owns g h b
  hs : ∀ b, Has g' h' b → w.heap.size ≤ b ∨ Has g h b
  sz : w.heap.size ≤ w'.heap.size
  os : w'.os = w.os
  tape : w'.tape = w.tape
  out : w'.output = w.output
theorem Post.agree {g : Gm} {h : Nat → HO} {c : Nat} {w : World} {g' : Gm} {h' : Nat → HO} {c' : Nat} {w' : World} (p : Post g h c w g' h' c' w') : Agree c g g' := fun k hk => p.ag k (.inl hk)
theorem Post.refl {g : Gm} {h : Nat → HO} {c : Nat} {w : World} (hi : HInv g h c w) : Post g h c w g h c w :=
  ⟨fun _ _ => rfl, Nat.le_refl _, hi, fun _ _ _ => rfl, fun _ h => .inr h, fun _ h => .inr h, Nat.le_refl _, rfl, rfl, rfl⟩
theorem Post.trans {g g1 g2 : Gm} {h h1 h2 : Nat → HO} {c c1 c2 : Nat} {w w1 w2 : World} (p : Post g h c w g1 h1 c1 w1) (q : Post g1 h1 c1 w1 g2 h2 c2 w2) : Post g h c w g2 h2 c2 w2 where
  ag := fun k hk => by
    have l1 := p.le
    have l2 := q.le
    rw [q.ag k (by omega), p.ag k (by omega)]
  le := Nat.le_trans p.le q.le
  inv := q.inv
  fr := fun b hb hn => by
    rw [q.fr b (Nat.lt_of_lt_of_le hb p.sz) (fun ho => ?_), p.fr b hb hn]
    rcases p.ow b ho with h | h
    · omega
    · exact hn h
  ow := fun b ho => by
    rcases q.ow b ho with h | h
    · exact .inl (Nat.le_trans p.sz h)
    · exact p.ow b h
  hs := fun b ho => by
    rcases q.hs b ho with h | h
    · exact .inl (Nat.le_trans p.sz h)
    · exact p.hs b h
  sz := Nat.le_trans p.sz q.sz
  os := q.os.trans p.os
  tape := q.tape.trans p.tape
  out := q.out.trans p.out
end
end Go.FM
end
