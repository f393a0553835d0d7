/-
  The abstract machine: a deterministic evaluator of translated code over plain values: slices that are only read are lists, slices and structs that are still written are objects in a store a frame. Definitions only.
-/
import Derived.WalkKit
set_option linter.unusedVariables false
namespace Go.AbsM

inductive AV where
  | x (v : Value)
  | str (l : List UInt8)
  | nils
  | cap0
  /-- a slice that is only read, by its elements -/
  | sl (e : TypeId) (xs : List AV)
  /-- a part of a slice that some frame owns: i frames down, named k; from lo on, n elements; it had tot elements then -/
  | arr (i k : Nat) (e : TypeId) (lo n tot : Nat)
  /-- a slice that nobody else has (results alone) -/
  | own (e : TypeId) (xs : List AV)
  /-- an object that nobody else has (results alone) -/
  | obj (cs : List AV)
  | agg (cs : List AV)
  | tup (vs : List AV)
  | ref (i k off : Nat)
  | efz (cs : List AV) (off : Nat)
  | ear (i k : Nat) (e : TypeId) (tot j off : Nat)
  | und
  | dead
  deriving Inhabited

abbrev AV.int (k : IntKind) (n : Int) : AV := .x (.int k n)
abbrev AV.bool (b : Bool) : AV := .x (.bool b)

def plain : Value → Bool
  | .bool _ | .int _ _ | .float _ _ | .complex _ _ _ | .pointer none | .nilIface | .nilFunc => true
  | _ => false

def constCell : Value → Option AV
  | .bool b => some (.x (.bool b))
  | .int k n => some (.x (.int k n))
  | .float k b => some (.x (.float k b))
  | .complex k a b => some (.x (.complex k a b))
  | .pointer none => some (.x (.pointer none))
  | .nilIface => some (.x .nilIface)
  | .nilFunc => some (.x .nilFunc)
  | .string s => some (.str s.data.toList)
  | .slice none 0 0 => some .nils
  | _ => none

def constCells : List Value → Option (List AV)
  | [] => some []
  | v :: r => match constCell v, constCells r with
    | some a, some l => some (a :: l)
    | _, _ => none

def constAV : Value → Option AV
  | .agg cs => (constCells cs.toList).map .agg
  | v => constCell v

def AV.cells : AV → List AV
  | .agg cs => cs
  | a => [a]

/-- Does it stand in one cell of a box, a struct? -/
def AV.isCell : AV → Bool
  | .x _ | .str _ | .nils | .cap0 | .sl _ _ | .arr .. | .ref .. => true
  | _ => false
/-- The same, and no handle. -/
def AV.isVal : AV → Bool
  | .x _ | .str _ | .nils | .cap0 | .sl _ _ => true
  | _ => false

inductive Ob where
  | box (cs : List AV)
  | arr (fz : Bool) (e : TypeId) (xs : List AV)
  deriving Inhabited

/-- May it still be written? -/
def Ob.loose : Ob → Bool
  | .box _ => true
  | .arr fz _ _ => !fz

abbrev Store := List (Nat × Ob)

structure St where
  slots : List AV
  stores : List Store
  deriving Inhabited

def St.get (s : St) (t : Nat) : AV := s.slots.getD t .dead

def look : Store → Nat → Option Ob
  | [], _ => none
  | (k, o) :: r, n => if k = n then some o else look r n

def lay : Store → Nat → Ob → Store
  | [], _, _ => []
  | (k, o) :: r, n, p => if k = n then (k, p) :: r else (k, o) :: lay r n p

def drop : Store → Nat → Store
  | [], _ => []
  | (k, o) :: r, n => if k = n then drop r n else (k, o) :: drop r n

def getOb : List Store → Nat → Nat → Option Ob
  | [], _, _ => none
  | s :: _, 0, k => look s k
  | _ :: r, i + 1, k => getOb r i k

def setOb : List Store → Nat → Nat → Ob → List Store
  | [], _, _, _ => []
  | s :: r, 0, k, o => lay s k o :: r
  | s :: r, i + 1, k, o => s :: setOb r i k o

def AV.shift (n : Nat) : AV → AV
  | .arr i k e lo m tot => .arr (i + n) k e lo m tot
  | .ref i k off => .ref (i + n) k off
  | .ear i k e tot j off => .ear (i + n) k e tot j off
  | a => a

def AV.unshift (n : Nat) : AV → Option AV
  | .arr i k e lo m tot => if n ≤ i then some (.arr (i - n) k e lo m tot) else none
  | .ref i k off => if n ≤ i then some (.ref (i - n) k off) else none
  | .ear i k e tot j off => if n ≤ i then some (.ear (i - n) k e tot j off) else none
  | .dead => none
  | a => some a

def shiftCells (n : Nat) : AV → AV
  | .agg cs => .agg (cs.map (AV.shift n))
  | a => a.shift n

/-- What bears the name k in this frame is no longer known. -/
def AV.killCell (k : Nat) : AV → AV
  | .arr 0 j e lo m tot => if j = k then .dead else .arr 0 j e lo m tot
  | .ref 0 j off => if j = k then .dead else .ref 0 j off
  | .ear 0 j e tot m off => if j = k then .dead else .ear 0 j e tot m off
  | a => a
def AV.kill1 (k : Nat) : AV → AV
  | .agg cs => .agg (cs.map (AV.killCell k))
  | a => a.killCell k
def AV.kill (k : Nat) : AV → AV
  | .tup vs => .tup (vs.map (AV.kill1 k))
  | a => a.kill1 k
def Ob.kill (k : Nat) : Ob → Ob
  | .box cs => .box (cs.map (AV.killCell k))
  | o => o
def killStore (k : Nat) : Store → Store
  | [] => []
  | (j, o) :: r => (j, o.kill k) :: killStore k r

def St.create (s : St) (k : Nat) (o : Ob) : St :=
  { slots := s.slots.map (AV.kill k), stores := match s.stores with
    | [] => []
    | t :: r => ((k, o) :: drop (killStore k t) k) :: r }

def St.put (s : St) (d : Option Nat) (v : AV) : St :=
  match d with
  | some d => { s with slots := s.slots.set d v }
  | none => s

/-- The elements that a handle has, if nothing was appended since. -/
def St.elems (s : St) (i k lo n tot : Nat) : Option (List AV) :=
  match getOb s.stores i k with
  | some (.arr _ _ xs) => if xs.length = tot then some ((xs.drop lo).take n) else none
  | _ => none

def St.setFz (s : St) (i k : Nat) : St :=
  match getOb s.stores i k with
  | some (.arr _ e xs) => { s with stores := setOb s.stores i k (.arr true e xs) }
  | _ => s

/-- By value, read only from now on. -/
def resolve1 (s : St) : AV → Option (St × AV)
  | .arr i k e lo n tot => match s.elems i k lo n tot with
    | some xs => some (s.setFz i k, .sl e xs)
    | none => none
  | .x v => some (s, .x v)
  | .str l => some (s, .str l)
  | .nils => some (s, .nils)
  | .cap0 => some (s, .cap0)
  | .sl e xs => some (s, .sl e xs)
  | _ => none
def resolveL (s : St) : List AV → Option (St × List AV)
  | [] => some (s, [])
  | a :: r => match resolve1 s a with
    | some (s1, b) => match resolveL s1 r with
      | some (s2, l) => some (s2, b :: l)
      | none => none
    | none => none
def resolve (s : St) : AV → Option (St × AV)
  | .agg cs => match resolveL s cs with
    | some (s1, l) => some (s1, .agg l)
    | none => none
  | a => resolve1 s a
def resolveAll (s : St) : List AV → Option (St × List AV)
  | [] => some (s, [])
  | a :: r => match resolve s a with
    | some (s1, b) => match resolveAll s1 r with
      | some (s2, l) => some (s2, b :: l)
      | none => none
    | none => none

/-- The name of a part of what a call answered. -/
def home (k off : Nat) : Nat := 100000 + 100 * k + off

section
variable (P : Program)

def sizeT (t : TypeId) : Option Nat := (P.info? t).map (·.size)
def bytesT (t : TypeId) : Option Nat := (P.info? t).map (·.bytes)
def zeroT (t : TypeId) : Option AV := ((P.info? t).bind (·.zero)).bind constAV
def aggT (t : TypeId) : Option Bool := match P.underlying t with
  | some (.struct _) => some true
  | some (.array _ _) => some true
  | some _ => some false
  | none => none
def elemT (t : TypeId) : Option TypeId := match P.underlying t with
  | some (.slice e) => some e
  | _ => none

def evalO (s : St) : Operand → Option AV
  | .tmp t => some (s.get t)
  | .const v => constAV v
  | _ => none

/-- Cells from off on as a value of type t. -/
def partA (t : TypeId) (cs : List AV) (off : Nat) : Option AV :=
  match sizeT P t, aggT P t with
  | some n, some true => if off + n ≤ cs.length then some (.agg ((cs.drop off).take n)) else none
  | some _, some false => cs[off]?
  | _, _ => none

/-- ds laid over cs from off on. -/
def layA (cs : List AV) (off : Nat) (ds : List AV) : Option (List AV) :=
  if off + ds.length ≤ cs.length then some (cs.take off ++ (ds ++ cs.drop (off + ds.length))) else none

def fillA (place : Nat → Option (Nat × Nat)) (cells : List AV) : List (Nat × AV) → Option (List AV)
  | [] => some cells
  | (i, v) :: rest =>
    match place i with
    | none => none
    | some (off, size) =>
      if v.cells.length = size ∧ v.cells.all AV.isCell then
        match layA cells off v.cells with
        | some cells' => fillA place cells' rest
        | none => none
      else none

/-- Elements of a slice out of flat cells. -/
def chunksA (agg : Bool) (es : Nat) : Nat → List AV → Option (List AV)
  | 0, _ => some []
  | n + 1, cs => match chunksA agg es n (cs.drop es) with
    | some r => if agg then some (.agg (cs.take es) :: r) else if es = 1 then match cs.head? with
      | some c => some (c :: r)
      | none => none else none
    | none => none

def eqIn : Nat → TypeId → AV → AV → Option Bool
  | 0, _, _, _ => none
  | d + 1, t, x, y =>
    match P.underlying t, x, y with
    | some .bool, .x (.bool a), .x (.bool b) => some (a == b)
    | some (.int _), .x (.int k a), .x (.int k' b) => if k = k' then some (a == b) else none
    | some (.float _), .x (.float k a), .x (.float k' b) => if k = k' then some (Op.floatEq k a b) else none
    | some (.complex _), .x (.complex k a b), .x (.complex k' a' b') => if k = k' then some (Op.floatEq k a a' && Op.floatEq k b b') else none
    | some .string, .str a, .str b => some (a == b)
    | some (.struct fields), .agg xs, .agg ys =>
      if P.stoodInHeld t then none else eqFields d fields.toList xs ys
    | _, _, _ => none
where
  eqFields (d : Nat) : List Field → List AV → List AV → Option Bool
    | [], _, _ => some true
    | f :: r, xs, ys =>
      if f.name = "_" then eqFields d r xs ys else
      match partA P f.type xs f.offset, partA P f.type ys f.offset with
      | some a, some b => match eqIn d f.type a b with
        | some true => eqFields d r xs ys
        | some false => some false
        | none => none
      | _, _ => none

def intBin (op : BinOp) (k : IntKind) (a b : Int) : Option AV :=
  match op with
  | .add => some (.int k (k.wrap (a + b)))
  | .sub => some (.int k (k.wrap (a - b)))
  | .mul => some (.int k (k.wrap (a * b)))
  | .quo => if b = 0 then none else some (.int k (k.wrap (a.tdiv b)))
  | .rem => if b = 0 then none else some (.int k (a.tmod b))
  | .and => some (.int k (k.wrap (BitVec.ofInt k.bits a &&& BitVec.ofInt k.bits b).toNat))
  | .or => some (.int k (k.wrap (BitVec.ofInt k.bits a ||| BitVec.ofInt k.bits b).toNat))
  | .xor => some (.int k (k.wrap (BitVec.ofInt k.bits a ^^^ BitVec.ofInt k.bits b).toNat))
  | .andNot => some (.int k (k.wrap (BitVec.ofInt k.bits a &&& ~~~BitVec.ofInt k.bits b).toNat))
  | .eql => some (.bool (a == b))
  | .neq => some (.bool (a != b))
  | .lss => some (.bool (decide (a < b)))
  | .leq => some (.bool (decide (a ≤ b)))
  | .gtr => some (.bool (decide (a > b)))
  | .geq => some (.bool (decide (a ≥ b)))
  | _ => none

def floatArithA (op : BinOp) (k : FloatKind) (a b : Nat) : Option Nat :=
  match op with
  | .add => k.format.add a b
  | .sub => k.format.sub a b
  | .mul => k.format.mul a b
  | .quo => k.format.div a b
  | _ => none

def floatBin (op : BinOp) (k : FloatKind) (a b : Nat) : Option AV :=
  let c := k.format.order a b
  match op with
  | .add | .sub | .mul | .quo => (floatArithA op k a b).map fun r => .x (.float k r)
  | .eql => some (.bool (c == some .eq))
  | .neq => some (.bool (c != some .eq))
  | .lss => some (.bool (c == some .lt))
  | .leq => some (.bool (c == some .lt || c == some .eq))
  | .gtr => some (.bool (c == some .gt))
  | .geq => some (.bool (c == some .gt || c == some .eq))
  | _ => none

def complexBin (op : BinOp) (k : FloatKind) (xr xi yr yi : Nat) : Option AV :=
  match op with
  | .add | .sub => match floatArithA op k xr yr, floatArithA op k xi yi with
    | some a, some b => some (.x (.complex k a b))
    | _, _ => none
  | .mul => if k = .f64 then
      match floatArithA .mul k xr yr, floatArithA .mul k xi yi, floatArithA .mul k xr yi, floatArithA .mul k xi yr with
      | some ac, some bd, some ad, some bc => match floatArithA .sub k ac bd, floatArithA .add k ad bc with
        | some a, some b => some (.x (.complex k a b))
        | _, _ => none
      | _, _, _, _ => none
    else none
  | .eql => some (.bool ((k.format.order xr yr == some .eq) && (k.format.order xi yi == some .eq)))
  | .neq => some (.bool !((k.format.order xr yr == some .eq) && (k.format.order xi yi == some .eq)))
  | _ => none

def strBin (op : BinOp) (a b : List UInt8) : Option AV :=
  match op with
  | .add => if a.length + b.length ≤ 9223372036854775807 then some (.str (a ++ b)) else none
  | .eql => some (.bool (a == b))
  | .neq => some (.bool !(a == b))
  | .lss => some (.bool (Op.bytesLess a b))
  | .leq => some (.bool (Op.bytesLess a b || a == b))
  | .gtr => some (.bool !(Op.bytesLess a b || a == b))
  | .geq => some (.bool !(Op.bytesLess a b))
  | _ => none

def shiftA (op : BinOp) (k : IntKind) (a b : Int) : Option AV :=
  if b < 0 then none else
  match op with
  | .shl => some (.int k (k.wrap (a * 2 ^ (min b.toNat k.bits))))
  | .shr => some (.int k (a.fdiv (2 ^ (min b.toNat k.bits))))
  | _ => none

/-- Is it nil, where that is known? -/
def isNilA (s : St) : AV → Option Bool
  | .nils => some true
  | .sl _ (_ :: _) => some false
  | .arr i k _ lo (n + 1) tot => match s.elems i k lo (n + 1) tot with
    | some _ => some false
    | none => none
  | _ => none

def isNilT (s : St) (t : TypeId) (a : AV) : Option Bool :=
  match P.underlying t with
  | some (.slice _) => isNilA s a
  | some (.pointer _) => match a with
    | .ref _ _ _ => some false
    | .x (.pointer none) => some true
    | _ => none
  | _ => none

def binA (s : St) (op : BinOp) (t : TypeId) (x y : AV) : Option AV :=
  match y with
  | .nils => match P.underlying t with
    | some (.slice _) => match op with
      | .eql => (isNilT P s t x).map .bool
      | .neq => (isNilT P s t x).map fun b => .bool !b
      | _ => none
    | _ => none
  | .x (.pointer none) => match P.underlying t with
    | some (.pointer _) => match op with
      | .eql => (isNilT P s t x).map .bool
      | .neq => (isNilT P s t x).map fun b => .bool !b
      | _ => none
    | _ => none
  | .x (.int k' b) => match x with
    | .x (.int k a) => match op with
      | .shl => shiftA .shl k a b
      | .shr => shiftA .shr k a b
      | op => if k = k' then intBin op k a b else none
    | _ => none
  | .x (.float k' b) => match x with
    | .x (.float k a) => if k = k' then floatBin op k a b else none
    | _ => none
  | .x (.complex k' c d) => match x with
    | .x (.complex k a b) => if k = k' then complexBin op k a b c d else none
    | _ => none
  | .str b => match x with
    | .str a => strBin op a b
    | _ => none
  | .x (.bool b) => match x with
    | .x (.bool a) => match P.underlying t with
      | some .bool => match op with
        | .eql => some (.bool (a == b))
        | .neq => some (.bool (!(a == b)))
        | _ => none
      | _ => none
    | _ => none
  | .agg b => match x with
    | .agg a => if P.eqGuardType P.depth t then none else match op with
      | .eql => (eqIn P 10000 t (.agg a) (.agg b)).map .bool
      | .neq => (eqIn P 10000 t (.agg a) (.agg b)).map fun b => .bool !b
      | _ => none
    | _ => none
  | _ => none

def unA (op : UnOp) : AV → Option AV
  | .x (.int k n) => match op with
    | .neg => some (.int k (k.wrap (0 - n)))
    | .xor => some (.int k (k.wrap (BitVec.ofInt k.bits (if k.signed then -1 else k.max) ^^^ BitVec.ofInt k.bits n).toNat))
    | _ => none
  | .x (.float k b) => match op with | .neg => some (.x (.float k (Op.negFloat k b))) | _ => none
  | .x (.complex k a b) => match op with | .neg => some (.x (.complex k (Op.negFloat k a) (Op.negFloat k b))) | _ => none
  | .x (.bool b) => match op with | .not => some (.bool !b) | _ => none
  | _ => none

def bytesOfAVs : List AV → Option (List UInt8)
  | [] => some []
  | .x (.int .u8 n) :: r => match bytesOfAVs r with
    | some l => some (UInt8.ofNat n.toNat :: l)
    | none => none
  | _ => none

def avsOfBytes (l : List UInt8) : List AV := l.map fun b => .int .u8 b.toNat

/-- What stands in a slice of e, or in a string of bytes. -/
def St.src (s : St) (e : TypeId) : AV → Option (List AV)
  | .str l => if P.cellsOf e = 1 then some (avsOfBytes l) else none
  | .nils => some []
  | .cap0 => some []
  | .sl e' xs => if e' = e then some xs else none
  | .arr i k e' lo n tot => if e' = e then s.elems i k lo n tot else none
  | _ => none

def convA (s : St) (src dst : TypeId) (a : AV) : Option AV :=
  match a with
  | .x (.int _ n) => match P.underlying src, P.underlying dst with
    | some _, some (.int k) => some (.int k (k.wrap n))
    | some _, some (.float k) => some (.x (.float k (k.nearest n)))
    | _, _ => none
  | .x (.float s b) => match P.underlying src, P.underlying dst with
    | some _, some (.int k) => match (s.decode b).toInt .zero with
      | some n => if k.min ≤ n ∧ n ≤ k.max then some (.int k n) else none
      | none => none
    | some _, some (.float k) => if s = k then some (.x (.float k b)) else none
    | _, _ => none
  | .str l => match P.underlying src, P.underlying dst with
    | some _, some .string => some (.str l)
    | _, _ => none
  | a => match P.underlying src, P.underlying dst with
    | some (.slice e), some .string => match P.underlying e, s.src P e a with
      | some (.int .u8), some xs => (bytesOfAVs xs).map .str
      | _, _ => none
    | _, _ => none

/-- A bound of a slice expression. -/
def boundA (s : St) (dflt most : Nat) : Option Operand → Option Nat
  | none => some dflt
  | some o => match evalO s o with
    | some (.x (.int _ i)) => if 0 ≤ i ∧ i ≤ most then some i.toNat else none
    | _ => none

def partsA (s : St) : List (Nat × Operand) → Option (List (Nat × AV))
  | [] => some []
  | (i, o) :: r => match evalO s o, partsA s r with
    | some a, some l => some ((i, a) :: l)
    | _, _ => none

def evalOs (s : St) : List Operand → Option (List AV)
  | [] => some []
  | o :: r => match evalO s o, evalOs s r with
    | some a, some l => some (a :: l)
    | _, _ => none

/-- A new slice of this frame's own. -/
def St.fresh (s : St) (d : Option Nat) (e : TypeId) (xs : List AV) : Option St :=
  match d with
  | some k => some ((s.create k (.arr false e xs)).put (some k) (.arr 0 k e 0 xs.length xs.length))
  | none => none

def appendA (s : St) (d : Option Nat) (t : TypeId) (a b : AV) : Option St :=
  match elemT P t with
  | none => none
  | some e => match sizeT P e, bytesT P e, s.src P e b, zeroT P e with
    | some es, some by_, some news, some z =>
      if es = 0 ∨ by_ = 0 ∨ z.cells.length ≠ es then none else
      match a with
      | .nils => match news with
        | [] => some (s.put d .nils)
        | y :: ys => if (y :: ys).length * by_ ≤ 140737488355328 then s.fresh d e (y :: ys) else none
      | .cap0 => match news with
        | [] => some (s.put d .cap0)
        | y :: ys => if (y :: ys).length * by_ ≤ 140737488355328 then s.fresh d e (y :: ys) else none
      | .arr i k e' lo n tot => match getOb s.stores i k with
        | some (.arr false e2 xs) =>
          if e' = e ∧ e2 = e ∧ lo = 0 ∧ n = tot ∧ xs.length = tot ∧ (xs.length + news.length) * by_ ≤ 140737488355328 then
            some (St.put { s with stores := setOb s.stores i k (.arr false e (xs ++ news)) } d (.arr i k e 0 (xs.length + news.length) (xs.length + news.length)))
          else none
        | _ => none
      | _ => none
    | _, _, _, _ => none

/-- One cell on its way into a box i + 1 frames down: by value, or a handle from there on. -/
def sinkCell (s : St) (i : Nat) (a : AV) : Option (St × AV) :=
  match a with
  | .arr j k e lo n tot => if i + 1 ≤ j then some (s, .arr (j - (i + 1)) k e lo n tot) else resolve1 s (.arr j k e lo n tot)
  | .ref j k off => if i + 1 ≤ j then some (s, .ref (j - (i + 1)) k off) else none
  | a => resolve1 s a
def sinkCells (s : St) (i : Nat) : List AV → Option (St × List AV)
  | [] => some (s, [])
  | a :: r => match sinkCell s i a with
    | some (s1, b) => match sinkCells s1 i r with
      | some (s2, l) => some (s2, b :: l)
      | none => none
    | none => none

def storeA (s : St) (d : Option Nat) (t : TypeId) (p v : AV) : Option St :=
  match sizeT P t with
  | none => none
  | some n =>
    if v.cells.length = n ∧ v.cells.all AV.isCell then
      match p with
      | .ref 0 k off => match getOb s.stores 0 k with
        | some (.box cs) => match layA cs off v.cells with
          | some ds => some (St.put { s with stores := setOb s.stores 0 k (.box ds) } d .und)
          | none => none
        | _ => none
      | .ref (i + 1) k off => match sinkCells s i v.cells with
        | some (s1, vs) => match getOb s1.stores (i + 1) k with
          | some (.box cs) => match layA cs off vs with
            | some ds => some (St.put { s1 with stores := setOb s1.stores (i + 1) k (.box ds) } d .und)
            | none => none
          | _ => none
        | none => none
      | .ear i k e tot j off => match resolveL s v.cells with
        | some (s1, vs) => match getOb s1.stores i k with
          | some (.arr false e' xs) => if xs.length = tot ∧ e' = e then match xs[j]? with
              | some y => match layA y.cells off vs, aggT P e with
                | some ds, some true => some (St.put { s1 with stores := setOb s1.stores i k (.arr false e (xs.set j (.agg ds))) } d .und)
                | some [c], some false => some (St.put { s1 with stores := setOb s1.stores i k (.arr false e (xs.set j c)) } d .und)
                | _, _ => none
              | none => none else none
          | _ => none
        | none => none
      | _ => none
    else none

def loadA (s : St) (t : TypeId) (p : AV) : Option AV :=
  match p with
  | .ref i k off => match getOb s.stores i k with
    | some (.box cs) => (partA P t cs off).map (shiftCells i)
    | _ => none
  | .efz cs off => partA P t cs off
  | .ear i k _ tot j off => match getOb s.stores i k with
    | some (.arr _ _ xs) => if xs.length = tot then match xs[j]? with
        | some y => partA P t y.cells off
        | none => none else none
    | _ => none
  | _ => none

/-- An address, n cells on. -/
def St.fwd (s : St) (n : Nat) : AV → Option AV
  | .ref i k off => some (.ref i k (off + n))
  | .efz cs off => some (.efz cs (off + n))
  | .ear i k e tot j off => match getOb s.stores i k with
    | some (.arr _ _ xs) => if xs.length = tot then some (.ear i k e tot j (off + n)) else none
    | _ => none
  | _ => none

def indexAddrA (s : St) (t : TypeId) (p : AV) (i : Int) : Option AV :=
  match P.underlying t with
  | some (.slice e) => if 0 ≤ i then match p with
      | .sl e' xs => if e' = e then match xs[i.toNat]? with
          | some a => some (.efz a.cells 0)
          | none => none else none
      | .arr j k e' lo n tot => if e' = e ∧ i < n then match s.elems j k lo n tot with
          | some _ => some (.ear j k e tot (lo + i.toNat) 0)
          | none => none else none
      | _ => none else none
  | some (.array len e) => match sizeT P e with
    | some n => if 0 ≤ i ∧ i < len then s.fwd (i.toNat * n) p else none
    | none => none
  | _ => none

def sliceA (s : St) (t : TypeId) (a : AV) (lo hi mx : Option Operand) : Option AV :=
  match P.underlying t with
  | some .string => match a, mx with
    | .str l, none => match boundA s l.length l.length hi with
      | some h => match boundA s 0 h lo with
        | some b => some (.str ((l.take h).drop b))
        | none => none
      | none => none
    | _, _ => none
  | some (.slice e) => match sizeT P e with
    | none => none
    | some _ => match mx, hi with
      | none, hi => match a with
        | .sl e' xs => if e' = e then match boundA s xs.length xs.length hi with
          | some h => match boundA s 0 h lo with
            | some b => some (.sl e' ((xs.take h).drop b))
            | none => none
          | none => none else none
        | .arr i k e' lo' n tot => if e' = e then match s.elems i k lo' n tot, boundA s n n hi with
          | some _, some h => match boundA s 0 h lo with
            | some b => some (.arr i k e' (lo' + b) (h - b) tot)
            | none => none
          | _, _ => none else none
        | .nils => match boundA s 0 0 hi with
          | some h => match boundA s 0 h lo with
            | some _ => some .nils
            | none => none
          | none => none
        | .cap0 => match boundA s 0 0 hi with
          | some h => match boundA s 0 h lo with
            | some _ => some .cap0
            | none => none
          | none => none
        | _ => none
      | some m, some o1 => match a with
        | .nils => match boundA s 0 0 (some m) with
          | some m' => match boundA s 0 m' (some o1) with
            | some h => match boundA s 0 h lo with
              | some _ => some .nils
              | none => none
            | none => none
          | none => none
        | .cap0 => match boundA s 0 0 (some m) with
          | some m' => match boundA s 0 m' (some o1) with
            | some h => match boundA s 0 h lo with
              | some _ => some .cap0
              | none => none
            | none => none
          | none => none
        | .sl e' xs => if e' = e then match boundA s 0 xs.length (some m) with
          | some m' => match boundA s 0 m' (some o1) with
            | some h => match boundA s 0 h lo with
              | some b => match m' with
                | 0 => some .cap0
                | _ + 1 => some (.sl e' ((xs.take h).drop b))
              | none => none
            | none => none
          | none => none else none
        | .arr i k e' lo' n tot => if e' = e then match s.elems i k lo' n tot, boundA s 0 n (some m) with
          | some _, some m' => match boundA s 0 m' (some o1) with
            | some h => match boundA s 0 h lo with
              | some b => match m' with
                | 0 => some .cap0
                | _ + 1 => some (.arr i k e' (lo' + b) (h - b) tot)
              | none => none
            | none => none
          | _, _ => none else none
        | _ => none
      | some _, none => none
  | _ => none

def lenOfA (s : St) (t : TypeId) (a : AV) : Option Nat :=
  match P.underlying t with
  | some .string => match a with
    | .str l => some l.length
    | _ => none
  | some (.slice _) => match a with
    | .nils | .cap0 => some 0
    | .sl _ xs => some xs.length
    | .arr i k _ lo n tot => match s.elems i k lo n tot with
      | some _ => some n
      | none => none
    | _ => none
  | some (.array n _) => some n
  | some (.pointer arr) => match P.underlying arr with
    | some (.array n _) => some n
    | _ => none
  | _ => none

def copyA (s : St) (d : Option Nat) (t : TypeId) (a b : AV) : Option St :=
  match elemT P t with
  | none => none
  | some e => match sizeT P e, s.src P e b with
    | some _, some ys => match a with
      | .arr i k e' lo n tot => match getOb s.stores i k with
        | some (.arr false e2 xs) => if e' = e ∧ e2 = e ∧ xs.length = tot ∧ lo + n ≤ tot then
            some (St.put { s with stores := setOb s.stores i k (.arr false e (xs.take lo ++ (ys.take (min ys.length n) ++ xs.drop (lo + min ys.length n)))) } d (.int .i64 (min ys.length n : Nat)))
          else none
        | _ => none
      | .nils => some (s.put d (.int .i64 0))
      | .cap0 => some (s.put d (.int .i64 0))
      | .sl _ xs => if min ys.length xs.length = 0 then some (s.put d (.int .i64 0)) else none
      | _ => none
    | _, _ => none

def clearA (s : St) (d : Option Nat) (t : TypeId) (a : AV) : Option St :=
  match elemT P t with
  | none => none
  | some e => match a with
    | .nils => some (s.put d .und)
    | .cap0 => some (s.put d .und)
    | .arr i k e' lo n tot => match zeroT P e, sizeT P e, getOb s.stores i k with
      | some z, some es, some (.arr false e2 xs) =>
        if e' = e ∧ e2 = e ∧ xs.length = tot ∧ lo + n ≤ tot ∧ z.cells.length = es ∧ 0 < n then
          some (St.put { s with stores := setOb s.stores i k (.arr false e (xs.take lo ++ (List.replicate n z ++ xs.drop (lo + n)))) } d .und)
        else none
      | _, _, _ => none
    | _ => none

def builtinA (s : St) (d : Option Nat) (b : Builtin) (ts : List TypeId) (as : List AV) : Option St :=
  match b with
  | .len => match as, ts with
    | [a], t :: _ => (lenOfA P s t a).map fun n => s.put d (.int .i64 n)
    | _, _ => none
  | .append => match as, ts with
    | [a, b], [t, t2] => match P.underlying t2 with
      | some (.slice _) | some .string => appendA P s d t a b
      | _ => none
    | _, _ => none
  | .copy => match as, ts with
    | [a, b], t :: _ => copyA P s d t a b
    | _, _ => none
  | .clear => match as, ts with
    | [a], t :: _ => clearA P s d t a
    | _, _ => none
  | .real => match as with
    | [.x (.complex k a _)] => some (s.put d (.x (.float k a)))
    | _ => none
  | .imag => match as with
    | [.x (.complex k _ b)] => some (s.put d (.x (.float k b)))
    | _ => none
  | .complex => match as with
    | [.x (.float k a), .x (.float k' b)] => if k = k' then some (s.put d (.x (.complex k a b))) else none
    | _ => none
  | .min => match as with
    | [.x (.int k a), .x (.int _ b)] => some (s.put d (.int k (if b < a then b else a)))
    | _ => none
  | .max => match as with
    | [.x (.int k a), .x (.int _ b)] => some (s.put d (.int k (if b > a then b else a)))
    | _ => none
  | _ => none

def boxA (s : St) (d : Option Nat) (e : TypeId) (a : AV) : Option St :=
  match d, sizeT P e with
  | some k, some n => if a.cells.length = n ∧ a.cells.all AV.isCell then
      some (((s.create k (.box (a.cells.map (AV.killCell k)))).put (some k) (.ref 0 k 0))) else none
  | _, _ => none

def placesT : List Field → Option (List (Nat × Nat))
  | [] => some []
  | f :: r => match sizeT P f.type, placesT r with
    | some n, some l => some ((f.offset, n) :: l)
    | _, _ => none

def buildA (s : St) (d : Option Nat) (t : TypeId) (l : List (Nat × AV)) : Option St :=
  match zeroT P t, P.underlying t with
  | some z, some (.struct fields) => match placesT P fields.toList with
    | some places => match fillA (places[·]?) z.cells l with
      | some cs => some (s.put d (.agg cs))
      | none => none
    | none => none
  | some z, some (.array _ e) => match sizeT P e with
    | some n => match fillA (fun i => some (i * n, n)) z.cells l with
      | some cs => some (s.put d (.agg cs))
      | none => none
    | none => none
  | _, _ => none

def buildSliceA (s : St) (d : Option Nat) (t : TypeId) (len : Nat) (l : List (Nat × AV)) : Option St :=
  match elemT P t, resolveAll s (l.map (·.2)) with
  | some e, some (s1, vs) => match sizeT P e, zeroT P e with
    | some n, some z => if n = 0 ∨ len * n > 16777216 ∨ z.cells.length ≠ n then none else
      match fillA (fun i => some (i * n, n)) ((List.replicate len z.cells).flatten) ((l.map (·.1)).zip vs) with
      | some cs => if cs.all AV.isVal then match (aggT P e).bind fun b => chunksA b n len cs with
          | some xs => s1.fresh d e xs
          | none => none else none
      | none => none
    | _, _ => none
  | _, _ => none

def makeA (s : St) (d : Option Nat) (t : TypeId) (l c : Int) : Option St :=
  match elemT P t with
  | none => none
  | some e => match sizeT P e, bytesT P e, zeroT P e with
    | some n, some by_, some z => if 0 ≤ l ∧ l ≤ c ∧ c ≤ 9223372036854775807 ∧ by_ * c ≤ 281474976710656 ∧ 0 < n ∧ z.cells.length = n ∧ z.cells.all AV.isVal then
        s.fresh d e (List.replicate l.toNat z) else none
    | _, _, _ => none

def convertA (s : St) (d : Option Nat) (src dst : TypeId) (a : AV) : Option St :=
  match convA P s src dst a with
  | some v => some (s.put d v)
  | none => match P.underlying src, P.underlying dst with
    | some .string, some (.slice e) => match a, P.underlying e with
      | .str l, some (.int .u8) => if l.length ≤ 9223372036854775807 ∧ P.cellsOf e = 1 then some (s.put d (.sl e (avsOfBytes l))) else none
      | _, _ => none
    | some (.slice _), some (.slice e) => if src = dst then match P.underlying e, a with
        | some (.int .u8), .arr i k e' lo (n + 1) tot => match getOb s.stores i k, s.elems i k lo (n + 1) tot with
          | some (.arr false _ _), some xs => some ((s.setFz i k).put d (.sl e' xs))
          | _, _ => none
        | _, _ => none else none
    | _, _ => none

/-- One operation, calls apart. -/
def opA (s : St) (o : Oper) : Option St :=
  match o.op with
  | .move x => (evalO s x).map fun a => s.put o.dst a
  | .assign x => (evalO s x).map fun a => s.put o.dst a
  | .pick c a b => match evalO s c with
    | some (.x (.bool t)) => (if t then evalO s a else evalO s b).map fun v => s.put o.dst v
    | _ => none
  | .nilCheck x => match evalO s x with
    | some (.ref i k off) => some (s.put o.dst (.ref i k off))
    | _ => none
  | .alloc e => match zeroT P e with
    | some z => boxA P s o.dst e z
    | none => none
  | .box e x => match evalO s x with
    | some a => boxA P s o.dst e a
    | none => none
  | .build t ps => match partsA s ps.toList with
    | some l => buildA P s o.dst t l
    | none => none
  | .buildSlice t len ps => match partsA s ps.toList with
    | some l => buildSliceA P s o.dst t len l
    | none => none
  | .makeSlice t lo co => match evalO s lo, evalO s co with
    | some (.x (.int _ l)), some (.x (.int _ c)) => makeA P s o.dst t l c
    | _, _ => none
  | .load t x => match evalO s x with
    | some p => (loadA P s t p).map fun a => s.put o.dst a
    | none => none
  | .store t x y => match evalO s x, evalO s y with
    | some p, some v => storeA P s o.dst t p v
    | _, _ => none
  | .fieldAddr t x f => match P.underlying t, evalO s x with
    | some (.struct fields), some p => match fields[f]? with
      | some fd => match sizeT P fd.type with
        | some (_ + 1) => (s.fwd fd.offset p).map fun a => s.put o.dst a
        | _ => none
      | none => none
    | _, _ => none
  | .indexAddr t x y => match evalO s x, evalO s y with
    | some p, some (.x (.int _ i)) => (indexAddrA P s t p i).map fun a => s.put o.dst a
    | _, _ => none
  | .field t x f => match P.underlying t, evalO s x with
    | some (.struct fields), some (.agg cs) => match fields[f]? with
      | some fd => (partA P fd.type cs fd.offset).map fun a => s.put o.dst a
      | none => none
    | _, _ => none
  | .index t x y => match evalO s x, evalO s y with
    | some a, some (.x (.int _ i)) => match P.underlying t with
      | some (.array len e) => match a, sizeT P e with
        | .agg cs, some n => if 0 ≤ i ∧ i < len then (partA P e cs (i.toNat * n)).map fun a => s.put o.dst a else none
        | _, _ => none
      | some .string => match a with
        | .str l => if 0 ≤ i then match l[i.toNat]? with
          | some b => some (s.put o.dst (.int .u8 b.toNat))
          | none => none else none
        | _ => none
      | _ => none
    | _, _ => none
  | .slice t x lo hi mx => match evalO s x with
    | some a => (sliceA P s t a lo hi mx).map fun v => s.put o.dst v
    | none => none
  | .binOp op t x y _ => match evalO s x, evalO s y with
    | some a, some b => (binA P s op t a b).map fun v => s.put o.dst v
    | _, _ => none
  | .unOp op _ x => match evalO s x with
    | some a => (unA op a).map fun v => s.put o.dst v
    | none => none
  | .convert src dst x => match evalO s x with
    | some a => convertA P s o.dst src dst a
    | none => none
  | .extract x i => match evalO s x with
    | some (.tup vs) => (vs[i]?).map fun a => s.put o.dst a
    | _ => none
  | .call c => match c.callee with
    | .builtin b => match evalOs s c.args.toList with
      | some as => builtinA P s o.dst b c.argTypes.toList as
      | none => none
    | _ => none
  | _ => none

/-! ### Calls, regions, code -/

inductive AExit where
  | normal
  | exit (id : Nat)
  | goto (l : Nat)
  | ret
  deriving DecidableEq, Inhabited

inductive Task where
  | code (c : Code)
  /-- 'rest', inside the scope of 'c' -/
  | within (c rest : Code)

abbrev Rec := Task → St → Option (AExit × St)

def resultOne (s : St) : ResultVar → Option AV
  | .tmp t => some (s.get t)
  | .cell a t => loadA P s t (s.get a)

def resultAll (s : St) : List ResultVar → Option (List AV)
  | [] => some []
  | r :: l => match resultOne P s r, resultAll s l with
    | some a, some b => some (a :: b)
    | _, _ => none

/-- Is it a slice of this frame's own, as it was made, that may still be written? -/
def wholeA (s : St) (k : Nat) (e : TypeId) (lo n tot : Nat) : Bool :=
  match getOb s.stores 0 k with
  | some (.arr fz e' xs) => !fz && xs.length == tot && e' == e && lo == 0 && n == tot
  | _ => false

/-- A result, as the caller sees it; what was handed on already is not handed on again. -/
def outOne (s : St) (used : List Nat) (a : AV) : Option (List Nat × AV) :=
  match a with
  | .arr 0 k e lo n tot => if wholeA s k e lo n tot ∧ used.contains k = false then match getOb s.stores 0 k with
    | some (.arr _ _ xs) => some (k :: used, .own e xs)
    | _ => none else none
  | .arr (i + 1) k e lo n tot => some (used, .arr i k e lo n tot)
  | .ref (i + 1) k off => some (used, .ref i k off)
  | .x v => some (used, .x v)
  | .str l => some (used, .str l)
  | .nils => some (used, .nils)
  | .cap0 => some (used, .cap0)
  | .sl e xs => some (used, .sl e xs)
  | .agg cs => if cs.all AV.isVal then some (used, .agg cs) else none
  | _ => none
def outAll (s : St) (used : List Nat) : List AV → Option (List AV)
  | [] => some []
  | a :: r => match outOne s used a with
    | some (u1, b) => match outAll s u1 r with
      | some l => some (b :: l)
      | none => none
    | none => none
/-- Structs whose slices are still owned go back by value; so do parts of slices. -/
def settleOne (s : St) (a : AV) : Option (St × AV) :=
  match a with
  | .agg cs => resolve s (.agg cs)
  | .arr 0 k e lo n tot => if wholeA s k e lo n tot then some (s, .arr 0 k e lo n tot) else resolve1 s (.arr 0 k e lo n tot)
  | a => some (s, a)
def settle (s : St) : List AV → Option (St × List AV)
  | [] => some (s, [])
  | a :: r => match settleOne s a with
    | some (s1, b) => match settle s1 r with
      | some (s2, l) => some (s2, b :: l)
      | none => none
    | none => none

/-- What a call answered, taken in under the name k. -/
def inOne (s : St) (k : Nat) (a : AV) : St × AV :=
  match a with
  | .own e xs => (s.create k (.arr false e xs), .arr 0 k e 0 xs.length xs.length)
  | a => (s, a)
/-- Without these names. -/
def AV.kills (k : Nat) : Nat → AV → AV
  | 0, a => a
  | n + 1, a => AV.kills (k + 1) n (a.kill1 k)
def inAll (s : St) (k : Nat) : List AV → St × List AV
  | [] => (s, [])
  | a :: r =>
    let q := inAll s (k + 1) r
    let p := inOne q.1 k (a.kills (k + 1) r.length)
    (p.1, p.2 :: q.2.map (AV.kill1 k))

/-- Does it hold no slice with elements? -/
def AV.flat0 : AV → Bool
  | .x _ | .str _ | .nils | .cap0 => true
  | _ => false
def AV.flat1 : AV → Bool
  | .agg cs => cs.all AV.flat0
  | a => a.flat0
def AV.flat2 : AV → Bool
  | .own _ xs => xs.all AV.flat1
  | a => a.flat1
def AV.hasSl : AV → Bool
  | .tup vs => !(vs.all AV.flat2)
  | a => !a.flat2

/-- Does it name nothing of any frame? -/
def AV.shut1 : AV → Bool
  | .own _ _ => true
  | .agg cs => cs.all AV.isVal
  | a => a.isVal
def AV.shut : AV → Bool
  | .tup vs => vs.all AV.shut1
  | a => a.shut1

/-- Must a call see what its caller owns? -/
def openA (lend : Nat → Bool) : Nat → List AV → Bool
  | _, [] => false
  | j, a :: r => (match a with
    | .arr .. => lend j
    | .ref .. => true
    | _ => false) || openA lend (j + 1) r

/-- The arguments of such a call, as the callee sees them. -/
def lendAll (s : St) : List AV → Option (St × List AV)
  | [] => some (s, [])
  | a :: r => match lendAll s r with
    | none => none
    | some (s1, l) => match a with
      | .arr i k e lo n tot => some (s1, .arr (i + 1) k e lo n tot :: l)
      | .ref i k off => some (s1, .ref (i + 1) k off :: l)
      | a => match resolve s1 a with
        | some (s2, b) => some (s2, b :: l)
        | none => none

structure Env where
  Φ : FuncId → Option Func
  Γ : FuncId → List AV → Option AV
  lend : FuncId → Nat → Bool
  solo : Oper → Bool
  ok : Array Oper → Bool

variable (E : Env)

def enterA (fn : Func) (args : List AV) (stores : List Store) : St :=
  { slots := args ++ List.replicate (fn.ntmps - args.length) .und, stores := [] :: stores }

/-- One result, or several. -/
def oneOf : List AV → AV
  | [v] => v
  | vs => .tup vs

/-- A call: what comes back, and the stores behind it. -/
def callA (rec : Rec) (f : FuncId) (args : List AV) (stores : List Store) : Option (List Store × AV) :=
  match E.Γ f args with
  | some r => some (stores, r)
  | none => match E.Φ f with
    | some fn => match fn.body with
      | some c => match rec (.code c) (enterA fn args stores) with
        | some (e, s) => if e = .ret ∨ e = .normal then match resultAll P s fn.results.toList with
            | some l => match settle s l with
              | some (s1, l1) => match outAll s1 [] l1 with
                | some vs => match s1.stores with
                  | [] => none
                  | _ :: r => some (r, oneOf vs)
                | none => none
              | none => none
            | none => none else none
        | none => none
      | none => none
    | none => none

/-- What came back goes into the slot. -/
def bindA (s : St) (d : Option Nat) (r : AV) : St :=
  match d with
  | none => s
  | some k => match r with
    | .tup vs => let p := inAll s (home k 0) vs; p.1.put (some k) (.tup p.2)
    | r => let p := inOne s k r; p.1.put (some k) p.2

def callOpA (rec : Rec) (s : St) (d : Option Nat) (f : FuncId) (args : List AV) : Option St :=
  if openA (E.lend f) 0 args then match lendAll s args with
    | some (s1, as) => match callA P E rec f as s1.stores with
      | some (t :: S, r) => some (bindA { s1 with stores := t :: S } d r)
      | _ => none
    | none => none
  else match resolveAll s args with
    | some (s1, as) => match callA P E rec f as [] with
      | some (_, r) => if r.shut then some (bindA (if r.hasSl then s1 else s) d r) else none
      | none => none
    | none => none

def stepOp (rec : Rec) (s : St) (o : Oper) : Option St :=
  match o.op with
  | .call c => match c.callee with
    | .value (.func f) => match evalOs s c.args.toList with
      | some as => callOpA P E rec s o.dst f as
      | none => none
    | _ => opA P s o
  | _ => opA P s o

/-- Which way a guard says. -/
def guardA (ops : Array Oper) (s : St) : Option (Nat × Bool) → Option Bool
  | none => some true
  | some (j, want) => match (ops[j]?).bind (·.dst) with
    | some t => match s.get t with
      | .x (.bool b) => some (b == want)
      | .und => some false
      | _ => none
    | none => none

def opsA (st : Oper → St → Option St) (ops : Array Oper) : List Nat → St → Option St
  | [], s => some s
  | i :: r, s => match ops[i]? with
    | none => opsA st ops r s
    | some o => match guardA ops s o.guard with
      | some true => match st o s with
        | some s1 => opsA st ops r s1
        | none => none
      | some false => opsA st ops r (s.put o.dst .und)
      | none => none

/-- What a call hands back, only read from now on. -/
def AV.unown : AV → AV
  | .own e xs => .sl e xs
  | a => a
def AV.unowns : AV → AV
  | .tup vs => .tup (vs.map AV.unown)
  | a => a.unown

/-- One operation of a region whose order is open: the slot apart, nothing changes. -/
def quietA (rec : Rec) (s : St) (o : Oper) : Option St :=
  match o.op with
  | .call c => match c.callee with
    | .value (.func f) => match evalOs s c.args.toList with
      | some as => match resolveAll s as with
        | some (_, bs) => match callA P E rec f bs [] with
          | some (_, r) => if r.shut ∧ (r.hasSl = false ∨ as.all AV.isVal = true) then some (s.put o.dst r.unowns) else none
          | none => none
        | none => none
      | none => none
    | .builtin .len | .builtin .min | .builtin .max | .builtin .real | .builtin .imag | .builtin .complex => opA P s o
    | _ => none
  | .move _ | .assign _ | .pick .. | .nilCheck _ | .build .. | .load .. | .fieldAddr .. | .indexAddr .. | .field .. | .index .. | .slice .. | .binOp .. | .unOp .. | .extract .. => opA P s o
  | .convert src dst x => match evalO s x with
    | some a => (convA P s src dst a).map fun v => s.put o.dst v
    | none => none
  | _ => none

/-- In a region whose order is open: what nothing else crosses may do what it likes. -/
def drawOp (rec : Rec) (s : St) (o : Oper) : Option St := if E.solo o then stepOp P E rec s o else quietA P E rec s o

/-- Regions whose order is open: only where 'ok' says that the order can't be told. -/
def stepT (rec : Rec) : Rec
  | .code .skip, s => some (.normal, s)
  | .code (.label _), s => some (.normal, s)
  | .code (.region _ ops false), s => match opsA (fun o s => stepOp P E rec s o) ops (List.range ops.size) s with
    | some s1 => some (.normal, s1)
    | none => none
  | .code (.region _ ops true), s => if E.ok ops then match opsA (fun o s => drawOp P E rec s o) ops (List.range ops.size) s with
    | some s1 => some (.normal, s1)
    | none => none else none
  | .code (.seq a b), s => match rec (.code a) s with
    | some (.normal, s1) => rec (.code b) s1
    | r => r
  | .code (.cond c a b), s => match evalO s c with
    | some (.x (.bool t)) => rec (.code (if t then a else b)) s
    | _ => none
  | .code (.block id c), s => match rec (.code c) s with
    | some (.exit i, s1) => if i = id then some (.normal, s1) else some (.exit i, s1)
    | r => r
  | .code (.loop c), s => match rec (.code c) s with
    | some (.normal, s1) => rec (.code (.loop c)) s1
    | r => r
  | .code (.exit id), s => some (.exit id, s)
  | .code (.goto l), s => some (.goto l, s)
  | .code .ret, s => some (.ret, s)
  | .code (.scope c), s => rec (.within c c) s
  | .within c rest, s => match rec (.code rest) s with
    | some (.goto l, s1) => match findLabel c l with
      | some rest1 => rec (.within c rest1) s1
      | none => some (.goto l, s1)
    | r => r
  | .code (.rangeFunc ..), _ => none
  | .code (.refuse _), _ => none

def runN : Nat → Rec
  | 0 => fun _ _ => none
  | n + 1 => stepT P E (runN n)

def runF (n : Nat) (f : FuncId) (args : List AV) : Option AV := (callA P E (runN P E n) f args []).map (·.2)
end
end Go.AbsM
