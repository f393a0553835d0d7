/-
  Texts of a proof over the translated program: proved evaluators and walks, part 4 of 20.
-/
import Derived.Test.YtcogajgikmcfpaaGreatDoorPartQ3
import Derived.WalkKit
set_option linter.unusedVariables false
set_option linter.unusedSimpArgs false
set_option linter.unusedSectionVars false
set_option linter.unnecessarySimpa false
section
namespace Go.AbsM
inductive AV where
  | x (v : Value)
  | str (l : List UInt8)
  | nils
  | cap0
  | sl (e : TypeId) (xs : List AV)
  | arr (i k : Nat) (e : TypeId) (lo n tot : Nat)
  | own (e : TypeId) (xs : List AV)
  | obj (cs : List AV)
  | agg (cs : List AV)
  | tup (vs : List AV)
  | ref (i k off : Nat)
  | efz (cs : List AV) (off : Nat)
  | ear (i k : Nat) (e : TypeId) (tot j off : Nat)
  | und
  | dead
  deriving Inhabited
abbrev AV.int (k : IntKind) (n : Int) : AV := .x (.int k n)
abbrev AV.bool (b : Bool) : AV := .x (.bool b)
def plain : Value → Bool
  | .bool _ | .int _ _ | .float _ _ | .complex _ _ _ | .pointer none | .nilIface | .nilFunc => true
  | .func (.func _) a b => a.isEmpty && b.isEmpty
  | _ => false
def constCell : Value → Option AV
  | .bool b => some (.x (.bool b))
  | .int k n => some (.x (.int k n))
  | .float k b => some (.x (.float k b))
  | .complex k a b => some (.x (.complex k a b))
  | .pointer none => some (.x (.pointer none))
  | .nilIface => some (.x .nilIface)
  | .nilFunc => some (.x .nilFunc)
  | .string s => some (.str s.data.toList)
  | .slice none 0 0 => some .nils
  | _ => none
def constCells : List Value → Option (List AV)
  | [] => some []
  | v :: r => match constCell v, constCells r with
    | some a, some l => some (a :: l)
    | _, _ => none
def constAV : Value → Option AV
  | .agg cs => (constCells cs.toList).map .agg
  | v => constCell v
def AV.cells : AV → List AV
  | .agg cs => cs
  | a => [a]
def AV.isCell : AV → Bool
  | .x _ | .str _ | .nils | .cap0 | .sl _ _ | .arr .. | .ref .. => true
  | _ => false
def AV.isVal : AV → Bool
  | .x _ | .str _ | .nils | .cap0 | .sl _ _ => true
  | _ => false
inductive Ob where
  | box (cs : List AV)
  | arr (fz : Bool) (e : TypeId) (xs : List AV)
  deriving Inhabited
def Ob.loose : Ob → Bool
  | .box _ => true
  | .arr fz _ _ => !fz
abbrev Store := List (Nat × Ob)
structure St where
  slots : List AV
  stores : List Store
  deriving Inhabited
def St.get (s : St) (t : Nat) : AV := s.slots.getD t .dead
def look : Store → Nat → Option Ob
  | [], _ => none
  | (k, o) :: r, n => if k = n then some o else look r n
def lay : Store → Nat → Ob → Store
  | [], _, _ => []
  | (k, o) :: r, n, p => if k = n then (k, p) :: r else (k, o) :: lay r n p
def drop : Store → Nat → Store
  | [], _ => []
  | (k, o) :: r, n => if k = n then drop r n else (k, o) :: drop r n
def getOb : List Store → Nat → Nat → Option Ob
  | [], _, _ => none
  | s :: _, 0, k => look s k
  | _ :: r, i + 1, k => getOb r i k
def setOb : List Store → Nat → Nat → Ob → List Store
  | [], _, _, _ => []
  | s :: r, 0, k, o => lay s k o :: r
  | s :: r, i + 1, k, o => s :: setOb r i k o
def AV.shift (n : Nat) : AV → AV
  | .arr i k e lo m tot => .arr (i + n) k e lo m tot
  | .ref i k off => .ref (i + n) k off
  | .ear i k e tot j off => .ear (i + n) k e tot j off
  | a => a
def AV.unshift (n : Nat) : AV → Option AV
  | .arr i k e lo m tot => if n ≤ i then some (.arr (i - n) k e lo m tot) else none
  | .ref i k off => if n ≤ i then some (.ref (i - n) k off) else none
  | .ear i k e tot j off => if n ≤ i then some (.ear (i - n) k e tot j off) else none
  | .dead => none
  | a => some a
def shiftCells (n : Nat) : AV → AV
  | .agg cs => .agg (cs.map (AV.shift n))
  | a => a.shift n
def AV.killCell (k : Nat) : AV → AV
  | .arr 0 j e lo m tot => if j = k then .dead else .arr 0 j e lo m tot
  | .ref 0 j off => if j = k then .dead else .ref 0 j off
  | .ear 0 j e tot m off => if j = k then .dead else .ear 0 j e tot m off
  | a => a
def AV.kill1 (k : Nat) : AV → AV
  | .agg cs => .agg (cs.map (AV.killCell k))
  | a => a.killCell k
def AV.kill (k : Nat) : AV → AV
  | .tup vs => .tup (vs.map (AV.kill1 k))
  | a => a.kill1 k
def Ob.kill (k : Nat) : Ob → Ob
  | .box cs => .box (cs.map (AV.killCell k))
  | o => o
def killStore (k : Nat) : Store → Store
  | [] => []
  | (j, o) :: r => (j, o.kill k) :: killStore k r
def St.create (s : St) (k : Nat) (o : Ob) : St :=
  { slots := s.slots.map (AV.kill k), stores := match s.stores with
    | [] => []
    | t :: r => ((k, o) :: drop (killStore k t) k) :: r }
def St.put (s : St) (d : Option Nat) (v : AV) : St :=
  match d with
  | some d => { s with slots := s.slots.set d v }
  | none => s
def St.elems (s : St) (i k lo n tot : Nat) : Option (List AV) :=
  match getOb s.stores i k with
  | some (.arr _ _ xs) => if xs.length = tot then some ((xs.drop lo).take n) else none
  | _ => none
def St.setFz (s : St) (i k : Nat) : St :=
  match getOb s.stores i k with
  | some (.arr _ e xs) => { s with stores := setOb s.stores i k (.arr true e xs) }
  | _ => s
def resolve1 (s : St) : AV → Option (St × AV)
  | .arr i k e lo n tot => match s.elems i k lo n tot with
    | some xs => some (s.setFz i k, .sl e xs)
    | none => none
  | .x v => some (s, .x v)
  | .str l => some (s, .str l)
  | .nils => some (s, .nils)
  | .cap0 => some (s, .cap0)
  | .sl e xs => some (s, .sl e xs)
  | _ => none
def resolveL (s : St) : List AV → Option (St × List AV)
  | [] => some (s, [])
  | a :: r => match resolve1 s a with
    | some (s1, b) => match resolveL s1 r with
      | some (s2, l) => some (s2, b :: l)
      | none => none
    | none => none
def resolve (s : St) : AV → Option (St × AV)
  | .agg cs => match resolveL s cs with
    | some (s1, l) => some (s1, .agg l)
    | none => none
  | a => resolve1 s a
def resolveAll (s : St) : List AV → Option (St × List AV)
  | [] => some (s, [])
  | a :: r => match resolve s a with
    | some (s1, b) => match resolveAll s1 r with
      | some (s2, l) => some (s2, b :: l)
      | none => none
    | none => none
def home (k off : Nat) : Nat := 100000 + 100 * k + off
section
variable (P : Program)
def sizeT (t : TypeId) : Option Nat := (P.info? t).map (·.size)
def bytesT (t : TypeId) : Option Nat := (P.info? t).map (·.bytes)
def zeroT (t : TypeId) : Option AV := ((P.info? t).bind (·.zero)).bind constAV
def aggT (t : TypeId) : Option Bool := match P.underlying t with
  | some (.struct _) => some true
  | some (.array _ _) => some true
  | some _ => some false
  | none => none
def elemT (t : TypeId) : Option TypeId := match P.underlying t with
  | some (.slice e) => some e
  | _ => none
def evalO (s : St) : Operand → Option AV
  | .tmp t => some (s.get t)
  | .const v => constAV v
  | .func f => some (.x (.func (.func f) #[] #[]))
  | _ => none
def funcOf : AV → Option FuncId
  | .x (.func (.func f) _ _) => some f
  | _ => none
def calleeA (s : St) : Callee → Option FuncId
  | .value (.func f) => some f
  | .value (.tmp t) => funcOf (s.get t)
  | _ => none
def partA (t : TypeId) (cs : List AV) (off : Nat) : Option AV :=
  match sizeT P t, aggT P t with
  | some n, some true => if off + n ≤ cs.length then some (.agg ((cs.drop off).take n)) else none
  | some _, some false => cs[off]?
  | _, _ => none
def layA (cs : List AV) (off : Nat) (ds : List AV) : Option (List AV) :=
  if off + ds.length ≤ cs.length then some (cs.take off ++ (ds ++ cs.drop (off + ds.length))) else none
def fillA (place : Nat → Option (Nat × Nat)) (cells : List AV) : List (Nat × AV) → Option (List AV)
  | [] => some cells
  | (i, v) :: rest =>
    match place i with
    | none => none
    | some (off, size) =>
      if v.cells.length = size ∧ v.cells.all AV.isCell then
        match layA cells off v.cells with
        | some cells' => fillA place cells' rest
        | none => none
      else none
def chunksA (agg : Bool) (es : Nat) : Nat → List AV → Option (List AV)
  | 0, _ => some []
  | n + 1, cs => match chunksA agg es n (cs.drop es) with
    | some r => if agg then some (.agg (cs.take es) :: r) else if es = 1 then match cs.head? with
      | some c => some (c :: r)
      | none => none else none
    | none => none
def eqFs (eq : TypeId → AV → AV → Option Bool) : List Field → List AV → List AV → Option Bool
  | [], _, _ => some true
  | f :: r, xs, ys =>
    if f.name = "_" then eqFs eq r xs ys else
    match partA P f.type xs f.offset, partA P f.type ys f.offset with
    | some a, some b => match eq f.type a b with
      | some true => eqFs eq r xs ys
      | some false => some false
      | none => none
    | _, _ => none
def eqIn : Nat → TypeId → AV → AV → Option Bool
  | 0 => fun _ _ _ => none
  | d + 1 => fun t x y =>
    match P.underlying t, x, y with
    | some .bool, .x (.bool a), .x (.bool b) => some (a == b)
    | some (.int _), .x (.int k a), .x (.int k' b) => if k = k' then some (a == b) else none
    | some (.float _), .x (.float k a), .x (.float k' b) => if k = k' then some (Op.floatEq k a b) else none
    | some (.complex _), .x (.complex k a b), .x (.complex k' a' b') => if k = k' then some (Op.floatEq k a a' && Op.floatEq k b b') else none
    | some .string, .str a, .str b => some (a == b)
    | some (.struct fields), .agg xs, .agg ys =>
      if P.stoodInHeld t then none else eqFs P (fun t x y => eqIn d t x y) fields.toList xs ys
    | _, _, _ => none
def intBin (op : BinOp) (k : IntKind) (a b : Int) : Option AV :=
  match op with
  | .add => some (.int k (k.wrap (a + b)))
  | .sub => some (.int k (k.wrap (a - b)))
  | .mul => some (.int k (k.wrap (a * b)))
  | .quo => if b = 0 then none else some (.int k (k.wrap (a.tdiv b)))
  | .rem => if b = 0 then none else some (.int k (a.tmod b))
  | .and => some (.int k (k.wrap (BitVec.ofInt k.bits a &&& BitVec.ofInt k.bits b).toNat))
  | .or => some (.int k (k.wrap (BitVec.ofInt k.bits a ||| BitVec.ofInt k.bits b).toNat))
  | .xor => some (.int k (k.wrap (BitVec.ofInt k.bits a ^^^ BitVec.ofInt k.bits b).toNat))
  | .andNot => some (.int k (k.wrap (BitVec.ofInt k.bits a &&& ~~~BitVec.ofInt k.bits b).toNat))
  | .eql => some (.bool (a == b))
  | .neq => some (.bool (a != b))
  | .lss => some (.bool (decide (a < b)))
  | .leq => some (.bool (decide (a ≤ b)))
  | .gtr => some (.bool (decide (a > b)))
  | .geq => some (.bool (decide (a ≥ b)))
  | _ => none
def floatArithA (op : BinOp) (k : FloatKind) (a b : Nat) : Option Nat :=
  match op with
  | .add => k.format.add a b
  | .sub => k.format.sub a b
  | .mul => k.format.mul a b
  | .quo => k.format.div a b
  | _ => none
def floatBin (op : BinOp) (k : FloatKind) (a b : Nat) : Option AV :=
  let c := k.format.order a b
  match op with
  | .add | .sub | .mul | .quo => (floatArithA op k a b).map fun r => .x (.float k r)
  | .eql => some (.bool (c == some .eq))
  | .neq => some (.bool (c != some .eq))
  | .lss => some (.bool (c == some .lt))
  | .leq => some (.bool (c == some .lt || c == some .eq))
  | .gtr => some (.bool (c == some .gt))
  | .geq => some (.bool (c == some .gt || c == some .eq))
  | _ => none
def complexBin (op : BinOp) (k : FloatKind) (xr xi yr yi : Nat) : Option AV :=
  match op with
  | .add | .sub => match floatArithA op k xr yr, floatArithA op k xi yi with
    | some a, some b => some (.x (.complex k a b))
    | _, _ => none
  | .mul => if k = .f64 then
      match floatArithA .mul k xr yr, floatArithA .mul k xi yi, floatArithA .mul k xr yi, floatArithA .mul k xi yr with
      | some ac, some bd, some ad, some bc => match floatArithA .sub k ac bd, floatArithA .add k ad bc with
        | some a, some b => some (.x (.complex k a b))
        | _, _ => none
      | _, _, _, _ => none
    else none
  | .eql => some (.bool ((k.format.order xr yr == some .eq) && (k.format.order xi yi == some .eq)))
  | .neq => some (.bool !((k.format.order xr yr == some .eq) && (k.format.order xi yi == some .eq)))
  | _ => none
def strBin (op : BinOp) (a b : List UInt8) : Option AV :=
  match op with
  | .add => if a.length + b.length ≤ 9223372036854775807 then some (.str (a ++ b)) else none
  | .eql => some (.bool (a == b))
  | .neq => some (.bool !(a == b))
  | .lss => some (.bool (Op.bytesLess a b))
  | .leq => some (.bool (Op.bytesLess a b || a == b))
  | .gtr => some (.bool !(Op.bytesLess a b || a == b))
  | .geq => some (.bool !(Op.bytesLess a b))
  | _ => none
def shiftA (op : BinOp) (k : IntKind) (a b : Int) : Option AV :=
  if b < 0 then none else
  match op with
  | .shl => some (.int k (k.wrap (a * 2 ^ (min b.toNat k.bits))))
  | .shr => some (.int k (a.fdiv (2 ^ (min b.toNat k.bits))))
  | _ => none
def isNilA (s : St) : AV → Option Bool
  | .nils => some true
  | .sl _ (_ :: _) => some false
  | .arr i k _ lo (n + 1) tot => match s.elems i k lo (n + 1) tot with
    | some _ => some false
    | none => none
  | _ => none
def isNilT (s : St) (t : TypeId) (a : AV) : Option Bool :=
  match P.underlying t with
  | some (.slice _) => isNilA s a
  | some (.pointer _) => match a with
    | .ref _ _ _ => some false
    | .x (.pointer none) => some true
    | _ => none
  | _ => none
def binA (s : St) (op : BinOp) (t : TypeId) (x y : AV) : Option AV :=
  match y with
  | .nils => match P.underlying t with
    | some (.slice _) => match op with
      | .eql => (isNilT P s t x).map .bool
      | .neq => (isNilT P s t x).map fun b => .bool !b
      | _ => none
    | _ => none
  | .x (.pointer none) => match P.underlying t with
    | some (.pointer _) => match op with
      | .eql => (isNilT P s t x).map .bool
      | .neq => (isNilT P s t x).map fun b => .bool !b
      | _ => none
    | _ => none
  | .x (.int k' b) => match x with
    | .x (.int k a) => match op with
      | .shl => shiftA .shl k a b
      | .shr => shiftA .shr k a b
      | op => if k = k' then intBin op k a b else none
    | _ => none
  | .x (.float k' b) => match x with
    | .x (.float k a) => if k = k' then floatBin op k a b else none
    | _ => none
  | .x (.complex k' c d) => match x with
    | .x (.complex k a b) => if k = k' then complexBin op k a b c d else none
    | _ => none
  | .str b => match x with
    | .str a => strBin op a b
    | _ => none
  | .x (.bool b) => match x with
    | .x (.bool a) => match P.underlying t with
      | some .bool => match op with
        | .eql => some (.bool (a == b))
        | .neq => some (.bool (!(a == b)))
        | _ => none
      | _ => none
    | _ => none
  | .agg b => match x with
    | .agg a => if P.eqGuardType P.depth t then none else match op with
      | .eql => (eqIn P 10000 t (.agg a) (.agg b)).map .bool
      | .neq => (eqIn P 10000 t (.agg a) (.agg b)).map fun b => .bool !b
      | _ => none
    | _ => none
  | _ => none
def unA (op : UnOp) : AV → Option AV
  | .x (.int k n) => match op with
    | .neg => some (.int k (k.wrap (0 - n)))
    | .xor => some (.int k (k.wrap (BitVec.ofInt k.bits (if k.signed then -1 else k.max) ^^^ BitVec.ofInt k.bits n).toNat))
    | _ => none
  | .x (.float k b) => match op with | .neg => some (.x (.float k (Op.negFloat k b))) | _ => none
  | .x (.complex k a b) => match op with | .neg => some (.x (.complex k (Op.negFloat k a) (Op.negFloat k b))) | _ => none
  | .x (.bool b) => match op with | .not => some (.bool !b) | _ => none
  | _ => none
def bytesOfAVs : List AV → Option (List UInt8)
  | [] => some []
  | .x (.int .u8 n) :: r => match bytesOfAVs r with
    | some l => some (UInt8.ofNat n.toNat :: l)
    | none => none
  | _ => none
def avsOfBytes (l : List UInt8) : List AV := l.map fun b => .int .u8 b.toNat
def St.src (s : St) (e : TypeId) : AV → Option (List AV)
  | .str l => if P.cellsOf e = 1 then some (avsOfBytes l) else none
  | .nils => some []
  | .cap0 => some []
  | .sl e' xs => if e' = e then some xs else none
  | .arr i k e' lo n tot => if e' = e then s.elems i k lo n tot else none
  | _ => none
def convA (s : St) (src dst : TypeId) (a : AV) : Option AV :=
  match a with
  | .x (.int _ n) => match P.underlying src, P.underlying dst with
    | some _, some (.int k) => some (.int k (k.wrap n))
    | some _, some (.float k) => some (.x (.float k (k.nearest n)))
    | _, _ => none
  | .x (.float s b) => match P.underlying src, P.underlying dst with
    | some _, some (.int k) => match (s.decode b).toInt .zero with
      | some n => if k.min ≤ n ∧ n ≤ k.max then some (.int k n) else none
      | none => none
    | some _, some (.float k) => if s = k then some (.x (.float k b)) else none
    | _, _ => none
  | .str l => match P.underlying src, P.underlying dst with
    | some _, some .string => some (.str l)
    | _, _ => none
  | a => match P.underlying src, P.underlying dst with
    | some (.slice e), some .string => match P.underlying e, s.src P e a with
      | some (.int .u8), some xs => (bytesOfAVs xs).map .str
      | _, _ => none
    | _, _ => none
def boundA (s : St) (dflt most : Nat) : Option Operand → Option Nat
  | none => some dflt
  | some o => match evalO s o with
    | some (.x (.int _ i)) => if 0 ≤ i ∧ i ≤ most then some i.toNat else none
    | _ => none
def partsA (s : St) : List (Nat × Operand) → Option (List (Nat × AV))
  | [] => some []
  | (i, o) :: r => match evalO s o, partsA s r with
    | some a, some l => some ((i, a) :: l)
    | _, _ => none
def evalOs (s : St) : List Operand → Option (List AV)
  | [] => some []
  | o :: r => match evalO s o, evalOs s r with
    | some a, some l => some (a :: l)
    | _, _ => none
def St.fresh (s : St) (d : Option Nat) (e : TypeId) (xs : List AV) : Option St :=
  match d with
  | some k => if k < 500000 then some ((s.create k (.arr false e xs)).put (some k) (.arr 0 k e 0 xs.length xs.length)) else none
  | none => none
def appendA (s : St) (d : Option Nat) (t : TypeId) (a b : AV) : Option St :=
  match elemT P t with
  | none => none
  | some e => match sizeT P e, bytesT P e, s.src P e b, zeroT P e with
    | some es, some by_, some news, some z =>
      if es = 0 ∨ by_ = 0 ∨ z.cells.length ≠ es then none else
      match a with
      | .nils => match news with
        | [] => some (s.put d .nils)
        | y :: ys => if (y :: ys).length * by_ ≤ 140737488355328 then s.fresh d e (y :: ys) else none
      | .cap0 => match news with
        | [] => some (s.put d .cap0)
        | y :: ys => if (y :: ys).length * by_ ≤ 140737488355328 then s.fresh d e (y :: ys) else none
      | .arr i k e' lo n tot => match getOb s.stores i k with
        | some (.arr false e2 xs) =>
          if e' = e ∧ e2 = e ∧ lo = 0 ∧ n = tot ∧ xs.length = tot ∧ (xs.length + news.length) * by_ ≤ 140737488355328 then
            some (St.put { s with stores := setOb s.stores i k (.arr false e (xs ++ news)) } d (.arr i k e 0 (xs.length + news.length) (xs.length + news.length)))
          else none
        | _ => none
      | _ => none
    | _, _, _, _ => none
def sinkCell (s : St) (i : Nat) (a : AV) : Option (St × AV) :=
  match a with
  | .arr j k e lo n tot => if i + 1 ≤ j then some (s, .arr (j - (i + 1)) k e lo n tot) else resolve1 s (.arr j k e lo n tot)
  | .ref j k off => if i + 1 ≤ j then some (s, .ref (j - (i + 1)) k off) else none
  | a => resolve1 s a
def sinkCells (s : St) (i : Nat) : List AV → Option (St × List AV)
  | [] => some (s, [])
  | a :: r => match sinkCell s i a with
    | some (s1, b) => match sinkCells s1 i r with
      | some (s2, l) => some (s2, b :: l)
      | none => none
    | none => none
def storeA (s : St) (d : Option Nat) (t : TypeId) (p v : AV) : Option St :=
  match sizeT P t with
  | none => none
  | some n =>
    if v.cells.length = n ∧ v.cells.all AV.isCell then
      match p with
      | .ref 0 k off => match getOb s.stores 0 k with
        | some (.box cs) => match layA cs off v.cells with
          | some ds => some (St.put { s with stores := setOb s.stores 0 k (.box ds) } d .und)
          | none => none
        | _ => none
      | .ref (i + 1) k off => match sinkCells s i v.cells with
        | some (s1, vs) => match getOb s1.stores (i + 1) k with
          | some (.box cs) => match layA cs off vs with
            | some ds => some (St.put { s1 with stores := setOb s1.stores (i + 1) k (.box ds) } d .und)
            | none => none
          | _ => none
        | none => none
      | .ear i k e tot j off => match resolveL s v.cells with
        | some (s1, vs) => match getOb s1.stores i k with
          | some (.arr false e' xs) => if xs.length = tot ∧ e' = e then match xs[j]? with
              | some y => match layA y.cells off vs, aggT P e with
                | some ds, some true => some (St.put { s1 with stores := setOb s1.stores i k (.arr false e (xs.set j (.agg ds))) } d .und)
                | some [c], some false => some (St.put { s1 with stores := setOb s1.stores i k (.arr false e (xs.set j c)) } d .und)
                | _, _ => none
              | none => none else none
          | _ => none
        | none => none
      | _ => none
    else none
def loadA (s : St) (t : TypeId) (p : AV) : Option AV :=
  match p with
  | .ref i k off => match getOb s.stores i k with
    | some (.box cs) => (partA P t cs off).map (shiftCells i)
    | _ => none
  | .efz cs off => partA P t cs off
  | .ear i k _ tot j off => match getOb s.stores i k with
    | some (.arr _ _ xs) => if xs.length = tot then match xs[j]? with
        | some y => partA P t y.cells off
        | none => none else none
    | _ => none
  | _ => none
def St.fwd (s : St) (n : Nat) : AV → Option AV
  | .ref i k off => some (.ref i k (off + n))
  | .efz cs off => some (.efz cs (off + n))
  | .ear i k e tot j off => match getOb s.stores i k with
    | some (.arr _ _ xs) => if xs.length = tot then some (.ear i k e tot j (off + n)) else none
    | _ => none
  | _ => none
def indexAddrA (s : St) (t : TypeId) (p : AV) (i : Int) : Option AV :=
  match P.underlying t with
  | some (.slice e) => if 0 ≤ i then match p with
      | .sl e' xs => if e' = e then match xs[i.toNat]? with
          | some a => some (.efz a.cells 0)
          | none => none else none
      | .arr j k e' lo n tot => if e' = e ∧ i < n then match s.elems j k lo n tot with
          | some _ => some (.ear j k e tot (lo + i.toNat) 0)
          | none => none else none
      | _ => none else none
  | some (.array len e) => match sizeT P e with
    | some n => if 0 ≤ i ∧ i < len then s.fwd (i.toNat * n) p else none
    | none => none
  | _ => none
def sliceA (s : St) (t : TypeId) (a : AV) (lo hi mx : Option Operand) : Option AV :=
  match P.underlying t with
  | some .string => match a, mx with
    | .str l, none => match boundA s l.length l.length hi with
      | some h => match boundA s 0 h lo with
        | some b => some (.str ((l.take h).drop b))
        | none => none
      | none => none
    | _, _ => none
  | some (.slice e) => match sizeT P e with
    | none => none
    | some _ => match mx, hi with
      | none, hi => match a with
        | .sl e' xs => if e' = e then match boundA s xs.length xs.length hi with
          | some h => match boundA s 0 h lo with
            | some b => some (.sl e' ((xs.take h).drop b))
            | none => none
          | none => none else none
        | .arr i k e' lo' n tot => if e' = e then match s.elems i k lo' n tot, boundA s n n hi with
          | some _, some h => match boundA s 0 h lo with
            | some b => some (.arr i k e' (lo' + b) (h - b) tot)
            | none => none
          | _, _ => none else none
        | .nils => match boundA s 0 0 hi with
          | some h => match boundA s 0 h lo with
            | some _ => some .nils
            | none => none
          | none => none
        | .cap0 => match boundA s 0 0 hi with
          | some h => match boundA s 0 h lo with
            | some _ => some .cap0
            | none => none
          | none => none
        | _ => none
      | some m, some o1 => match a with
        | .nils => match boundA s 0 0 (some m) with
          | some m' => match boundA s 0 m' (some o1) with
            | some h => match boundA s 0 h lo with
              | some _ => some .nils
              | none => none
            | none => none
          | none => none
        | .cap0 => match boundA s 0 0 (some m) with
          | some m' => match boundA s 0 m' (some o1) with
            | some h => match boundA s 0 h lo with
              | some _ => some .cap0
              | none => none
            | none => none
          | none => none
        | .sl e' xs => if e' = e then match boundA s 0 xs.length (some m) with
          | some m' => match boundA s 0 m' (some o1) with
            | some h => match boundA s 0 h lo with
              | some b => match m' with
                | 0 => some .cap0
                | _ + 1 => some (.sl e' ((xs.take h).drop b))
              | none => none
            | none => none
          | none => none else none
        | .arr i k e' lo' n tot => if e' = e then match s.elems i k lo' n tot, boundA s 0 n (some m) with
          | some _, some m' => match boundA s 0 m' (some o1) with
            | some h => match boundA s 0 h lo with
              | some b => match m' with
                | 0 => some .cap0
                | _ + 1 => some (.arr i k e' (lo' + b) (h - b) tot)
              | none => none
            | none => none
          | _, _ => none else none
        | _ => none
      | some _, none => none
  | _ => none
def lenOfA (s : St) (t : TypeId) (a : AV) : Option Nat :=
  match P.underlying t with
  | some .string => match a with
    | .str l => some l.length
    | _ => none
  | some (.slice _) => match a with
    | .nils | .cap0 => some 0
    | .sl _ xs => some xs.length
    | .arr i k _ lo n tot => match s.elems i k lo n tot with
      | some _ => some n
      | none => none
    | _ => none
  | some (.array n _) => some n
  | some (.pointer arr) => match P.underlying arr with
    | some (.array n _) => some n
    | _ => none
  | _ => none
def copyA (s : St) (d : Option Nat) (t : TypeId) (a b : AV) : Option St :=
  match elemT P t with
  | none => none
  | some e => match sizeT P e, s.src P e b with
    | some _, some ys => match a with
      | .arr i k e' lo n tot => match getOb s.stores i k with
        | some (.arr false e2 xs) => if e' = e ∧ e2 = e ∧ xs.length = tot ∧ lo + n ≤ tot then
            some (St.put { s with stores := setOb s.stores i k (.arr false e (xs.take lo ++ (ys.take (min ys.length n) ++ xs.drop (lo + min ys.length n)))) } d (.int .i64 (min ys.length n : Nat)))
          else none
        | _ => none
      | .nils => some (s.put d (.int .i64 0))
      | .cap0 => some (s.put d (.int .i64 0))
      | .sl _ xs => if min ys.length xs.length = 0 then some (s.put d (.int .i64 0)) else none
      | _ => none
    | _, _ => none
def clearA (s : St) (d : Option Nat) (t : TypeId) (a : AV) : Option St :=
  match elemT P t with
  | none => none
  | some e => match a with
    | .nils => some (s.put d .und)
    | .cap0 => some (s.put d .und)
    | .arr i k e' lo n tot => match zeroT P e, sizeT P e, getOb s.stores i k with
      | some z, some es, some (.arr false e2 xs) =>
        if e' = e ∧ e2 = e ∧ xs.length = tot ∧ lo + n ≤ tot ∧ z.cells.length = es ∧ 0 < n then
          some (St.put { s with stores := setOb s.stores i k (.arr false e (xs.take lo ++ (List.replicate n z ++ xs.drop (lo + n)))) } d .und)
        else none
      | _, _, _ => none
    | _ => none
def minF (k : FloatKind) (a b : Nat) : Option Nat := match k.format.order a b with
  | some .lt => some a
  | some .gt => some b
  | some .eq => some (if (k.decode a).neg then a else b)
  | none => none
def maxF (k : FloatKind) (a b : Nat) : Option Nat := match k.format.order a b with
  | some .lt => some b
  | some .gt => some a
  | some .eq => some (if (k.decode a).neg then b else a)
  | none => none
def builtinA (s : St) (d : Option Nat) (b : Builtin) (ts : List TypeId) (as : List AV) : Option St :=
  match b with
  | .len => match as, ts with
    | [a], t :: _ => (lenOfA P s t a).map fun n => s.put d (.int .i64 n)
    | _, _ => none
  | .append => match as, ts with
    | [a, b], [t, t2] => match P.underlying t2 with
      | some (.slice _) | some .string => appendA P s d t a b
      | _ => none
    | _, _ => none
  | .copy => match as, ts with
    | [a, b], t :: _ => copyA P s d t a b
    | _, _ => none
  | .clear => match as, ts with
    | [a], t :: _ => clearA P s d t a
    | _, _ => none
  | .real => match as with
    | [.x (.complex k a _)] => some (s.put d (.x (.float k a)))
    | _ => none
  | .imag => match as with
    | [.x (.complex k _ b)] => some (s.put d (.x (.float k b)))
    | _ => none
  | .complex => match as with
    | [.x (.float k a), .x (.float k' b)] => if k = k' then some (s.put d (.x (.complex k a b))) else none
    | _ => none
  | .min => match as with
    | [.x (.int k a), .x (.int _ b)] => some (s.put d (.int k (if b < a then b else a)))
    | [.x (.float k a), .x (.float _ b)] => (minF k a b).map fun r => s.put d (.x (.float k r))
    | _ => none
  | .max => match as with
    | [.x (.int k a), .x (.int _ b)] => some (s.put d (.int k (if b > a then b else a)))
    | [.x (.float k a), .x (.float _ b)] => (maxF k a b).map fun r => s.put d (.x (.float k r))
    | _ => none
  | _ => none
def boxA (s : St) (d : Option Nat) (e : TypeId) (a : AV) : Option St :=
  match d, sizeT P e with
  | some k, some n => if (a.cells.length = n ∧ a.cells.all AV.isCell) ∧ k < 500000 then
      some (((s.create k (.box (a.cells.map (AV.killCell k)))).put (some k) (.ref 0 k 0))) else none
  | _, _ => none
def placesT : List Field → Option (List (Nat × Nat))
  | [] => some []
  | f :: r => match sizeT P f.type, placesT r with
    | some n, some l => some ((f.offset, n) :: l)
    | _, _ => none
def buildA (s : St) (d : Option Nat) (t : TypeId) (l : List (Nat × AV)) : Option St :=
  match zeroT P t, P.underlying t with
  | some z, some (.struct fields) => match placesT P fields.toList with
    | some places => match fillA (places[·]?) z.cells l with
      | some cs => some (s.put d (.agg cs))
      | none => none
    | none => none
  | some z, some (.array _ e) => match sizeT P e with
    | some n => match fillA (fun i => some (i * n, n)) z.cells l with
      | some cs => some (s.put d (.agg cs))
      | none => none
    | none => none
  | _, _ => none
def buildSliceA (s : St) (d : Option Nat) (t : TypeId) (len : Nat) (l : List (Nat × AV)) : Option St :=
  match elemT P t, resolveAll s (l.map (·.2)) with
  | some e, some (s1, vs) => match sizeT P e, zeroT P e with
    | some n, some z => if n = 0 ∨ len * n > 16777216 ∨ z.cells.length ≠ n then none else
      match fillA (fun i => some (i * n, n)) ((List.replicate len z.cells).flatten) ((l.map (·.1)).zip vs) with
      | some cs => if cs.all AV.isVal then match (aggT P e).bind fun b => chunksA b n len cs with
          | some xs => s1.fresh d e xs
          | none => none else none
      | none => none
    | _, _ => none
  | _, _ => none
def makeA (s : St) (d : Option Nat) (t : TypeId) (l c : Int) : Option St :=
  match elemT P t with
  | none => none
  | some e => match sizeT P e, bytesT P e, zeroT P e with
    | some n, some by_, some z => if 0 ≤ l ∧ l ≤ c ∧ c ≤ 9223372036854775807 ∧ by_ * c ≤ 281474976710656 ∧ 0 < n ∧ z.cells.length = n ∧ z.cells.all AV.isVal then
        s.fresh d e (List.replicate l.toNat z) else none
    | _, _, _ => none
def makeO (t : TypeId) (l c : Int) : Option (TypeId × List AV) :=
  match elemT P t with
  | none => none
  | some e => match sizeT P e, bytesT P e, zeroT P e with
    | some n, some by_, some z => if 0 ≤ l ∧ l ≤ c ∧ c ≤ 9223372036854775807 ∧ by_ * c ≤ 281474976710656 ∧ 0 < n ∧ z.cells.length = n ∧ z.cells.all AV.isVal then
        some (e, List.replicate l.toNat z) else none
    | _, _, _ => none
def buildSliceO (s : St) (t : TypeId) (len : Nat) (l : List (Nat × AV)) : Option (St × TypeId × List AV) :=
  match elemT P t, resolveAll s (l.map (·.2)) with
  | some e, some (s1, vs) => match sizeT P e, zeroT P e with
    | some n, some z => if n = 0 ∨ len * n > 16777216 ∨ z.cells.length ≠ n then none else
      match fillA (fun i => some (i * n, n)) ((List.replicate len z.cells).flatten) ((l.map (·.1)).zip vs) with
      | some cs => if cs.all AV.isVal then match (aggT P e).bind fun b => chunksA b n len cs with
          | some xs => some (s1, e, xs)
          | none => none else none
      | none => none
    | _, _ => none
  | _, _ => none
def convertA (s : St) (d : Option Nat) (src dst : TypeId) (a : AV) : Option St :=
  match convA P s src dst a with
  | some v => some (s.put d v)
  | none => match P.underlying src, P.underlying dst with
    | some .string, some (.slice e) => match a, P.underlying e with
      | .str l, some (.int .u8) => if l.length ≤ 9223372036854775807 ∧ P.cellsOf e = 1 then some (s.put d (.sl e (avsOfBytes l))) else none
      | _, _ => none
    | some (.slice _), some (.slice e) => if src = dst then match P.underlying e, a with
        | some (.int .u8), .arr i k e' lo (n + 1) tot => match getOb s.stores i k, s.elems i k lo (n + 1) tot with
          | some (.arr false _ _), some xs => some ((s.setFz i k).put d (.sl e' xs))
          | _, _ => none
        | _, _ => none else none
    | _, _ => none
def nilA (s : St) : AV → Bool
  | .ref _ _ _ => true
  | .efz _ _ => true
  | .ear i k _ tot _ _ => match getOb s.stores i k with
    | some (.arr _ _ xs) => xs.length == tot
    | _ => false
  | _ => false
def opA (s : St) (o : Oper) : Option St :=
  match o.op with
  | .move x => (evalO s x).map fun a => s.put o.dst a
  | .assign x => (evalO s x).map fun a => s.put o.dst a
  | .pick c a b => match evalO s c with
    | some (.x (.bool t)) => (if t then evalO s a else evalO s b).map fun v => s.put o.dst v
    | _ => none
  | .nilCheck x => match evalO s x with
    | some a => if nilA s a then some (s.put o.dst a) else none
    | none => none
  | .alloc e => match zeroT P e with
    | some z => boxA P s o.dst e z
    | none => none
  | .box e x => match evalO s x with
    | some a => boxA P s o.dst e a
    | none => none
  | .build t ps => match partsA s ps.toList with
    | some l => buildA P s o.dst t l
    | none => none
  | .buildSlice t len ps => match partsA s ps.toList with
    | some l => buildSliceA P s o.dst t len l
    | none => none
  | .makeSlice t lo co => match evalO s lo, evalO s co with
    | some (.x (.int _ l)), some (.x (.int _ c)) => makeA P s o.dst t l c
    | _, _ => none
  | .load t x => match evalO s x with
    | some p => (loadA P s t p).map fun a => s.put o.dst a
    | none => none
  | .store t x y => match evalO s x, evalO s y with
    | some p, some v => storeA P s o.dst t p v
    | _, _ => none
  | .fieldAddr t x f => match P.underlying t, evalO s x with
    | some (.struct fields), some p => match fields[f]? with
      | some fd => match sizeT P fd.type with
        | some (_ + 1) => (s.fwd fd.offset p).map fun a => s.put o.dst a
        | _ => none
      | none => none
    | _, _ => none
  | .indexAddr t x y => match evalO s x, evalO s y with
    | some p, some (.x (.int _ i)) => (indexAddrA P s t p i).map fun a => s.put o.dst a
    | _, _ => none
  | .field t x f => match P.underlying t, evalO s x with
    | some (.struct fields), some (.agg cs) => match fields[f]? with
      | some fd => (partA P fd.type cs fd.offset).map fun a => s.put o.dst a
      | none => none
    | _, _ => none
  | .index t x y => match evalO s x, evalO s y with
    | some a, some (.x (.int _ i)) => match P.underlying t with
      | some (.array len e) => match a, sizeT P e with
        | .agg cs, some n => if 0 ≤ i ∧ i < len then (partA P e cs (i.toNat * n)).map fun a => s.put o.dst a else none
        | _, _ => none
      | some .string => match a with
        | .str l => if 0 ≤ i then match l[i.toNat]? with
          | some b => some (s.put o.dst (.int .u8 b.toNat))
          | none => none else none
        | _ => none
      | _ => none
    | _, _ => none
  | .slice t x lo hi mx => match evalO s x with
    | some a => (sliceA P s t a lo hi mx).map fun v => s.put o.dst v
    | none => none
  | .binOp op t x y _ => match evalO s x, evalO s y with
    | some a, some b => (binA P s op t a b).map fun v => s.put o.dst v
    | _, _ => none
  | .unOp op _ x => match evalO s x with
    | some a => (unA op a).map fun v => s.put o.dst v
    | none => none
  | .convert src dst x => match evalO s x with
    | some a => convertA P s o.dst src dst a
    | none => none
  | .extract x i => match evalO s x with
    | some (.tup vs) => (vs[i]?).map fun a => s.put o.dst a
    | _ => none
  | .call c => match c.callee with
    | .builtin b => match evalOs s c.args.toList with
      | some as => builtinA P s o.dst b c.argTypes.toList as
      | none => none
    | _ => none
  | _ => none
inductive AExit where
  | normal
  | exit (id : Nat)
  | goto (l : Nat)
  | ret
  deriving DecidableEq, Inhabited
inductive Task where
  | code (c : Code)
  | within (c rest : Code)
abbrev Rec := Task → St → Option (AExit × St)
def resultOne (s : St) : ResultVar → Option AV
  | .tmp t => some (s.get t)
  | .cell a t => loadA P s t (s.get a)
def resultAll (s : St) : List ResultVar → Option (List AV)
  | [] => some []
  | r :: l => match resultOne P s r, resultAll s l with
    | some a, some b => some (a :: b)
    | _, _ => none
def objE : Nat := 999999999
def wholeA (s : St) (k : Nat) (e : TypeId) (lo n tot : Nat) : Bool :=
  match getOb s.stores 0 k with
  | some (.arr fz e' xs) => !fz && xs.length == tot && e' == e && lo == 0 && n == tot
  | _ => false
def outOne (s : St) (used : List Nat) (a : AV) : Option (List Nat × AV) :=
  match a with
  | .arr 0 k e lo n tot => if (wholeA s k e lo n tot ∧ used.contains k = false) ∧ Nat.beq e objE = false then match getOb s.stores 0 k with
    | some (.arr _ _ xs) => some (k :: used, .own e xs)
    | _ => none else none
  | .ref 0 k 0 => match getOb s.stores 0 k with
    | some (.box cs) => if cs.all AV.isVal = true ∧ used.contains k = false then some (k :: used, .own objE [.agg cs]) else none
    | _ => none
  | .arr (i + 1) k e lo n tot => some (used, .arr i k e lo n tot)
  | .ref (i + 1) k off => some (used, .ref i k off)
  | .x v => some (used, .x v)
  | .str l => some (used, .str l)
  | .nils => some (used, .nils)
  | .cap0 => some (used, .cap0)
  | .sl e xs => some (used, .sl e xs)
  | .agg cs => if cs.all AV.isVal then some (used, .agg cs) else none
  | _ => none
def outAll (s : St) (used : List Nat) : List AV → Option (List AV)
  | [] => some []
  | a :: r => match outOne s used a with
    | some (u1, b) => match outAll s u1 r with
      | some l => some (b :: l)
      | none => none
    | none => none
def settleOne (s : St) (a : AV) : Option (St × AV) :=
  match a with
  | .agg cs => resolve s (.agg cs)
  | .arr 0 k e lo n tot => if wholeA s k e lo n tot then some (s, .arr 0 k e lo n tot) else resolve1 s (.arr 0 k e lo n tot)
  | a => some (s, a)
def settle (s : St) : List AV → Option (St × List AV)
  | [] => some (s, [])
  | a :: r => match settleOne s a with
    | some (s1, b) => match settle s1 r with
      | some (s2, l) => some (s2, b :: l)
      | none => none
    | none => none
def inOne (s : St) (k : Nat) (a : AV) : St × AV :=
  match a with
  | .own e xs => match Nat.beq e objE with
    | true => match xs with
      | [.agg cs] => (s.create k (.box cs), .ref 0 k 0)
      | _ => (s, .dead)
    | false => (s.create k (.arr false e xs), .arr 0 k e 0 xs.length xs.length)
  | a => (s, a)
def AV.kills (k : Nat) : Nat → AV → AV
  | 0, a => a
  | n + 1, a => AV.kills (k + 1) n (a.kill1 k)
def inAll (s : St) (k : Nat) : List AV → St × List AV
  | [] => (s, [])
  | a :: r =>
    let q := inAll s (k + 1) r
    let p := inOne q.1 k (a.kills (k + 1) r.length)
    (p.1, p.2 :: q.2.map (AV.kill1 k))
def AV.flat0 : AV → Bool
  | .x _ | .str _ | .nils | .cap0 => true
  | _ => false
def AV.flat1 : AV → Bool
  | .agg cs => cs.all AV.flat0
  | a => a.flat0
def AV.flat2 : AV → Bool
  | .own _ xs => xs.all AV.flat1
  | a => a.flat1
def AV.hasSl : AV → Bool
  | .tup vs => !(vs.all AV.flat2)
  | a => !a.flat2
def AV.shut1 : AV → Bool
  | .own _ _ => true
  | .agg cs => cs.all AV.isVal
  | a => a.isVal
def AV.shut : AV → Bool
  | .tup vs => vs.all AV.shut1
  | a => a.shut1
def openA (lend : Nat → Bool) : Nat → List AV → Bool
  | _, [] => false
  | j, a :: r => (match a with
    | .arr .. => lend j
    | .ref .. => true
    | _ => false) || openA lend (j + 1) r
def lendAll (s : St) : List AV → Option (St × List AV)
  | [] => some (s, [])
  | a :: r => match lendAll s r with
    | none => none
    | some (s1, l) => match a with
      | .arr i k e lo n tot => some (s1, .arr (i + 1) k e lo n tot :: l)
      | .ref i k off => some (s1, .ref (i + 1) k off :: l)
      | a => match resolve s1 a with
        | some (s2, b) => some (s2, b :: l)
        | none => none
structure Env where
  Φ : FuncId → Option Func
  Γ : FuncId → List AV → Option AV
  Δ : FuncId → List AV → List Store → Option (List Store × AV)
  lend : FuncId → Nat → Bool
  solo : Oper → Bool
  ok : Array Oper → Bool
  ok2 : Array Oper → Bool := fun _ => false
variable (E : Env)
def enterA (fn : Func) (args : List AV) (stores : List Store) : St :=
  { slots := args ++ List.replicate (fn.ntmps - args.length) .und, stores := [] :: stores }
def oneOf : List AV → AV
  | [v] => v
  | vs => .tup vs
def callA (rec : Rec) (f : FuncId) (args : List AV) (stores : List Store) : Option (List Store × AV) :=
  match E.Γ f args with
  | some r => some (stores, r)
  | none => match E.Δ f args stores with
  | some z => some z
  | none => match E.Φ f with
    | some fn => match fn.body with
      | some c => match rec (.code c) (enterA fn args stores) with
        | some (e, s) => if e = .ret ∨ e = .normal then match resultAll P s fn.results.toList with
            | some l => match settle s l with
              | some (s1, l1) => match outAll s1 [] l1 with
                | some vs => match s1.stores with
                  | [] => none
                  | _ :: r => some (r, oneOf vs)
                | none => none
              | none => none
            | none => none else none
        | none => none
      | none => none
    | none => none
def bindA (s : St) (d : Option Nat) (r : AV) : St :=
  match d with
  | none => s
  | some k => match r with
    | .tup vs => if home k 0 + vs.length ≤ 500000 then let p := inAll s (home k 0) vs; p.1.put (some k) (.tup p.2) else s.put (some k) .dead
    | r => if k < 500000 then let p := inOne s k r; p.1.put (some k) p.2 else s.put (some k) .dead
def callOpA (rec : Rec) (s : St) (d : Option Nat) (f : FuncId) (args : List AV) : Option St :=
  if openA (E.lend f) 0 args then match lendAll s args with
    | some (s1, as) => match callA P E rec f as s1.stores with
      | some (t :: S, r) => some (bindA { s1 with stores := t :: S } d r)
      | _ => none
    | none => none
  else match resolveAll s args with
    | some (s1, as) => match callA P E rec f as [] with
      | some (_, r) => if r.shut then some (bindA (if r.hasSl then s1 else s) d r) else none
      | none => none
    | none => none
def stepOp (rec : Rec) (s : St) (o : Oper) : Option St :=
  match o.op with
  | .call c => match calleeA s c.callee with
    | some f => match evalOs s c.args.toList with
      | some as => callOpA P E rec s o.dst f as
      | none => none
    | none => opA P s o
  | _ => opA P s o
def guardA (ops : Array Oper) (s : St) : Option (Nat × Bool) → Option Bool
  | none => some true
  | some (j, want) => match (ops[j]?).bind (·.dst) with
    | some t => match s.get t with
      | .x (.bool b) => some (b == want)
      | .und => some false
      | _ => none
    | none => none
def opsA (st : Oper → St → Option St) (ops : Array Oper) : List Nat → St → Option St
  | [], s => some s
  | i :: r, s => match ops[i]? with
    | none => opsA st ops r s
    | some o => match guardA ops s o.guard with
      | some true => match st o s with
        | some s1 => opsA st ops r s1
        | none => none
      | some false => opsA st ops r (s.put o.dst .und)
      | none => none
def AV.unown : AV → AV
  | .own e xs => match Nat.beq e objE with
    | true => .dead
    | false => .sl e xs
  | a => a
def AV.unowns : AV → AV
  | .tup vs => .tup (vs.map AV.unown)
  | a => a.unown
def veq : Value → Value → Bool
  | .int k a, .int k' b => decide (k = k') && decide (a = b)
  | .bool a, .bool b => a == b
  | _, _ => false
def aveq : AV → AV → Bool
  | .x v, .x u => veq v u
  | .nils, .nils => true
  | .cap0, .cap0 => true
  | .dead, .dead => true
  | .str a, .str b => decide (a = b)
  | .ref i k o, .ref i' k' o' => Nat.beq i i' && Nat.beq k k' && Nat.beq o o'
  | .arr i k e lo n tot, .arr i' k' e' lo' n' tot' => Nat.beq i i' && Nat.beq k k' && Nat.beq e e' && Nat.beq lo lo' && Nat.beq n n' && Nat.beq tot tot'
  | _, _ => false
def leq {α : Type} (f : α → α → Bool) : List α → List α → Bool
  | [], [] => true
  | a :: r, b :: q => f a b && leq f r q
  | _, _ => false
def aveq1 : AV → AV → Bool
  | .agg cs, .agg ds => leq aveq cs ds
  | a, b => aveq a b
def obeq : Ob → Ob → Bool
  | .box cs, .box ds => leq aveq cs ds
  | .arr fz e xs, .arr fz' e' ys => (fz == fz') && Nat.beq e e' && leq aveq1 xs ys
  | _, _ => false
def steq (a b : List Store) : Bool := leq (leq fun p q => Nat.beq p.1 q.1 && obeq p.2 q.2) a b
def readArgs : List AV → Option (List AV)
  | [] => some []
  | a :: r => match readArgs r with
    | none => none
    | some l => match a with
      | .ref i k off => some (.ref (i + 1) k off :: l)
      | a => if a.isVal then some (a :: l) else none
def AV.read : AV → Bool
  | .own .. => false
  | .tup .. => false
  | r => r.shut1
def readA (rec : Rec) (f : FuncId) (as : List AV) (S : List Store) : Option AV :=
  match readArgs as with
  | none => none
  | some bs => match callA P E rec f bs S with
    | none => none
    | some (S', r) => if steq S S' = true ∧ r.read = true then some r else none
def quietA (rec : Rec) (s : St) (o : Oper) : Option St :=
  match o.op with
  | .call c => match calleeA s c.callee with
    | some f => match evalOs s c.args.toList with
      | some as => match resolveAll s as with
        | some (_, bs) => match callA P E rec f bs [] with
          | some (_, r) => if r.shut ∧ (r.hasSl = false ∨ as.all AV.isVal = true) then some (s.put o.dst r.unowns) else none
          | none => none
        | none => (readA P E rec f as s.stores).map fun r => s.put o.dst r
      | none => none
    | none => (match c.callee with
      | .builtin .len | .builtin .min | .builtin .max | .builtin .real | .builtin .imag | .builtin .complex => opA P s o
      | _ => none)
  | .move _ | .assign _ | .pick .. | .nilCheck _ | .build .. | .load .. | .fieldAddr .. | .indexAddr .. | .field .. | .index .. | .slice .. | .binOp .. | .unOp .. | .extract .. => opA P s o
  | .convert src dst x => match evalO s x with
    | some a => (convA P s src dst a).map fun v => s.put o.dst v
    | none => none
  | _ => none
def AV.isVals : AV → Bool
  | .agg cs => cs.all AV.isVal
  | a => a.isVal
def quietQ (rec : Rec) (s : St) (o : Oper) : Option St :=
  match o.op with
  | .buildSlice t len ps => match partsA s ps.toList with
    | some l => if l.all (fun p => p.2.isVals) = true then (buildSliceO P s t len l).map fun q => s.put o.dst (.sl q.2.1 q.2.2) else none
    | none => none
  | .makeSlice t lo co => match evalO s lo, evalO s co with
    | some (.x (.int _ l)), some (.x (.int _ c)) => (makeO P t l c).map fun q => s.put o.dst (.sl q.1 q.2)
    | _, _ => none
  | .call c => match calleeA s c.callee with
    | some _ => match (evalOs s c.args.toList).bind fun as => resolveAll s as with
      | some _ => quietA P E rec s o
      | none => none
    | none => quietA P E rec s o
  | _ => quietA P E rec s o
def newB (o : Oper) : Bool := match o.op with
  | .alloc _ => true
  | .box _ _ => true
  | _ => false
def barB (o : Oper) : Bool := E.solo o && (match o.op with
  | .buildSlice .. => false
  | .makeSlice .. => false
  | _ => true)
def AV.free0 (k : Nat) : AV → Bool
  | .arr 0 j _ _ _ _ => !(Nat.beq j k)
  | .ref 0 j _ => !(Nat.beq j k)
  | .ear 0 j _ _ _ _ => !(Nat.beq j k)
  | _ => true
def AV.free1 (k : Nat) : AV → Bool
  | .agg cs => cs.all (AV.free0 k)
  | a => a.free0 k
def AV.free (k : Nat) : AV → Bool
  | .tup vs => vs.all (AV.free1 k)
  | a => a.free1 k
def Ob.free (k : Nat) : Ob → Bool
  | .box cs => cs.all (AV.free0 k)
  | _ => true
def St.free (k : Nat) (s : St) : Bool := match s.stores with
  | [] => false
  | t :: _ => (look t k).isNone && t.all (fun p => p.2.free k) && s.slots.all (AV.free k)
def cleanA (K : List Nat) (s : St) : Bool := K.all fun k => (getOb s.stores 0 k).isSome || s.free k
def newNames (ops : Array Oper) : List Nat := ops.toList.filterMap fun o => if newB o then o.dst else none
def freshB (s : St) (d : Option Nat) : Bool := match d with
  | some k => s.free k
  | none => false
def drawIn (rec : Rec) (s : St) (o : Oper) : Option St :=
  if newB o then (if freshB s o.dst then opA P s o else none)
  else if barB E o then stepOp P E rec s o else quietQ P E rec s o
def ab (st : Oper → St → Option St) (ops : Array Oper) (i : Nat) (s : St) : Option St :=
  match ops[i]? with
  | none => some s
  | some o => match guardA ops s o.guard with
    | some true => st o s
    | some false => some (s.put o.dst .und)
    | none => none
def ab2 (st : Oper → St → Option St) (K : List Nat) (ops : Array Oper) (i : Nat) (s : St) : Option St :=
  if cleanA K s then match ab st ops i s with
    | some s1 => if cleanA K s1 then some s1 else none
    | none => none
  else none
def runL (f : Nat → St → Option St) : List Nat → St → Option St
  | [], s => some s
  | i :: r, s => match f i s with
    | some s1 => runL f r s1
    | none => none
def drawOp (rec : Rec) (s : St) (o : Oper) : Option St := if E.solo o then stepOp P E rec s o else quietA P E rec s o
def stepT (rec : Rec) : Rec
  | .code .skip, s => some (.normal, s)
  | .code (.label _), s => some (.normal, s)
  | .code (.region _ ops false), s => match opsA (fun o s => stepOp P E rec s o) ops (List.range ops.size) s with
    | some s1 => some (.normal, s1)
    | none => none
  | .code (.region _ ops true), s => if E.ok ops then match opsA (fun o s => drawOp P E rec s o) ops (List.range ops.size) s with
    | some s1 => some (.normal, s1)
    | none => none
    else if E.ok2 ops then match runL (ab2 (fun o s => drawIn P E rec s o) (newNames ops) ops) (List.range ops.size) s with
      | some s1 => some (.normal, s1)
      | none => none else none
  | .code (.seq a b), s => match rec (.code a) s with
    | some (.normal, s1) => rec (.code b) s1
    | r => r
  | .code (.cond c a b), s => match evalO s c with
    | some (.x (.bool t)) => rec (.code (if t then a else b)) s
    | _ => none
  | .code (.block id c), s => match rec (.code c) s with
    | some (.exit i, s1) => if i = id then some (.normal, s1) else some (.exit i, s1)
    | r => r
  | .code (.loop c), s => match rec (.code c) s with
    | some (.normal, s1) => rec (.code (.loop c)) s1
    | r => r
  | .code (.exit id), s => some (.exit id, s)
  | .code (.goto l), s => some (.goto l, s)
  | .code .ret, s => some (.ret, s)
  | .code (.scope c), s => rec (.within c c) s
  | .within c rest, s => match rec (.code rest) s with
    | some (.goto l, s1) => match findLabel c l with
      | some rest1 => rec (.within c rest1) s1
      | none => some (.goto l, s1)
    | r => r
  | .code (.rangeFunc ..), _ => none
  | .code (.refuse _), _ => none
def runN : Nat → Rec
  | 0 => fun _ _ => none
  | n + 1 => stepT P E (runN n)
def runF (n : Nat) (f : FuncId) (args : List AV) : Option AV := (callA P E (runN P E n) f args []).map (·.2)
end
end Go.AbsM
end

section
namespace Go.AbsM
def flat (us : List Value) : List Value := us.flatMap fun u => u.cells.toList
inductive Rep (P : Program) (w : World) (M : Nat → Nat → Prop) : AV → Value → Prop
  | x {v : Value} : plain v = true → Rep P w M (.x v) v
  | str {l : List UInt8} : Rep P w M (.str l) (.string ⟨l.toArray⟩)
  | nils : Rep P w M .nils (.slice none 0 0)
  | cap0 {A : Option Addr} : Rep P w M .cap0 (.slice A 0 0)
  | sl {e : TypeId} {xs : List AV} {A : Option Addr} {n c : Nat} {us : List Value} : n = xs.length → us.length = xs.length → xs.length ≤ c → c ≤ maxLen → 0 < P.cellsOf e →
      (∀ (i : Nat) (x : AV) (u : Value), xs[i]? = some x → us[i]? = some u → Rep P w M x u) → (∀ u, u ∈ us → u.cells.size = P.cellsOf e) →
      (xs ≠ [] → ∃ b o, A = some ⟨b, o, none⟩ ∧ ∀ (j : Nat) (cv : Value), (flat us)[j]? = some cv → w.cell? ⟨b, o + j, none⟩ = some cv ∧ M b (o + j)) → Rep P w M (.sl e xs) (.slice A n c)
  | agg {cs : List AV} {vs : List Value} : vs.length = cs.length → (∀ (i : Nat) (c : AV) (v : Value), cs[i]? = some c → vs[i]? = some v → Rep P w M c v) → (∀ c, c ∈ cs → c.isVal = true) → Rep P w M (.agg cs) (.agg vs.toArray)
theorem Rep.mono {P : Program} {w w' : World} {M M' : Nat → Nat → Prop} (hM : ∀ b o, M b o → M' b o) (hc : ∀ b o, M b o → w'.cell? ⟨b, o, none⟩ = w.cell? ⟨b, o, none⟩) {a : AV} {v : Value} (h : Rep P w M a v) : Rep P w' M' a v := by
  induction h with
  | x h => exact .x h
  | str => exact .str
  | nils => exact .nils
  | cap0 => exact .cap0
  | sl hn hl hxc hcm he _ hsz hcells ih =>
    refine .sl hn hl hxc hcm he ih hsz fun hne => ?_
    obtain ⟨b, o, hA, hj⟩ := hcells hne
    exact ⟨b, o, hA, fun j cv hv => ⟨(hc _ _ (hj j cv hv).2).trans (hj j cv hv).1, hM _ _ (hj j cv hv).2⟩⟩
  | agg hl _ hv ih => exact .agg hl ih hv
theorem Rep.oneCell {P : Program} {w : World} {M : Nat → Nat → Prop} {a : AV} {v : Value} (h : Rep P w M a v) (ha : a.isVal = true) : v.oneCell' = true := by
  cases h with
  | x h => cases v <;> simp_all [plain, Value.oneCell']
  | str => rfl
  | nils => rfl
  | cap0 => rfl
  | sl => rfl
  | agg => simp [AV.isVal] at ha
structure Gh where
  M : Nat → Nat → Prop
  B : Nat → Nat → Nat
  C : Nat → Nat → Nat
def CRep (P : Program) (w : World) (g : Gh) (S : List Store) (a : AV) (v : Value) : Prop :=
  match a with
  | .arr i k e lo n tot => ∃ fz xs, getOb S i k = some (.arr fz e xs) ∧ tot ≤ xs.length ∧ (xs.length = tot → lo + n ≤ tot ∧ ∃ A c, v = .slice A n c ∧ n ≤ c ∧ c ≤ maxLen ∧
      (lo = 0 ∨ 0 < n → A = some ⟨g.B i k, lo * P.cellsOf e, none⟩) ∧ (fz = false → (lo + c) * P.cellsOf e ≤ g.C i k)) ∧ v.oneCell' = true
  | .ref i k off => (∃ cs, getOb S i k = some (.box cs)) ∧ v = .pointer (some ⟨g.B i k, off, none⟩)
  | .efz cs off => ∃ (b o : Nat) (vs : List Value), v = .pointer (some ⟨b, o + off, none⟩) ∧ vs.length = cs.length ∧ (∀ (j : Nat) (c : AV) (u : Value), cs[j]? = some c → vs[j]? = some u → Rep P w g.M c u) ∧ (∀ c, c ∈ cs → c.isVal = true) ∧
      (∀ (j : Nat) (u : Value), vs[j]? = some u → w.cell? ⟨b, o + j, none⟩ = some u ∧ g.M b (o + j))
  | .ear i k e tot j off => ∃ fz xs, getOb S i k = some (.arr fz e xs) ∧ tot ≤ xs.length ∧ (xs.length = tot → j < tot ∧ v = .pointer (some ⟨g.B i k, j * P.cellsOf e + off, none⟩))
  | .und => v = undef
  | .dead => True
  | .agg _ | .tup _ | .own _ _ | .obj _ => False
  | a => Rep P w g.M a v
def HRep1 (P : Program) (w : World) (g : Gh) (S : List Store) (a : AV) (v : Value) : Prop :=
  match a with
  | .agg cs => ∃ vs : List Value, v = .agg vs.toArray ∧ vs.length = cs.length ∧ ∀ (i : Nat) (c : AV) (u : Value), cs[i]? = some c → vs[i]? = some u → CRep P w g S c u ∧ u.oneCell' = true
  | a => CRep P w g S a v
def HRep (P : Program) (w : World) (g : Gh) (S : List Store) (a : AV) (v : Value) : Prop :=
  match a with
  | .tup as => ∃ vs : List Value, v = .tuple vs.toArray ∧ vs.length = as.length ∧ ∀ (i : Nat) (c : AV) (u : Value), as[i]? = some c → vs[i]? = some u → HRep1 P w g S c u
  | a => HRep1 P w g S a v
def RepL (P : Program) (w : World) (M : Nat → Nat → Prop) (e : TypeId) (xs : List AV) (us : List Value) : Prop :=
  us.length = xs.length ∧ (∀ (i : Nat) (x : AV) (u : Value), xs[i]? = some x → us[i]? = some u → Rep P w M x u) ∧ (∀ u, u ∈ us → u.cells.size = P.cellsOf e)
structure SInv (P : Program) (w : World) (g : Gh) (may : Nat → Prop) (S : List Store) : Prop where
  box : ∀ i k cs, getOb S i k = some (.box cs) → may (g.B i k) ∧ (∀ o, ¬ g.M (g.B i k) o) ∧ ∃ (vs : List Value) (t : TypeId), w.heap[g.B i k]? = some (.cells vs.toArray t (0, 0)) ∧ vs.length = cs.length ∧
    ∀ (j : Nat) (c : AV) (u : Value), cs[j]? = some c → vs[j]? = some u → CRep P w g S (c.shift i) u ∧ u.oneCell' = true
  arr : ∀ i k e xs, getOb S i k = some (.arr false e xs) → may (g.B i k) ∧ (∀ o, ¬ g.M (g.B i k) o) ∧ 0 < P.cellsOf e ∧ ∃ (cur : List Value) (us : List Value) (cap : Nat), w.heap[g.B i k]? = some (.cells cur.toArray e (0, 0)) ∧
    cur.length = g.C i k ∧ g.C i k = cap * P.cellsOf e ∧ cap ≤ maxLen ∧ xs.length ≤ cap ∧ RepL P w g.M e xs us ∧ cur.take (xs.length * P.cellsOf e) = flat us
  fz : ∀ i k e xs, getOb S i k = some (.arr true e xs) → 0 < P.cellsOf e ∧ ∃ us : List Value, RepL P w g.M e xs us ∧ ∀ (j : Nat) (cv : Value), (flat us)[j]? = some cv → w.cell? ⟨g.B i k, j, none⟩ = some cv ∧ g.M (g.B i k) j
  inj : ∀ i k o i' k' o', getOb S i k = some o → getOb S i' k' = some o' → o.loose = true → o'.loose = true → g.B i k = g.B i' k' → i = i' ∧ k = k'
  mlt : ∀ b o, g.M b o → b < w.heap.size
end Go.AbsM
end

section
namespace Go.AbsM
theorem look_lay (st : Store) (n m : Nat) (p : Ob) : look (lay st n p) m = if m = n then (look st n).map (fun _ => p) else look st m := by
  induction st with
  | nil => simp [lay, look]
  | cons x r ih =>
    obtain ⟨k, o⟩ := x
    simp only [lay]
    by_cases hk : k = n
    · subst hk
      simp only [if_pos, look]
      by_cases hm : m = k
      · subst hm; simp [look]
      · rw [if_neg (Ne.symm hm), if_neg hm, if_neg (Ne.symm hm)]
    · simp only [if_neg hk, look, ih]
      by_cases hm : m = n
      · subst hm; simp [hk]
      · simp [hm]
theorem look_drop (st : Store) (n m : Nat) : look (drop st n) m = if m = n then none else look st m := by
  induction st with
  | nil => simp [drop, look]
  | cons x r ih =>
    obtain ⟨k, o⟩ := x
    simp only [drop]
    by_cases hk : k = n
    · subst hk
      simp only [if_pos, ih, look]
      by_cases hm : m = k
      · simp [hm]
      · simp [hm, Ne.symm hm]
    · simp only [if_neg hk, look, ih]
      by_cases hm : m = n
      · subst hm; simp [hk]
      · simp [hm]
theorem look_kill (st : Store) (k m : Nat) : look (killStore k st) m = (look st m).map (Ob.kill k) := by
  induction st with
  | nil => rfl
  | cons x r ih =>
    obtain ⟨j, o⟩ := x
    simp only [killStore, look, ih]
    split <;> rfl
theorem getOb_set (S : List Store) (i k : Nat) (o : Ob) (j m : Nat) : getOb (setOb S i k o) j m = if j = i ∧ m = k then (getOb S i k).map (fun _ => o) else getOb S j m := by
  induction S generalizing i j with
  | nil => simp [setOb, getOb]
  | cons t r ih =>
    cases i with
    | zero =>
      cases j with
      | zero => simp [setOb, getOb, look_lay]
      | succ j => simp [setOb, getOb]
    | succ i =>
      cases j with
      | zero => simp [setOb, getOb]
      | succ j => simp [setOb, getOb, ih]
theorem getOb_create (t : Store) (r : List Store) (k : Nat) (o : Ob) (j m : Nat) : getOb (((k, o) :: drop (killStore k t) k) :: r) j m =
    if j = 0 then (if m = k then some o else (getOb (t :: r) 0 m).map (Ob.kill k)) else getOb (t :: r) j m := by
  cases j with
  | zero =>
    simp only [getOb, look, look_drop, look_kill, if_true]
    by_cases hm : m = k
    · subst hm; simp
    · simp [hm, Ne.symm hm]
  | succ j => simp [getOb]
structure Fr (may : Nat → Prop) (w : World) (M : Nat → Nat → Prop) (w' : World) (M' : Nat → Nat → Prop) : Prop where
  os : w'.os = w.os
  tape : w'.tape = w.tape
  output : w'.output = w.output
  size : w.heap.size ≤ w'.heap.size
  heap : ∀ b, ¬ may b → w'.heap[b]? = w.heap[b]?
  sub : ∀ b o, M b o → M' b o
  cell : ∀ b o, M b o → w'.cell? ⟨b, o, none⟩ = w.cell? ⟨b, o, none⟩
  new : ∀ b o, ¬ may b → M' b o → M b o
theorem Fr.refl (may : Nat → Prop) (w : World) (M : Nat → Nat → Prop) : Fr may w M w M := ⟨rfl, rfl, rfl, Nat.le_refl _, fun _ _ => rfl, fun _ _ h => h, fun _ _ _ => rfl, fun _ _ _ h => h⟩
theorem Fr.trans {may : Nat → Prop} {w w1 w2 : World} {M M1 M2 : Nat → Nat → Prop} (h : Fr may w M w1 M1) (k : Fr may w1 M1 w2 M2) : Fr may w M w2 M2 :=
  ⟨k.os.trans h.os, k.tape.trans h.tape, k.output.trans h.output, Nat.le_trans h.size k.size, fun b hb => (k.heap b hb).trans (h.heap b hb), fun b o hm => k.sub b o (h.sub b o hm),
    fun b o hm => (k.cell b o (h.sub b o hm)).trans (h.cell b o hm), fun b o hb hm => h.new b o hb (k.new b o hb hm)⟩
structure Kp (lv : Nat) (S : List Store) (g : Gh) (S' : List Store) (g' : Gh) : Prop where
  box : ∀ i k cs, lv ≤ i ∨ 500000 ≤ k → getOb S i k = some (.box cs) → (∃ cs', getOb S' i k = some (.box cs')) ∧ g'.B i k = g.B i k
  arr : ∀ i k fz e xs, lv ≤ i ∨ 500000 ≤ k → getOb S i k = some (.arr fz e xs) → ∃ fz' xs', getOb S' i k = some (.arr fz' e xs') ∧ xs.length ≤ xs'.length ∧
    (xs'.length = xs.length → g'.B i k = g.B i k ∧ (fz' = false → fz = false ∧ g'.C i k = g.C i k))
structure Kp0 (lv : Nat) (S : List Store) (g : Gh) (S' : List Store) (g' : Gh) : Prop where
  box : ∀ i k cs, lv ≤ i → getOb S i k = some (.box cs) → (∃ cs', getOb S' i k = some (.box cs')) ∧ g'.B i k = g.B i k
  arr : ∀ i k fz e xs, lv ≤ i → getOb S i k = some (.arr fz e xs) → ∃ fz' xs', getOb S' i k = some (.arr fz' e xs') ∧ xs.length ≤ xs'.length ∧
    (xs'.length = xs.length → g'.B i k = g.B i k ∧ (fz' = false → fz = false ∧ g'.C i k = g.C i k))
theorem Kp.to0 {lv : Nat} {S S' : List Store} {g g' : Gh} (h : Kp lv S g S' g') : Kp0 lv S g S' g' := ⟨fun i k cs hi => h.box i k cs (.inl hi), fun i k fz e xs hi => h.arr i k fz e xs (.inl hi)⟩
theorem Kp.refl (lv : Nat) (S : List Store) (g : Gh) : Kp lv S g S g :=
  ⟨fun i k cs _ h => ⟨⟨cs, h⟩, rfl⟩, fun i k fz e xs _ h => ⟨fz, xs, h, Nat.le_refl _, fun _ => ⟨rfl, fun h => ⟨h, rfl⟩⟩⟩⟩
theorem Kp.trans {lv : Nat} {S S1 S2 : List Store} {g g1 g2 : Gh} (h : Kp lv S g S1 g1) (k : Kp lv S1 g1 S2 g2) : Kp lv S g S2 g2 := by
  refine ⟨fun i n cs hi hb => ?_, fun i n fz e xs hi ha => ?_⟩
  · obtain ⟨⟨cs1, h1⟩, e1⟩ := h.box i n cs hi hb
    obtain ⟨h2, e2⟩ := k.box i n cs1 hi h1
    exact ⟨h2, e2.trans e1⟩
  · obtain ⟨fz1, xs1, h1, l1, q1⟩ := h.arr i n fz e xs hi ha
    obtain ⟨fz2, xs2, h2, l2, q2⟩ := k.arr i n fz1 e xs1 hi h1
    refine ⟨fz2, xs2, h2, by omega, fun he => ?_⟩
    obtain ⟨b1, c1⟩ := q1 (by omega)
    obtain ⟨b2, c2⟩ := q2 (by omega)
    refine ⟨b2.trans b1, fun hf => ?_⟩
    obtain ⟨f1, d2⟩ := c2 hf
    obtain ⟨f0, d1⟩ := c1 f1
    exact ⟨f0, d2.trans d1⟩
theorem Kp.mono {lv lv' : Nat} {S S' : List Store} {g g' : Gh} (h : Kp lv S g S' g') (hl : lv ≤ lv') : Kp lv' S g S' g' :=
  ⟨fun i k cs hi => h.box i k cs (by omega), fun i k fz e xs hi => h.arr i k fz e xs (by omega)⟩
def AV.from (lv : Nat) : AV → Prop
  | .arr i _ _ _ _ _ => lv ≤ i
  | .ref i _ _ => lv ≤ i
  | .ear i _ _ _ _ _ => lv ≤ i
  | _ => True
theorem AV.from_shift (c : AV) (n : Nat) : (c.shift n).from n := by cases c <;> simp [AV.shift, AV.from]
theorem AV.from_zero (c : AV) : c.from 0 := by cases c <;> simp [AV.from]
section
variable {P : Program} {w w' : World} {g g' : Gh} {S S' : List Store}
theorem CRep.keep0 {lv : Nat} (hs : ∀ b o, g.M b o → g'.M b o) (hc : ∀ b o, g.M b o → w'.cell? ⟨b, o, none⟩ = w.cell? ⟨b, o, none⟩) (hk : Kp0 lv S g S' g') {a : AV} {v : Value} (ha : a.from lv) (h : CRep P w g S a v) : CRep P w' g' S' a v := by
  cases a with
  | arr i k e lo n tot =>
    obtain ⟨fz, xs, hg, ht, hv, h1⟩ := h
    obtain ⟨fz', xs', hg', hl, hq⟩ := hk.arr i k fz e xs ha hg
    refine ⟨fz', xs', hg', by omega, fun he => ?_, h1⟩
    obtain ⟨hb, hf⟩ := hq (by omega)
    obtain ⟨hln, A, c, rfl, hnc, hcm, hA, hC⟩ := hv (by omega)
    refine ⟨hln, A, c, rfl, hnc, hcm, fun h => by rw [hb]; exact hA h, fun hff => ?_⟩
    obtain ⟨f0, d⟩ := hf hff
    rw [d]
    exact hC f0
  | ref i k off =>
    obtain ⟨⟨cs, hg⟩, hv⟩ := h
    obtain ⟨hb, he⟩ := hk.box i k cs ha hg
    exact ⟨hb, by rw [he]; exact hv⟩
  | efz cs off =>
    obtain ⟨b, o, vs, hv, hl, hr, hval, hcell⟩ := h
    exact ⟨b, o, vs, hv, hl, fun j c u h1 h2 => (hr j c u h1 h2).mono hs hc, hval, fun j u hu => ⟨(hc _ _ (hcell j u hu).2).trans (hcell j u hu).1, hs _ _ (hcell j u hu).2⟩⟩
  | ear i k e tot j off =>
    obtain ⟨fz, xs, hg, ht, hv⟩ := h
    obtain ⟨fz', xs', hg', hl, hq⟩ := hk.arr i k fz e xs ha hg
    refine ⟨fz', xs', hg', by omega, fun he => ?_⟩
    obtain ⟨hb, hf⟩ := hq (by omega)
    rw [hb]
    exact hv (by omega)
  | und => exact h
  | dead => trivial
  | agg => exact h.elim
  | tup => exact h.elim
  | own => exact h.elim
  | obj => exact h.elim
  | x => exact Rep.mono hs hc h
  | str => exact Rep.mono hs hc h
  | nils => exact Rep.mono hs hc h
  | cap0 => exact Rep.mono hs hc h
  | sl => exact Rep.mono hs hc h
theorem CRep.keep {lv : Nat} (hs : ∀ b o, g.M b o → g'.M b o) (hc : ∀ b o, g.M b o → w'.cell? ⟨b, o, none⟩ = w.cell? ⟨b, o, none⟩) (hk : Kp lv S g S' g') {a : AV} {v : Value} (ha : a.from lv) (h : CRep P w g S a v) : CRep P w' g' S' a v := h.keep0 hs hc hk.to0 ha
theorem HRep1.keep (hs : ∀ b o, g.M b o → g'.M b o) (hc : ∀ b o, g.M b o → w'.cell? ⟨b, o, none⟩ = w.cell? ⟨b, o, none⟩) (hk : Kp 0 S g S' g') {a : AV} {v : Value} (h : HRep1 P w g S a v) : HRep1 P w' g' S' a v := by
  cases a with
  | agg cs =>
    obtain ⟨vs, hv, hl, hr⟩ := h
    exact ⟨vs, hv, hl, fun i c u h1 h2 => ⟨(hr i c u h1 h2).1.keep hs hc hk c.from_zero, (hr i c u h1 h2).2⟩⟩
  | _ =>
    unfold HRep1 at h ⊢
    exact CRep.keep hs hc hk (AV.from_zero _) h
theorem HRep.keep (hs : ∀ b o, g.M b o → g'.M b o) (hc : ∀ b o, g.M b o → w'.cell? ⟨b, o, none⟩ = w.cell? ⟨b, o, none⟩) (hk : Kp 0 S g S' g') {a : AV} {v : Value} (h : HRep P w g S a v) : HRep P w' g' S' a v := by
  cases a with
  | tup as =>
    obtain ⟨vs, hv, hl, hr⟩ := h
    exact ⟨vs, hv, hl, fun i c u h1 h2 => (hr i c u h1 h2).keep hs hc hk⟩
  | _ =>
    unfold HRep at h ⊢
    exact HRep1.keep hs hc hk h
end
structure Sim (P : Program) (may : Nat → Prop) (s : St) (a : Act) (w : World) (g : Gh) : Prop where
  inv : SInv P w g may s.stores
  len : a.tmps.size = s.slots.length
  slots : ∀ (t : Nat) (x : AV), s.slots[t]? = some x → HRep P w g s.stores x (a.tmps.getD t undef)
  defers : a.defers = []
  ne : s.stores ≠ []
section
variable {P : Program} {may : Nat → Prop} {s : St} {a : Act} {w : World} {g : Gh}
theorem Sim.get (h : Sim P may s a w g) (t : Nat) : HRep P w g s.stores (s.get t) (a.tmps.getD t undef) := by
  unfold St.get
  rw [List.getD_eq_getElem?_getD]
  cases hx : s.slots[t]? with
  | none => trivial
  | some x => exact h.slots t x hx
theorem put_tmps (a : Act) (d : Nat) (v : Value) (t : Nat) : (a.put (some d) v).tmps.getD t undef = if t = d ∧ d < a.tmps.size then v else a.tmps.getD t undef := by
  simp only [Act.put, Array.getD_eq_getD_getElem?, Array.getElem?_setIfInBounds]
  by_cases h : d = t
  · subst h
    by_cases hd : d < a.tmps.size
    · simp [hd]
    · simp [hd]
  · simp [h, Ne.symm h]
theorem Sim.put (h : Sim P may s a w g) {x : AV} {v : Value} (hx : HRep P w g s.stores x v) (d : Option Nat) : Sim P may (s.put d x) (a.put d v) w g := by
  cases d with
  | none => exact h
  | some d =>
    refine ⟨h.inv, ?_, fun t y hy => ?_, h.defers, h.ne⟩
    · simp [St.put, Act.put, h.len]
    · simp only [St.put, List.getElem?_set] at hy
      rw [put_tmps]
      by_cases htd : d = t
      · subst htd
        by_cases hd : d < s.slots.length
        · simp [hd] at hy; subst hy
          rw [if_pos ⟨rfl, by rw [h.len]; exact hd⟩]; exact hx
        · simp [hd] at hy
      · rw [if_neg htd] at hy
        rw [if_neg (fun e => htd e.1.symm)]
        exact h.slots t y hy
theorem Sim.keep (h : Sim P may s a w g) {w' : World} {g' : Gh} {S' : List Store} (hs : ∀ b o, g.M b o → g'.M b o) (hc : ∀ b o, g.M b o → w'.cell? ⟨b, o, none⟩ = w.cell? ⟨b, o, none⟩) (hk : Kp 0 s.stores g S' g')
    (hi : SInv P w' g' may S') (hne : S' ≠ []) : Sim P may { s with stores := S' } a w' g' :=
  ⟨hi, h.len, fun t x hx => (h.slots t x hx).keep hs hc hk, h.defers, hne⟩
theorem setOb_ne {S : List Store} (h : S ≠ []) (i k : Nat) (o : Ob) : setOb S i k o ≠ [] := by
  cases S with
  | nil => exact absurd rfl h
  | cons t r => cases i <;> simp [setOb]
end
section
variable {P : Program} {w : World} {g : Gh} {S : List Store}
theorem constCell_rep {v : Value} {x : AV} (h : constCell v = some x) (M : Nat → Nat → Prop) : Rep P w M x v ∧ x.isVal = true := by
  unfold constCell at h
  split at h <;> simp at h <;> subst h <;> first
    | exact ⟨.x rfl, rfl⟩
    | exact ⟨.nils, rfl⟩
    | skip
  rename_i s
  refine ⟨?_, rfl⟩
  have : (Rep P w M (.str s.data.toList) (.string ⟨s.data.toList.toArray⟩)) := .str
  simpa using this
theorem CRep.of_rep {x : AV} {v : Value} (h : Rep P w g.M x v) (hx : x.isVal = true) : CRep P w g S x v := by
  cases x <;> first | exact h | simp [AV.isVal] at hx
theorem CRep.rep {x : AV} {v : Value} (h : CRep P w g S x v) (hx : x.isVal = true) : Rep P w g.M x v := by
  cases x <;> first | exact h | simp [AV.isVal] at hx
theorem HRep.of_cell {x : AV} {v : Value} (h : CRep P w g S x v) : HRep P w g S x v := by
  cases x <;> first | exact h | exact h.elim
theorem HRep1.of_cell {x : AV} {v : Value} (h : CRep P w g S x v) : HRep1 P w g S x v := by
  cases x <;> first | exact h | exact h.elim
theorem constCells_rep {vs : List Value} {l : List AV} (h : constCells vs = some l) (M : Nat → Nat → Prop) :
    vs.length = l.length ∧ ∀ (i : Nat) (c : AV) (u : Value), l[i]? = some c → vs[i]? = some u → Rep P w M c u ∧ c.isVal = true := by
  induction vs generalizing l with
  | nil => simp [constCells] at h; subst h; simp
  | cons v r ih =>
    simp only [constCells] at h
    split at h
    · rename_i a b ha hb
      simp at h; subst h
      obtain ⟨hl, hr⟩ := ih hb
      refine ⟨by simp [hl], fun i c u hc hu => ?_⟩
      cases i with
      | zero => simp at hc hu; subst hc; subst hu; exact constCell_rep ha M
      | succ i => simp at hc hu; exact hr i c u hc hu
    · simp at h
theorem constAV_rep {v : Value} {x : AV} (h : constAV v = some x) (M : Nat → Nat → Prop) : Rep P w M x v := by
  unfold constAV at h
  split at h
  · rename_i cs
    obtain ⟨l, hl, rfl⟩ := Option.map_eq_some_iff.1 h
    obtain ⟨h1, h2⟩ := constCells_rep (P := P) (w := w) hl M
    have : Rep P w M (.agg l) (.agg cs.toList.toArray) := .agg h1 (fun i c u hc hu => (h2 i c u hc hu).1) fun c hc => by
      obtain ⟨i, hi, rfl⟩ := List.getElem_of_mem hc
      exact (h2 i l[i] (cs.toList[i]'(by omega)) (by simp [hi]) (by simp)).2
    simpa using this
  · exact (constCell_rep h M).1
theorem HRep.of_rep {x : AV} {v : Value} (h : Rep P w g.M x v) : HRep P w g S x v := by
  cases h with
  | x h => exact Rep.x h
  | str => exact Rep.str
  | nils => exact Rep.nils
  | cap0 => exact Rep.cap0
  | sl h1 h2 h3 h4 h5 h6 h7 h8 => exact Rep.sl h1 h2 h3 h4 h5 h6 h7 h8
  | agg hl hr hv => exact ⟨_, rfl, hl, fun i c u hc hu => ⟨CRep.of_rep (hr i c u hc hu) (hv c (List.mem_of_getElem? hc)), (hr i c u hc hu).oneCell (hv c (List.mem_of_getElem? hc))⟩⟩
end
theorem Sim.evalO {P : Program} {may : Nat → Prop} {s : St} {a : Act} {w : World} {g : Gh} (h : Sim P may s a w g) {o : Operand} {x : AV} (hx : AbsM.evalO s o = some x) : HRep P w g s.stores x (a.eval o) := by
  cases o with
  | tmp t => simp only [AbsM.evalO, Option.some.injEq] at hx; subst hx; exact h.get t
  | const v => exact HRep.of_rep (constAV_rep hx g.M)
  | global => simp [AbsM.evalO] at hx
  | func => simp only [AbsM.evalO, Option.some.injEq] at hx; subst hx; exact HRep.of_rep (.x (by simp [plain]))
end Go.AbsM
end

section
namespace Go.AbsM
section
variable {P : Program} {w : World} {g : Gh} {S : List Store}
theorem HRep.inv_x {u v : Value} (h : HRep P w g S (.x u) v) : v = u ∧ plain u = true := by
  have h' : Rep P w g.M (.x u) v := h
  cases h' with
  | x hp => exact ⟨rfl, hp⟩
theorem HRep.inv_str {l : List UInt8} {v : Value} (h : HRep P w g S (.str l) v) : v = .string ⟨l.toArray⟩ := by
  have h' : Rep P w g.M (.str l) v := h
  cases h'
  rfl
theorem HRep.inv_nils {v : Value} (h : HRep P w g S .nils v) : v = .slice none 0 0 := by
  have h' : Rep P w g.M .nils v := h
  cases h'
  rfl
theorem HRep.inv_cap0 {v : Value} (h : HRep P w g S .cap0 v) : ∃ A, v = .slice A 0 0 := by
  have h' : Rep P w g.M .cap0 v := h
  cases h'
  exact ⟨_, rfl⟩
theorem HRep.mk_x {u : Value} (h : plain u = true) : HRep P w g S (.x u) u := HRep.of_rep (.x h)
theorem HRep.mk_int (k : IntKind) (n : Int) : HRep P w g S (.int k n) (.int k n) := HRep.of_rep (.x rfl)
theorem HRep.mk_bool (b : Bool) : HRep P w g S (.bool b) (.bool b) := HRep.of_rep (.x rfl)
theorem HRep.mk_str (l : List UInt8) : HRep P w g S (.str l) (.string ⟨l.toArray⟩) := HRep.of_rep .str
theorem intBin_sound {op : BinOp} {k : IntKind} {a b : Int} {r : AV} (t : TypeId) (hs : op ≠ .shl ∧ op ≠ .shr) (h : intBin op k a b = some r) : ∃ v, (binOp op t (.int k a) (.int k b)).run P w = .ok v w ∧ HRep P w g S r v := by
  cases op <;> simp only [intBin] at h <;> try (simp only [Option.some.injEq] at h; subst h; exact ⟨_, by simp [binOp, Op.intArith, Op.intBits, Op.intCmp], HRep.mk_x rfl⟩)
  · split at h
    · cases h
    · rename_i hb
      simp only [Option.some.injEq] at h; subst h
      exact ⟨_, by simp [binOp, Op.intDiv, hb], HRep.mk_x rfl⟩
  · split at h
    · cases h
    · rename_i hb
      simp only [Option.some.injEq] at h; subst h
      exact ⟨_, by simp [binOp, Op.intDiv, hb], HRep.mk_x rfl⟩
  all_goals simp at h
theorem shiftA_sound {op : BinOp} {k k' : IntKind} {a b : Int} {r : AV} (t : TypeId) (hs : op = .shl ∨ op = .shr) (h : shiftA op k a b = some r) : ∃ v, (binOp op t (.int k a) (.int k' b)).run P w = .ok v w ∧ HRep P w g S r v := by
  unfold shiftA at h
  split at h
  · cases h
  · rename_i hb
    rcases hs with rfl | rfl <;> simp only [Option.some.injEq] at h <;> subst h <;> exact ⟨_, by simp [binOp, Op.shift, hb], HRep.mk_x rfl⟩
theorem floatArith_run {op : BinOp} {k : FloatKind} {a b r : Nat} (h : floatArithA op k a b = some r) : (Op.floatArith op k a b).run P w = .ok (.float k r) w := by
  cases op <;> simp only [floatArithA] at h <;> first | (simp [Op.floatArith, h]; done) | (cases h; done)
theorem floatBin_sound {op : BinOp} {k : FloatKind} {a b : Nat} {r : AV} (t : TypeId) (h : floatBin op k a b = some r) : ∃ v, (binOp op t (.float k a) (.float k b)).run P w = .ok v w ∧ HRep P w g S r v := by
  cases op <;> simp only [floatBin] at h <;> try (simp only [Option.some.injEq] at h; subst h; exact ⟨_, by simp [binOp, Op.floatCmp], HRep.mk_x rfl⟩)
  all_goals first
    | (obtain ⟨r', hr, rfl⟩ := Option.map_eq_some_iff.1 h
       exact ⟨_, by simp only [binOp]; simp [floatArith_run hr], HRep.mk_x rfl⟩)
    | (cases h; done)
theorem complex_arith {op : BinOp} {k : FloatKind} {a b r : Nat} (h : floatArithA op k a b = some r) : (Op.Complex.arith op k a b).run P w = .ok r w := by
  simp [Op.Complex.arith, floatArith_run h]
theorem complex_cmp (k : FloatKind) (a b : Nat) : (Op.Complex.cmp .eql k a b).run P w = .ok (k.format.order a b == some .eq) w := by
  simp [Op.Complex.cmp, Op.floatCmp, asBool]
theorem complexBin_sound {op : BinOp} {k : FloatKind} {a b c d : Nat} {r : AV} (t : TypeId) (h : complexBin op k a b c d = some r) : ∃ v, (binOp op t (.complex k a b) (.complex k c d)).run P w = .ok v w ∧ HRep P w g S r v := by
  cases op <;> simp only [complexBin] at h <;> try (cases h; done)
  · split at h
    · rename_i x y hx hy
      simp only [Option.some.injEq] at h; subst h
      exact ⟨_, by simp [binOp, Op.complexOp, complex_arith hx, complex_arith hy], HRep.mk_x rfl⟩
    · cases h
  · split at h
    · rename_i x y hx hy
      simp only [Option.some.injEq] at h; subst h
      exact ⟨_, by simp [binOp, Op.complexOp, complex_arith hx, complex_arith hy], HRep.mk_x rfl⟩
    · cases h
  · split at h
    · rename_i hk
      subst hk
      split at h
      · rename_i ac bd ad bc h1 h2 h3 h4
        split at h
        · rename_i x y hx hy
          simp only [Option.some.injEq] at h; subst h
          refine ⟨.complex .f64 x y, ?_, HRep.mk_x rfl⟩
          simp [binOp, Op.complexOp, Op.Complex.conv, Op.Complex.product, Op.Complex.mul, Op.Complex.sub, Op.Complex.add, complex_arith h1, complex_arith h2, complex_arith h3, complex_arith h4, complex_arith hx, complex_arith hy]
        · cases h
      · cases h
    · cases h
  · simp only [Option.some.injEq] at h; subst h
    exact ⟨_, by simp [binOp, Op.complexOp, complex_cmp], HRep.mk_x rfl⟩
  · simp only [Option.some.injEq] at h; subst h
    exact ⟨_, by simp [binOp, Op.complexOp, complex_cmp], HRep.mk_x rfl⟩
theorem strBin_sound {op : BinOp} {a b : List UInt8} {r : AV} (t : TypeId) (h : strBin op a b = some r) : ∃ v, (binOp op t (.string ⟨a.toArray⟩) (.string ⟨b.toArray⟩)).run P w = .ok v w ∧ HRep P w g S r v := by
  cases op <;> simp only [strBin] at h <;> try (cases h; done)
  · split at h
    · rename_i hl
      simp only [Option.some.injEq] at h; subst h
      refine ⟨.string ⟨(a ++ b).toArray⟩, ?_, HRep.mk_str _⟩
      have hs : ¬ (IntKind.i64.max < (((⟨a.toArray⟩ : ByteArray).size : Int) + ((⟨b.toArray⟩ : ByteArray).size : Int))) := by
        have h1 : (⟨a.toArray⟩ : ByteArray).size = a.length := by simp [ByteArray.size]
        have h2 : (⟨b.toArray⟩ : ByteArray).size = b.length := by simp [ByteArray.size]
        have h3 : IntKind.i64.max = 9223372036854775807 := by decide
        rw [h1, h2, h3]; omega
      have hs' : (((⟨a.toArray⟩ : ByteArray).size : Int) + ((⟨b.toArray⟩ : ByteArray).size : Int)) ≤ 9223372036854775807 := by
        have h3 : IntKind.i64.max = 9223372036854775807 := by decide
        rw [h3] at hs; omega
      have he : (⟨a.toArray⟩ : ByteArray) ++ ⟨b.toArray⟩ = ⟨(a ++ b).toArray⟩ := by
        apply ByteArray.ext
        simp
      simp [binOp, Op.stringOp, hs, he]
      first | done | exact hs'
    · cases h
  all_goals
    simp only [Option.some.injEq] at h; subst h
    exact ⟨_, by simp [binOp, Op.stringOp], HRep.mk_x rfl⟩
theorem unA_sound {op : UnOp} {a r : AV} {v : Value} (hv : HRep P w g S a v) (h : unA op a = some r) : ∃ u, (Op.unary op v).run P w = .ok u w ∧ HRep P w g S r u := by
  unfold unA at h
  split at h
  all_goals first
    | (cases h; done)
    | (obtain ⟨rfl, _⟩ := hv.inv_x
       split at h <;> first
         | (simp only [Option.some.injEq] at h; subst h; exact ⟨_, by simp [Op.unary, Op.intArith, Op.intBits], HRep.mk_x rfl⟩)
         | (cases h; done))
theorem sizeT_run {t : TypeId} {n : Nat} (h : sizeT P t = some n) : (sizeOf t).run P w = .ok n w := by
  obtain ⟨i, hi, rfl⟩ := Option.map_eq_some_iff.1 h
  simp [sizeOf, typeInfo, hi]
theorem sizeT_cells {t : TypeId} {n : Nat} (h : sizeT P t = some n) : P.cellsOf t = n := by
  unfold sizeT at h
  simp [Program.cellsOf, h]
theorem aggT_run {t : TypeId} {b : Bool} (h : aggT P t = some b) : (isAgg t).run P w = .ok b w := by
  unfold aggT at h
  split at h <;> first
    | (cases h; done)
    | (rename_i hu
       simp only [Option.some.injEq] at h; subst h
       simp [isAgg, run_underlying hu])
    | (rename_i d h1 h2 hu
       simp only [Option.some.injEq] at h; subst h
       cases d <;> simp [isAgg, run_underlying hu] <;> first
         | exact absurd rfl (h1 _)
         | exact absurd rfl (h2 _ _))
def CellsRep (P : Program) (w : World) (g : Gh) (S : List Store) (cs : List AV) (vs : List Value) : Prop :=
  vs.length = cs.length ∧ ∀ (i : Nat) (c : AV) (u : Value), cs[i]? = some c → vs[i]? = some u → CRep P w g S c u ∧ u.oneCell' = true
theorem HRep.inv_agg {cs : List AV} {v : Value} (h : HRep P w g S (.agg cs) v) : ∃ vs : List Value, v = .agg vs.toArray ∧ CellsRep P w g S cs vs := by
  obtain ⟨vs, hv, hl, hr⟩ := h
  exact ⟨vs, hv, hl, hr⟩
theorem HRep.mk_agg {cs : List AV} {vs : List Value} (h : CellsRep P w g S cs vs) : HRep P w g S (.agg cs) (.agg vs.toArray) := ⟨vs, rfl, h.1, h.2⟩
theorem CellsRep.drop {cs : List AV} {vs : List Value} (h : CellsRep P w g S cs vs) (n : Nat) : CellsRep P w g S (cs.drop n) (vs.drop n) :=
  ⟨by simp [h.1], fun i c u hc hu => h.2 (n + i) c u (by simpa using hc) (by simpa using hu)⟩
theorem CellsRep.take {cs : List AV} {vs : List Value} (h : CellsRep P w g S cs vs) (n : Nat) : CellsRep P w g S (cs.take n) (vs.take n) :=
  ⟨by simp [h.1], fun i c u hc hu => by
    rw [List.getElem?_take] at hc hu
    split at hc
    · rename_i hi; rw [if_pos hi] at hu; exact h.2 i c u hc hu
    · cases hc⟩
theorem CellsRep.append {cs ds : List AV} {vs us : List Value} (h : CellsRep P w g S cs vs) (k : CellsRep P w g S ds us) : CellsRep P w g S (cs ++ ds) (vs ++ us) := by
  refine ⟨by simp [h.1, k.1], fun i c u hc hu => ?_⟩
  by_cases hi : i < cs.length
  · rw [List.getElem?_append_left hi] at hc
    rw [List.getElem?_append_left (by rw [h.1]; exact hi)] at hu
    exact h.2 i c u hc hu
  · rw [List.getElem?_append_right (by omega)] at hc
    rw [List.getElem?_append_right (by rw [h.1]; omega), h.1] at hu
    exact k.2 _ c u hc hu
theorem partA_sound {t : TypeId} {cs : List AV} {vs : List Value} {off : Nat} {r : AV} (hc : CellsRep P w g S cs vs) (h : partA P t cs off = some r) : ∃ v, (part t vs.toArray off).run P w = .ok v w ∧ HRep P w g S r v := by
  unfold partA at h
  split at h
  · rename_i n hn ha
    split at h
    · rename_i hl
      simp only [Option.some.injEq] at h; subst h
      refine ⟨.agg ((vs.drop off).take n).toArray, ?_, HRep.mk_agg ((hc.drop off).take n)⟩
      simp [part, aggT_run ha, sizeT_run hn]
    · cases h
  · rename_i n hn ha
    have hlt : off < cs.length := by
      rcases Nat.lt_or_ge off cs.length with h1 | h1
      · exact h1
      · rw [List.getElem?_eq_none h1] at h; cases h
    have hlv : off < vs.length := by rw [hc.1]; exact hlt
    refine ⟨vs[off], ?_, HRep.of_cell (hc.2 off r vs[off] h (List.getElem?_eq_getElem hlv)).1⟩
    simp [part, aggT_run ha, hlv]
  · cases h
theorem eqFields_sound {d : Nat} {eq : TypeId → AV → AV → Option Bool} (ih : ∀ (t : TypeId) (x y : AV) (vx vy : Value) (b : Bool), HRep P w g S x vx → HRep P w g S y vy → eq t x y = some b → (Op.equalIn d t vx vy).run P w = .ok b w) :
    ∀ (fs : List Field) (xs ys : List AV) (us vs : List Value) (b : Bool), CellsRep P w g S xs us → CellsRep P w g S ys vs → eqFs P eq fs xs ys = some b → (Op.eqFields d us.toArray vs.toArray fs).run P w = .ok b w
  | [], xs, ys, us, vs, b, hx, hy, h => by simp [eqFs] at h; subst h; simp [Op.eqFields]
  | f :: r, xs, ys, us, vs, b, hx, hy, h => by
    rw [eqFs] at h
    by_cases hn : f.name = "_"
    · rw [if_pos hn] at h
      have := eqFields_sound ih r xs ys us vs b hx hy h
      simpa [Op.eqFields, hn] using this
    · rw [if_neg hn] at h
      split at h
      · rename_i a c ha hc
        obtain ⟨va, hra, hva⟩ := partA_sound hx ha
        obtain ⟨vc, hrc, hvc⟩ := partA_sound hy hc
        split at h
        · rename_i he
          have hq := ih f.type a c va vc true hva hvc he
          have := eqFields_sound ih r xs ys us vs b hx hy h
          simp only [Op.eqFields, ne_eq, hn, not_false_eq_true, if_true, Sem.run_bind, hra, hrc, hq, Result.andThen_ok]
          simpa using this
        · rename_i he
          have hq := ih f.type a c va vc false hva hvc he
          simp only [Option.some.injEq] at h; subst h
          simp [Op.eqFields, hn, hra, hrc, hq]
        · cases h
      · cases h
theorem eqIn_sound : ∀ (d : Nat) (t : TypeId) (x y : AV) (vx vy : Value) (b : Bool), HRep P w g S x vx → HRep P w g S y vy → eqIn P d t x y = some b → (Op.equalIn d t vx vy).run P w = .ok b w := by
  intro d
  induction d with
  | zero => intro t x y vx vy b _ _ h; simp [eqIn] at h
  | succ d ih =>
    intro t x y vx vy b hx hy h
    unfold eqIn at h
    split at h
    · rename_i a c hu
      obtain ⟨rfl, _⟩ := hx.inv_x
      obtain ⟨rfl, _⟩ := hy.inv_x
      simp only [Option.some.injEq] at h; subst h
      exact run_equalIn_bool w d t a c hu
    · rename_i k0 k a k' c hu
      obtain ⟨rfl, _⟩ := hx.inv_x
      obtain ⟨rfl, _⟩ := hy.inv_x
      split at h
      · rename_i hk
        subst hk
        simp only [Option.some.injEq] at h; subst h
        exact run_equalIn_int w d t k k0 a c hu
      · cases h
    · rename_i k0 k a k' c hu
      obtain ⟨rfl, _⟩ := hx.inv_x
      obtain ⟨rfl, _⟩ := hy.inv_x
      split at h
      · rename_i hk
        subst hk
        simp only [Option.some.injEq] at h; subst h
        simp [Op.equalIn, run_underlying hu]
      · cases h
    · rename_i k0 k a b' k' a' b'' hu
      obtain ⟨rfl, _⟩ := hx.inv_x
      obtain ⟨rfl, _⟩ := hy.inv_x
      split at h
      · rename_i hk
        subst hk
        simp only [Option.some.injEq] at h; subst h
        simp [Op.equalIn, run_underlying hu]
      · cases h
    · rename_i a c hu
      have e1 := hx.inv_str
      have e2 := hy.inv_str
      subst e1; subst e2
      simp only [Option.some.injEq] at h; subst h
      rw [run_equalIn_string w d t _ _ hu]
      simp
    · rename_i fields xs ys hu
      obtain ⟨us, rfl, hus⟩ := hx.inv_agg
      obtain ⟨vs, rfl, hvs⟩ := hy.inv_agg
      split at h
      · cases h
      · rename_i hst
        have hf : P.fieldsOf t = fields := by simp [Program.fieldsOf, hu]
        rw [run_equalIn_struct w d t _ _ (by rw [hf]; exact hu) (by simpa using hst), hf]
        exact eqFields_sound ih fields.toList xs ys us vs b hus hvs h
    · cases h
theorem HRep.inv_sl {e : TypeId} {xs : List AV} {v : Value} (h : HRep P w g S (.sl e xs) v) : ∃ A c us, v = .slice A xs.length c ∧ xs.length ≤ c ∧ c ≤ maxLen ∧ 0 < P.cellsOf e ∧ RepL P w g.M e xs us ∧
    (xs ≠ [] → ∃ b o, A = some ⟨b, o, none⟩ ∧ ∀ (j : Nat) (cv : Value), (flat us)[j]? = some cv → w.cell? ⟨b, o + j, none⟩ = some cv ∧ g.M b (o + j)) := by
  have h' : Rep P w g.M (.sl e xs) v := h
  cases h' with
  | sl h1 h2 h3 h4 h5 h6 h7 h8 =>
    subst h1
    exact ⟨_, _, _, rfl, h3, h4, h5, ⟨h2, h6, h7⟩, h8⟩
theorem HRep.inv_arr {i k : Nat} {e : TypeId} {lo n tot : Nat} {v : Value} (h : HRep P w g S (.arr i k e lo n tot) v) : ∃ fz xs, getOb S i k = some (.arr fz e xs) ∧ tot ≤ xs.length ∧ (xs.length = tot → lo + n ≤ tot ∧ ∃ A c, v = .slice A n c ∧ n ≤ c ∧ c ≤ maxLen ∧
      (lo = 0 ∨ 0 < n → A = some ⟨g.B i k, lo * P.cellsOf e, none⟩) ∧ (fz = false → (lo + c) * P.cellsOf e ≤ g.C i k)) ∧ v.oneCell' = true := h
theorem HRep.inv_ref {i k off : Nat} {v : Value} (h : HRep P w g S (.ref i k off) v) : (∃ cs, getOb S i k = some (.box cs)) ∧ v = .pointer (some ⟨g.B i k, off, none⟩) := h
end
end Go.AbsM
end

section
namespace Go.AbsM
theorem flat_cons (u : Value) (us : List Value) : flat (u :: us) = u.cells.toList ++ flat us := by simp [flat]
theorem flat_append (us vs : List Value) : flat (us ++ vs) = flat us ++ flat vs := by simp [flat]
theorem flat_length {es : Nat} {us : List Value} (h : ∀ u, u ∈ us → u.cells.size = es) : (flat us).length = us.length * es := by
  induction us with
  | nil => simp [flat]
  | cons u r ih =>
    rw [flat_cons, List.length_append, ih (fun x hx => h x (by simp [hx]))]
    have := h u (by simp)
    simp [this, Nat.add_mul]; omega
theorem flat_drop {es : Nat} {us : List Value} (h : ∀ u, u ∈ us → u.cells.size = es) (n : Nat) : flat (us.drop n) = (flat us).drop (n * es) := by
  induction us generalizing n with
  | nil => simp [flat]
  | cons u r ih =>
    cases n with
    | zero => simp
    | succ n =>
      rw [List.drop_succ_cons, ih (fun x hx => h x (by simp [hx])), flat_cons]
      have hu : u.cells.toList.length = es := by simpa using h u (by simp)
      rw [show (n + 1) * es = u.cells.toList.length + n * es by rw [hu, Nat.add_mul]; omega, List.drop_append]
      simp
theorem flat_take {es : Nat} {us : List Value} (h : ∀ u, u ∈ us → u.cells.size = es) (n : Nat) : flat (us.take n) = (flat us).take (n * es) := by
  induction us generalizing n with
  | nil => simp [flat]
  | cons u r ih =>
    cases n with
    | zero => simp [flat]
    | succ n =>
      rw [List.take_succ_cons, flat_cons, ih (fun x hx => h x (by simp [hx])), flat_cons]
      have hu : u.cells.toList.length = es := by simpa using h u (by simp)
      have e1 : (n + 1) * es = u.cells.toList.length + n * es := by rw [hu, Nat.add_mul]; omega
      rw [e1, List.take_append]
      rw [List.take_of_length_le (Nat.le_add_right _ _)]
      simp
theorem flat_at {es : Nat} {us : List Value} (h : ∀ u, u ∈ us → u.cells.size = es) {n j : Nat} {u : Value} (hu : us[n]? = some u) (hj : j < es) : (flat us)[n * es + j]? = u.cells[j]? := by
  have h1 : (flat us)[n * es + j]? = ((flat us).drop (n * es))[j]? := by simp
  rw [h1, ← flat_drop h]
  have hlt : n < us.length := (List.getElem?_eq_some_iff.1 hu).1
  rw [List.drop_eq_getElem_cons hlt, flat_cons]
  have hg : us[n] = u := (List.getElem?_eq_some_iff.1 hu).2
  rw [hg]
  have hs : u.cells.toList.length = es := by simpa using h u (List.mem_of_getElem? hu)
  rw [List.getElem?_append_left (by omega)]
  simp
section
variable {P : Program} {w : World} {M : Nat → Nat → Prop} {e : TypeId}
theorem RepL.nil : RepL P w M e [] [] := ⟨rfl, fun i x u h => by simp at h, fun u h => by simp at h⟩
theorem RepL.drop {xs : List AV} {us : List Value} (h : RepL P w M e xs us) (n : Nat) : RepL P w M e (xs.drop n) (us.drop n) :=
  ⟨by simp [h.1], fun i x u hx hu => h.2.1 (n + i) x u (by simpa using hx) (by simpa using hu), fun u hu => h.2.2 u (List.mem_of_mem_drop hu)⟩
theorem RepL.take {xs : List AV} {us : List Value} (h : RepL P w M e xs us) (n : Nat) : RepL P w M e (xs.take n) (us.take n) :=
  ⟨by simp [h.1], (fun i x u hx hu => by
    rw [List.getElem?_take] at hx hu
    split at hx
    · rename_i hi; rw [if_pos hi] at hu; exact h.2.1 i x u hx hu
    · cases hx), fun u hu => h.2.2 u (List.mem_of_mem_take hu)⟩
theorem RepL.append {xs ys : List AV} {us vs : List Value} (h : RepL P w M e xs us) (k : RepL P w M e ys vs) : RepL P w M e (xs ++ ys) (us ++ vs) := by
  refine ⟨by simp [h.1, k.1], fun i x u hx hu => ?_, fun u hu => ?_⟩
  · by_cases hi : i < xs.length
    · rw [List.getElem?_append_left hi] at hx
      rw [List.getElem?_append_left (by rw [h.1]; exact hi)] at hu
      exact h.2.1 i x u hx hu
    · rw [List.getElem?_append_right (by omega)] at hx
      rw [List.getElem?_append_right (by rw [h.1]; omega), h.1] at hu
      exact k.2.1 _ x u hx hu
  · rcases List.mem_append.1 hu with hu | hu
    · exact h.2.2 u hu
    · exact k.2.2 u hu
theorem RepL.mono {w' : World} {M' : Nat → Nat → Prop} {xs : List AV} {us : List Value} (hM : ∀ b o, M b o → M' b o) (hc : ∀ b o, M b o → w'.cell? ⟨b, o, none⟩ = w.cell? ⟨b, o, none⟩) (h : RepL P w M e xs us) : RepL P w' M' e xs us :=
  ⟨h.1, fun i x u hx hu => (h.2.1 i x u hx hu).mono hM hc, h.2.2⟩
theorem RepL.len {xs : List AV} {us : List Value} (h : RepL P w M e xs us) : (flat us).length = xs.length * P.cellsOf e := by rw [flat_length h.2.2, h.1]
theorem Rep.cellsOne {a : AV} {v : Value} (h : Rep P w M a v) : ∀ c, c ∈ v.cells.toList → c.oneCell' = true := by
  cases h with
  | x h => intro c hc; cases v <;> simp_all [plain, Value.cells, Value.oneCell']
  | str => intro c hc; simp [Value.cells] at hc; subst hc; rfl
  | nils => intro c hc; simp [Value.cells] at hc; subst hc; rfl
  | cap0 => intro c hc; simp [Value.cells] at hc; subst hc; rfl
  | sl => intro c hc; simp [Value.cells] at hc; subst hc; rfl
  | agg hl hr hv =>
    rename_i cs vs
    intro c hc
    simp [Value.cells] at hc
    obtain ⟨i, hi, rfl⟩ := List.getElem_of_mem hc
    have hlt : i < cs.length := by omega
    exact (hr i cs[i] vs[i] (by simp [hlt]) (by simp [hi])).oneCell (hv cs[i] (List.getElem_mem hlt))
theorem RepL.ones {xs : List AV} {us : List Value} (h : RepL P w M e xs us) : ∀ c, c ∈ flat us → c.oneCell' = true := by
  intro c hc
  obtain ⟨u, hu, hcu⟩ := List.mem_flatMap.1 hc
  obtain ⟨i, hi, rfl⟩ := List.getElem_of_mem hu
  have hlt : i < xs.length := by rw [← h.1]; exact hi
  exact (h.2.1 i xs[i] us[i] (by simp [hlt]) (by simp [hi])).cellsOne c hcu
end
def Elems (P : Program) (w : World) (M : Nat → Nat → Prop) (e : TypeId) (xs : List AV) (v : Value) : Prop :=
  ∃ A c us, v = .slice A xs.length c ∧ xs.length ≤ c ∧ c ≤ maxLen ∧ RepL P w M e xs us ∧
    (xs ≠ [] → 0 < P.cellsOf e ∧ ∃ b o, A = some ⟨b, o, none⟩ ∧ ∀ (j : Nat) (cv : Value), (flat us)[j]? = some cv → w.cell? ⟨b, o + j, none⟩ = some cv)
section
variable {P : Program} {w : World} {g : Gh} {may : Nat → Prop}
theorem SInv.elems {s : St} (hi : SInv P w g may s.stores) {i k : Nat} {e : TypeId} {lo n tot : Nat} {v : Value} {xs : List AV} (hv : HRep P w g s.stores (.arr i k e lo n tot) v) (h : s.elems i k lo n tot = some xs) :
    xs.length = n ∧ Elems P w g.M e xs v := by
  obtain ⟨fz, ys, hg, ht, hq, _⟩ := hv.inv_arr
  simp only [St.elems, hg] at h
  split at h
  · rename_i hl
    simp only [Option.some.injEq] at h
    obtain ⟨hln, A, c, rfl, hnc, hcm, hA, hC⟩ := hq hl
    have hxl : xs.length = n := by subst h; simp; omega
    refine ⟨hxl, ?_⟩
    have fin : ∀ (us : List Value), 0 < P.cellsOf e → RepL P w g.M e ys us → (∀ (j : Nat) (cv : Value), (flat us)[j]? = some cv → w.cell? ⟨g.B i k, j, none⟩ = some cv) → Elems P w g.M e xs (.slice A n c) := by
      intro us he hr hcell
      subst h
      refine ⟨A, c, (us.drop lo).take n, by rw [hxl], by omega, hcm, (hr.drop lo).take n, fun hne => ⟨he, g.B i k, lo * P.cellsOf e, hA (.inr ?_), fun j cv hj => ?_⟩⟩
      · rcases Nat.eq_zero_or_pos n with h0 | h0
        · exact absurd (List.eq_nil_of_length_eq_zero (by rw [hxl]; exact h0)) hne
        · exact h0
      · rw [flat_take (fun u hu => hr.2.2 u (List.mem_of_mem_drop hu)), flat_drop hr.2.2, List.getElem?_take] at hj
        split at hj
        · rw [List.getElem?_drop] at hj
          exact hcell _ _ hj
        · cases hj
    cases fz with
    | true =>
      obtain ⟨he, us, hr, hcell⟩ := hi.fz i k e ys hg
      exact fin us he hr fun j cv hj => (hcell j cv hj).1
    | false =>
      obtain ⟨_, _, he, cur, us, cap, hh, _, _, _, _, hr, htake⟩ := hi.arr i k e ys hg
      refine fin us he hr fun j cv hj => ?_
      rw [← htake, List.getElem?_take] at hj
      split at hj
      · rw [cell_of_row w (g.B i k) j cur.toArray e (0, 0) hh]
        simpa using hj
      · cases hj
  · cases h
theorem HRep.elems_sl {S : List Store} {e : TypeId} {xs : List AV} {v : Value} (h : HRep P w g S (.sl e xs) v) : Elems P w g.M e xs v := by
  obtain ⟨A, c, us, rfl, h1, h2, h3, h4, h5⟩ := h.inv_sl
  refine ⟨A, c, us, rfl, h1, h2, h4, fun hne => ?_⟩
  obtain ⟨b, o, hA, hj⟩ := h5 hne
  exact ⟨h3, b, o, hA, fun j cv hcv => (hj j cv hcv).1⟩
theorem avs_getElem? (l : List UInt8) (i : Nat) : (avsOfBytes l)[i]? = (l[i]?).map fun b => AV.int .u8 b.toNat := by simp [avsOfBytes]
theorem SInv.src {s : St} (hi : SInv P w g may s.stores) {a : AV} {v : Value} {e : TypeId} {xs : List AV} (hv : HRep P w g s.stores a v) (h : s.src P e a = some xs) :
    ∃ us, RepL P w g.M e xs us ∧ (Builtin.lenOf v).run P w = .ok xs.length w ∧ ∀ n, n ≤ xs.length → ∀ w', (∀ b o cv, w.cell? ⟨b, o, none⟩ = some cv → w'.cell? ⟨b, o, none⟩ = some cv) → (Builtin.firstCells (P.cellsOf e) n v).run P w' = .ok (flat (us.take n)).toArray w' := by
  have slices : ∀ (xs : List AV), Elems P w g.M e xs v → ∃ us, RepL P w g.M e xs us ∧ (Builtin.lenOf v).run P w = .ok xs.length w ∧ ∀ n, n ≤ xs.length → ∀ w', (∀ b o cv, w.cell? ⟨b, o, none⟩ = some cv → w'.cell? ⟨b, o, none⟩ = some cv) → (Builtin.firstCells (P.cellsOf e) n v).run P w' = .ok (flat (us.take n)).toArray w' := by
    rintro xs ⟨A, c, us, rfl, h1, h2, hr, hA⟩
    refine ⟨us, hr, by simp [Builtin.lenOf], fun n hn w' hw' => ?_⟩
    by_cases hne : xs = []
    · subst hne
      have hus : us = [] := List.eq_nil_of_length_eq_zero hr.1
      subst hus
      have : n = 0 := by simpa using hn
      subst this
      cases A with
      | none => simp [Builtin.firstCells, flat]
      | some ad => simp [Builtin.firstCells, flat, loadCells, loadCellsFrom]
    · obtain ⟨he, b, o, rfl, hj⟩ := hA hne
      have hl : (flat (us.take n)).length = n * P.cellsOf e := by
        rw [flat_length (fun u hu => hr.2.2 u (List.mem_of_mem_take hu)), List.length_take, hr.1, Nat.min_eq_left hn]
      refine run_firstCells_some (P := P) w' (P.cellsOf e) n ⟨b, o, none⟩ xs.length c _ hl fun j cv hcv => ?_
      rw [Addr.add_lit]
      rw [flat_take hr.2.2, List.getElem?_take] at hcv
      split at hcv
      · exact hw' _ _ _ (hj j cv hcv)
      · cases hcv
  cases a with
  | str l =>
    simp only [St.src] at h
    split at h
    · rename_i he
      simp only [Option.some.injEq] at h; subst h
      have e1 := hv.inv_str
      subst e1
      refine ⟨l.map fun b => .int .u8 b.toNat, ⟨by simp [avsOfBytes], fun i x u hx hu => ?_, fun u hu => ?_⟩, by simp [Builtin.lenOf, avsOfBytes, ByteArray.size], fun n hn w' _ => ?_⟩
      · rw [avs_getElem?] at hx
        simp only [List.getElem?_map] at hu
        cases hl : l[i]? with
        | none => simp [hl] at hx
        | some b => simp [hl] at hx hu; subst hx; subst hu; exact .x rfl
      · obtain ⟨b, _, rfl⟩ := List.mem_map.1 hu
        rw [he]; rfl
      · simp only [Builtin.firstCells, Sem.run_pure]
        congr 1
        apply Array.ext'
        have hf : ∀ m : List UInt8, flat (m.map fun b => Value.int .u8 b.toNat) = m.map fun b => Value.int .u8 b.toNat := by
          intro m; induction m with
          | nil => rfl
          | cons b r ih => rw [List.map_cons, flat_cons, ih]; rfl
        rw [← List.map_take, hf]
        rw [ByteArray.extract_mk]
        simp
    · cases h
  | nils =>
    simp only [St.src, Option.some.injEq] at h; subst h
    have e1 := hv.inv_nils
    subst e1
    exact ⟨[], RepL.nil, by simp [Builtin.lenOf], fun n hn w' _ => by simp [Builtin.firstCells, flat]⟩
  | cap0 =>
    simp only [St.src, Option.some.injEq] at h; subst h
    obtain ⟨A, rfl⟩ := hv.inv_cap0
    exact slices [] ⟨A, 0, [], rfl, by simp, by simp [maxLen], RepL.nil, fun h => absurd rfl h⟩
  | sl e' ys =>
    simp only [St.src] at h
    split at h
    · rename_i he
      subst he
      simp only [Option.some.injEq] at h; subst h
      exact slices _ hv.elems_sl
    · cases h
  | arr i k e' lo n tot =>
    simp only [St.src] at h
    split at h
    · rename_i he
      subst he
      exact slices _ (hi.elems hv h).2
    · cases h
  | _ => simp [St.src] at h
theorem lenOfA_sound {s : St} (hi : SInv P w g may s.stores) {t : TypeId} {a : AV} {v : Value} {n : Nat} (hv : HRep P w g s.stores a v) (h : lenOfA P s t a = some n) (ts : List TypeId) (ty : TypeId) :
    (Builtin.len_ (t :: ts).toArray ty #[v]).run P w = .ok (.int .i64 n) w := by
  unfold lenOfA at h
  split at h
  · rename_i hu
    split at h
    · rename_i l
      simp only [Option.some.injEq] at h; subst h
      have e1 := hv.inv_str; subst e1
      have hsz : (⟨l.toArray⟩ : ByteArray).size = l.length := by simp [ByteArray.size]
      simp [Builtin.len_, run_underlying hu, goInt]
      first | done | exact congrArg Int.ofNat hsz
    · cases h
  · rename_i e hu
    split at h
    · simp only [Option.some.injEq] at h; subst h
      have e1 := hv.inv_nils; subst e1
      simp [Builtin.len_, run_underlying hu, goInt]
    · simp only [Option.some.injEq] at h; subst h
      obtain ⟨A, rfl⟩ := hv.inv_cap0
      simp [Builtin.len_, run_underlying hu, goInt]
    · simp only [Option.some.injEq] at h; subst h
      obtain ⟨A, c, us, rfl, _⟩ := hv.elems_sl
      simp [Builtin.len_, run_underlying hu, goInt]
    · rename_i i k e' lo m tot
      split at h
      · rename_i xs hx
        simp only [Option.some.injEq] at h; subst h
        obtain ⟨hxl, A, c, us, rfl, _⟩ := hi.elems hv hx
        simp [Builtin.len_, run_underlying hu, goInt, hxl]
      · cases h
    · cases h
  · rename_i m e hu
    simp only [Option.some.injEq] at h; subst h
    simp [Builtin.len_, run_underlying hu, goInt]
  · rename_i arr hu
    split at h
    · rename_i m e hu2
      simp only [Option.some.injEq] at h; subst h
      simp [Builtin.len_, run_underlying hu, run_underlying hu2, goInt]
    · cases h
  · cases h
end
end Go.AbsM
end

section
namespace Go.AbsM
section
variable {P : Program} {w : World} {g : Gh} {may : Nat → Prop} {s : St}
theorem Rep.parts {M : Nat → Nat → Prop} {a : AV} {u : Value} (h : Rep P w M a u) :
    u.cells.toList.length = a.cells.length ∧ (∀ (j : Nat) (c : AV) (v : Value), a.cells[j]? = some c → u.cells.toList[j]? = some v → Rep P w M c v) ∧ ∀ c, c ∈ a.cells → c.isVal = true := by
  have single : ∀ (a : AV) (u : Value), Rep P w M a u → a.isVal = true → a.cells = [a] → u.cells.toList.length = a.cells.length ∧ (∀ (j : Nat) (c : AV) (v : Value), a.cells[j]? = some c → u.cells.toList[j]? = some v → Rep P w M c v) ∧ ∀ c, c ∈ a.cells → c.isVal = true := by
    intro a u h hv hc
    have hone := h.oneCell hv
    have hcl : u.cells = #[u] := by cases u <;> simp_all [Value.cells, Value.oneCell']
    rw [hc, hcl]
    refine ⟨rfl, fun j c v h1 h2 => ?_, fun c hc => by simp at hc; subst hc; exact hv⟩
    cases j with
    | zero => simp at h1 h2; subst h1; subst h2; exact h
    | succ j => simp at h1
  cases h with
  | x h => exact single _ _ (.x h) rfl rfl
  | str => exact single _ _ .str rfl rfl
  | nils => exact single _ _ .nils rfl rfl
  | cap0 => exact single _ _ .cap0 rfl rfl
  | sl h1 h2 h3 h4 h5 h6 h7 h8 => exact single _ _ (.sl h1 h2 h3 h4 h5 h6 h7 h8) rfl rfl
  | agg hl hr hv =>
    refine ⟨by simpa [Value.cells, AV.cells] using hl, fun j c v h1 h2 => hr j c v h1 (by simpa [Value.cells] using h2), hv⟩
theorem fwd_sound {n : Nat} {p p' : AV} {v : Value} (hv : HRep P w g s.stores p v) (h : s.fwd n p = some p') : ∃ b o, v = .pointer (some ⟨b, o, none⟩) ∧ HRep P w g s.stores p' (.pointer (some ⟨b, o + n, none⟩)) := by
  cases p with
  | ref i k off =>
    simp only [St.fwd, Option.some.injEq] at h; subst h
    obtain ⟨hb, rfl⟩ := hv.inv_ref
    exact ⟨_, _, rfl, hb, rfl⟩
  | efz cs off =>
    simp only [St.fwd, Option.some.injEq] at h; subst h
    obtain ⟨b, o, vs, rfl, h1, h2, h3, h4⟩ := hv
    exact ⟨_, _, rfl, b, o, vs, by rw [Nat.add_assoc], h1, h2, h3, h4⟩
  | ear i k e tot j off =>
    obtain ⟨fz, xs, hg, ht, hq⟩ := hv
    simp only [St.fwd, hg] at h
    split at h
    · rename_i hl
      simp only [Option.some.injEq] at h; subst h
      obtain ⟨hj, rfl⟩ := hq hl
      exact ⟨_, _, rfl, fz, xs, hg, ht, fun _ => ⟨hj, by rw [Nat.add_assoc]⟩⟩
    · cases h
  | _ => simp [St.fwd] at h
theorem fieldAddr_sound {t : TypeId} {fields : Array Field} {f : Nat} {fd : Field} {m : Nat} {p p' : AV} {v : Value} (hu : P.underlying t = some (.struct fields)) (hf : fields[f]? = some fd) (hm : sizeT P fd.type = some (m + 1))
    (hv : HRep P w g s.stores p v) (h : s.fwd fd.offset p = some p') : ∃ r, (Instr.fieldAt t v f).run P w = .ok r w ∧ HRep P w g s.stores p' r := by
  obtain ⟨b, o, rfl, hr⟩ := fwd_sound hv h
  refine ⟨_, ?_, hr⟩
  simp [Instr.fieldAt, run_underlying hu, hf, Instr.sureAddr, fieldPlace, sizeT_run hm, Addr.add_lit]
theorem indexAddrA_sound (hi : SInv P w g may s.stores) {t : TypeId} {p p' : AV} {v : Value} {k : IntKind} {i : Int} (hv : HRep P w g s.stores p v) (h : indexAddrA P s t p i = some p') :
    ∃ r, (Instr.indexAt t v (.int k i)).run P w = .ok r w ∧ HRep P w g s.stores p' r := by
  unfold indexAddrA at h
  split at h
  · rename_i e hu
    split at h
    · rename_i h0
      split at h
      · rename_i e' xs
        split at h
        · rename_i he
          subst he
          split at h
          · rename_i a ha
            simp only [Option.some.injEq] at h; subst h
            obtain ⟨A, c, us, rfl, h1, h2, hpos, hr, hA⟩ := hv.inv_sl
            have hlt : i.toNat < xs.length := (List.getElem?_eq_some_iff.1 ha).1
            obtain ⟨b, o, rfl, hj⟩ := hA (by rintro rfl; simp at hlt)
            have hlu : i.toNat < us.length := by rw [hr.1]; exact hlt
            have hus : us[i.toNat]? = some us[i.toNat] := List.getElem?_eq_getElem hlu
            have hsz : us[i.toNat].cells.size = P.cellsOf e' := hr.2.2 _ (List.getElem_mem hlu)
            have hra := hr.2.1 i.toNat a _ ha hus
            have hcs : ∃ n, sizeT P e' = some n := by
              unfold sizeT
              cases hinf : P.info? e' with
              | none => simp [Program.cellsOf, hinf] at hpos
              | some i => exact ⟨_, rfl⟩
            obtain ⟨n, hn⟩ := hcs
            have hn' := sizeT_cells hn
            refine ⟨.pointer (some ⟨b, o + i.toNat * P.cellsOf e', none⟩), ?_, ?_⟩
            · have hil : i < (xs.length : Int) := by omega
              simp [Instr.indexAt, asIntOf, run_underlying hu, h0, hil, sizeT_run hn, Addr.add_lit, hn']
            ·
              have hcell : ∀ (j : Nat) (u : Value), us[i.toNat].cells.toList[j]? = some u → w.cell? ⟨b, o + i.toNat * P.cellsOf e' + j, none⟩ = some u ∧ g.M b (o + i.toNat * P.cellsOf e' + j) := by
                intro j u hju
                have hj' : j < P.cellsOf e' := by
                  have := (List.getElem?_eq_some_iff.1 hju).1
                  simpa [hsz] using this
                have := flat_at hr.2.2 hus hj'
                rw [Nat.add_assoc]
                exact hj _ u (by rw [this]; simpa using hju)
              obtain ⟨hl, hrr, hval⟩ := hra.parts
              exact ⟨b, o + i.toNat * P.cellsOf e', us[i.toNat].cells.toList, rfl, hl, hrr, hval, hcell⟩
          · cases h
        · cases h
      · rename_i j k' e' lo n tot
        split at h
        · rename_i he
          obtain ⟨rfl, hin⟩ := he
          split at h
          · rename_i xs hx
            simp only [Option.some.injEq] at h; subst h
            obtain ⟨fz, ys, hg, ht, hq, _⟩ := hv.inv_arr
            have hl : ys.length = tot := by
              simp only [St.elems, hg] at hx
              split at hx
              · assumption
              · cases hx
            obtain ⟨hln, A, c, rfl, hnc, hcm, hA, hC⟩ := hq hl
            have hcs : ∃ n, sizeT P e' = some n := by
              have hpos : 0 < P.cellsOf e' := by
                cases fz with
                | true => exact (hi.fz j k' e' ys hg).1
                | false => exact (hi.arr j k' e' ys hg).2.2.1
              unfold sizeT
              cases hinf : P.info? e' with
              | none => simp [Program.cellsOf, hinf] at hpos
              | some i => exact ⟨_, rfl⟩
            obtain ⟨m, hn⟩ := hcs
            have hn' := sizeT_cells hn
            rw [hA (.inr (by omega))]
            refine ⟨.pointer (some ⟨g.B j k', lo * P.cellsOf e' + i.toNat * P.cellsOf e', none⟩), ?_, fz, ys, hg, ht, fun _ => ⟨by omega, by rw [Nat.add_mul, Nat.add_zero]⟩⟩
            simp [Instr.indexAt, asIntOf, run_underlying hu, h0, hin, sizeT_run hn, Addr.add_lit, hn']
          · cases h
        · cases h
      · cases h
    · cases h
  · rename_i len e hu
    split at h
    · rename_i n hn
      split at h
      · rename_i hb
        obtain ⟨b, o, rfl, hr⟩ := fwd_sound hv h
        refine ⟨_, ?_, hr⟩
        simp [Instr.indexAt, asIntOf, run_underlying hu, Instr.sureAddr, hb.1, hb.2, sizeT_run hn, Addr.add_lit]
      · cases h
    · cases h
  · cases h
theorem loadVar_run {t : TypeId} {cs : List AV} {vs : List Value} {off : Nat} {r : AV} {b o : Nat} {S : List Store} {w0 : World} (hc : CellsRep P w0 g S cs vs) (hm : ∀ (j : Nat) (u : Value), vs[j]? = some u → w.cell? ⟨b, o + j, none⟩ = some u)
    (h : partA P t cs off = some r) : ∃ v, (loadVar t ⟨b, o + off, none⟩).run P w = .ok v w ∧ HRep P w0 g S r v := by
  unfold partA at h
  split at h
  · rename_i n hn ha
    split at h
    · rename_i hl
      simp only [Option.some.injEq] at h; subst h
      refine ⟨.agg ((vs.drop off).take n).toArray, ?_, HRep.mk_agg ((hc.drop off).take n)⟩
      have hlen : ((vs.drop off).take n).length = n := by simp [hc.1]; omega
      have hld := run_loadCells_list (P := P) w ⟨b, o + off, none⟩ ((vs.drop off).take n) (fun j v hj => by
        rw [Addr.add_lit]
        rw [List.getElem?_take] at hj
        split at hj
        · rw [List.getElem?_drop] at hj
          rw [Nat.add_assoc]
          exact hm _ v hj
        · cases hj)
      rw [hlen] at hld
      simp [loadVar, aggT_run ha, sizeT_run hn, hld]
    · cases h
  · rename_i n hn ha
    have hlt : off < cs.length := by
      rcases Nat.lt_or_ge off cs.length with h1 | h1
      · exact h1
      · rw [List.getElem?_eq_none h1] at h; cases h
    have hlv : off < vs.length := by rw [hc.1]; exact hlt
    refine ⟨vs[off], ?_, HRep.of_cell (hc.2 off r vs[off] h (List.getElem?_eq_getElem hlv)).1⟩
    have := hm off vs[off] (List.getElem?_eq_getElem hlv)
    simp [loadVar, aggT_run ha, this]
  · cases h
theorem partA_map {t : TypeId} {cs : List AV} {off : Nat} {r : AV} (f : AV → AV) (h : partA P t cs off = some r) :
    (∃ ds, r = .agg ds ∧ partA P t (cs.map f) off = some (.agg (ds.map f))) ∨ (cs[off]? = some r ∧ partA P t (cs.map f) off = some (f r)) := by
  unfold partA at h
  split at h
  · rename_i n hn ha
    split at h
    · rename_i hl
      simp only [Option.some.injEq] at h; subst h
      exact .inl ⟨_, rfl, by simp [partA, hn, ha, hl]⟩
    · cases h
  · rename_i n hn ha
    exact .inr ⟨h, by simp [partA, hn, ha, h]⟩
  · cases h
theorem loadA_sound (hi : SInv P w g may s.stores) {t : TypeId} {p r : AV} {v : Value} (hv : HRep P w g s.stores p v) (h : loadA P s t p = some r) : ∃ u, (Instr.loadAt t v).run P w = .ok u w ∧ HRep P w g s.stores r u := by
  unfold loadA at h
  split at h
  · rename_i i k off
    split at h
    · rename_i cs hg
      obtain ⟨_, rfl⟩ := hv.inv_ref
      obtain ⟨_, _, vs, tt, hh, hl, hr⟩ := hi.box i k cs hg
      obtain ⟨r', hp, rfl⟩ := Option.map_eq_some_iff.1 h
      have hc : CellsRep P w g s.stores (cs.map (AV.shift i)) vs := ⟨by simpa using hl, fun j c u h1 h2 => by
        simp only [List.getElem?_map, Option.map_eq_some_iff] at h1
        obtain ⟨c0, h1, rfl⟩ := h1
        exact hr j c0 u h1 h2⟩
      have hm : ∀ (j : Nat) (u : Value), vs[j]? = some u → w.cell? ⟨g.B i k, 0 + j, none⟩ = some u := fun j u hu => by
        rw [Nat.zero_add, cell_of_row w (g.B i k) j vs.toArray tt (0, 0) hh]
        simpa using hu
      rcases partA_map (AV.shift i) hp with ⟨ds, rfl, hp'⟩ | ⟨hin, hp'⟩
      · obtain ⟨u, hrun, hu⟩ := loadVar_run hc hm hp'
        rw [Nat.zero_add] at hrun
        exact ⟨u, by simp [Instr.loadAt, Instr.sureAddr, hrun], hu⟩
      · obtain ⟨u, hrun, hu⟩ := loadVar_run hc hm hp'
        rw [Nat.zero_add] at hrun
        refine ⟨u, by simp [Instr.loadAt, Instr.sureAddr, hrun], ?_⟩
        have : shiftCells i r' = r'.shift i := by
          have hlt : off < vs.length := by rw [hl]; exact (List.getElem?_eq_some_iff.1 hin).1
          have hx := (hr off _ vs[off] hin (List.getElem?_eq_getElem hlt)).1
          cases r' <;> first | rfl | exact hx.elim
        rw [this]
        exact hu
    · cases h
  · rename_i cs off
    obtain ⟨b, o, vs, rfl, hl, hr, hval, hcell⟩ := hv
    have hc : CellsRep P w g s.stores cs vs := ⟨hl, fun j c u h1 h2 => ⟨CRep.of_rep (hr j c u h1 h2) (hval c (List.mem_of_getElem? h1)), (hr j c u h1 h2).oneCell (hval c (List.mem_of_getElem? h1))⟩⟩
    obtain ⟨u, hrun, hu⟩ := loadVar_run hc (fun j u hj => (hcell j u hj).1) h
    exact ⟨u, by simp [Instr.loadAt, Instr.sureAddr, hrun], hu⟩
  · rename_i i k e tot j off
    split at h
    · rename_i fz e' xs hg
      split at h
      · rename_i hl
        split at h
        · rename_i y hy
          obtain ⟨fz', xs', hg', ht, hq⟩ := hv
          rw [hg] at hg'
          simp only [Option.some.injEq, Ob.arr.injEq] at hg'
          obtain ⟨rfl, rfl, rfl⟩ := hg'
          obtain ⟨hj, rfl⟩ := hq hl
          have key : ∀ us : List Value, RepL P w g.M e' xs us → (∀ (m : Nat) (cv : Value), (flat us)[m]? = some cv → w.cell? ⟨g.B i k, m, none⟩ = some cv) → ∃ u, (Instr.loadAt t (.pointer (some ⟨g.B i k, j * P.cellsOf e' + off, none⟩))).run P w = .ok u w ∧ HRep P w g s.stores r u := by
            intro us hr hcell
            have hlu : j < us.length := by rw [hr.1]; omega
            have hus : us[j]? = some us[j] := List.getElem?_eq_getElem hlu
            have hra := hr.2.1 j y _ hy hus
            obtain ⟨h1, h2, h3⟩ := hra.parts
            have hc : CellsRep P w g s.stores y.cells us[j].cells.toList := ⟨h1, fun m c u hc hu => ⟨CRep.of_rep (h2 m c u hc hu) (h3 c (List.mem_of_getElem? hc)), (h2 m c u hc hu).oneCell (h3 c (List.mem_of_getElem? hc))⟩⟩
            have hm : ∀ (m : Nat) (u : Value), us[j].cells.toList[m]? = some u → w.cell? ⟨g.B i k, j * P.cellsOf e' + m, none⟩ = some u := by
              intro m u hmu
              have hm' : m < P.cellsOf e' := by
                have h5 := (List.getElem?_eq_some_iff.1 hmu).1
                have h6 := hr.2.2 _ (List.getElem_mem hlu)
                simp only [Array.length_toList] at h5
                omega
              have := flat_at hr.2.2 hus hm'
              exact hcell _ u (by rw [this]; simpa using hmu)
            obtain ⟨u, hrun, hu⟩ := loadVar_run hc hm h
            exact ⟨u, by simp [Instr.loadAt, Instr.sureAddr, hrun], hu⟩
          cases fz with
          | true =>
            obtain ⟨he, us, hr, hcell⟩ := hi.fz i k e' xs hg
            exact key us hr fun m cv hm => (hcell m cv hm).1
          | false =>
            obtain ⟨_, _, he, cur, us, cap, hh, _, _, _, _, hr, htake⟩ := hi.arr i k e' xs hg
            refine key us hr fun m cv hm => ?_
            rw [← htake, List.getElem?_take] at hm
            split at hm
            · rw [cell_of_row w (g.B i k) m cur.toArray e' (0, 0) hh]
              simpa using hm
            · cases hm
        · cases h
      · cases h
    · cases h
  · cases h
end
end Go.AbsM
end

section
namespace Go.AbsM
section
variable {P : Program} {w : World} {g : Gh} {may : Nat → Prop} {s : St} {a : Act}
theorem boundA_some {d most : Nat} {o : Operand} {n : Nat} (hs : Sim P may s a w g) (h : boundA s d most (some o) = some n) : ∃ k i, a.eval o = .int k i ∧ 0 ≤ i ∧ i ≤ most ∧ n = i.toNat := by
  simp only [boundA] at h
  split at h
  · rename_i k i he
    split at h
    · rename_i hb
      simp only [Option.some.injEq] at h
      obtain ⟨e1, _⟩ := (hs.evalO he).inv_x
      exact ⟨k, i, e1, hb.1, hb.2, h.symm⟩
    · cases h
  · cases h
theorem boundA_le {d most : Nat} {o : Option Operand} {n : Nat} (hs : Sim P may s a w g) (h : boundA s d most o = some n) (hd : d ≤ most) : n ≤ most := by
  cases o with
  | none => simp [boundA] at h; omega
  | some o =>
    obtain ⟨k, i, _, h0, h1, rfl⟩ := boundA_some hs h
    omega
theorem sliceBound_run {k : IntKind} {i : Int} {y : Nat} (c : BoundsCode) (h0 : 0 ≤ i) (h1 : i ≤ y) : (Instr.sliceBound (.int k i) y c).run P w = .ok i.toNat w := by
  simp [Instr.sliceBound, asIntOf, h0, h1]
theorem sliceBounds_plain {isS : Bool} {len cap : Nat} {lo hi : Option Operand} {h l : Nat} (hs : Sim P may s a w g) (hlc : len ≤ cap) (hh : boundA s len len hi = some h) (hl : boundA s 0 h lo = some l) :
    (Instr.sliceBounds isS len cap (lo.map a.eval) (hi.map a.eval) none).run P w = .ok (l, h, cap) w := by
  have fin : ∀ x : Option Value, (match x, (none : Option Value) with
      | some v, some _ => Instr.sliceBound v cap .slice3B
      | some v, none => Instr.sliceBound v cap (if isS then .sliceAcap else .sliceAlen)
      | none, none => pure len
      | none, some _ => stuck "Slice: max without high").run P w = .ok h w →
      (match (lo.map a.eval) with | some v => Instr.sliceBound v h .sliceB | none => pure 0).run P w = .ok l w → True := fun _ _ _ => trivial
  cases hi with
  | none =>
    simp [boundA] at hh
    subst hh
    cases lo with
    | none => simp [boundA] at hl; subst hl; simp [Instr.sliceBounds]
    | some o =>
      obtain ⟨k, i, he, h0, h1, rfl⟩ := boundA_some hs hl
      simp [Instr.sliceBounds, he, sliceBound_run _ h0 h1]
  | some o1 =>
    obtain ⟨k1, i1, he1, h01, h11, rfl⟩ := boundA_some hs hh
    have h12 : i1 ≤ (cap : Int) := by omega
    cases lo with
    | none => simp [boundA] at hl; subst hl; simp [Instr.sliceBounds, he1, sliceBound_run _ h01 h12]
    | some o =>
      obtain ⟨k, i, he, h0, h1, rfl⟩ := boundA_some hs hl
      simp [Instr.sliceBounds, he, he1, sliceBound_run _ h01 h12, sliceBound_run _ h0 h1]
theorem sliceBounds_max {isS : Bool} {len cap mm : Nat} {lo : Option Operand} {o1 om : Operand} {m h l d d2 : Nat} (hs : Sim P may s a w g) (hmc : mm ≤ cap) (hm : boundA s d2 mm (some om) = some m) (hh : boundA s d m (some o1) = some h) (hl : boundA s 0 h lo = some l) :
    (Instr.sliceBounds isS len cap (lo.map a.eval) ((some o1).map a.eval) ((some om).map a.eval)).run P w = .ok (l, h, m) w := by
  obtain ⟨km, im, hem, h0m, h1m, rfl⟩ := boundA_some hs hm
  have h2m : im ≤ (cap : Int) := by omega
  obtain ⟨k1, i1, he1, h01, h11, rfl⟩ := boundA_some hs hh
  cases lo with
  | none => simp [boundA] at hl; subst hl; simp [Instr.sliceBounds, he1, hem, sliceBound_run _ h0m h2m, sliceBound_run _ h01 h11]
  | some o =>
    obtain ⟨k, i, he, h0, h1, rfl⟩ := boundA_some hs hl
    simp [Instr.sliceBounds, he, he1, hem, sliceBound_run _ h0m h2m, sliceBound_run _ h01 h11, sliceBound_run _ h0 h1]
theorem slice_run {t e : TypeId} {A : Option Addr} {len cap l h m n : Nat} {lo hi mx : Option Value} (hu : P.underlying t = some (.slice e)) (hn : sizeT P e = some n) (hb : (Instr.sliceBounds true len cap lo hi mx).run P w = .ok (l, h, m) w) :
    (Instr.sliceAt t (.slice A len cap) lo hi mx).run P w = .ok (.slice (if m = l then A else A.map (·.add (l * n))) (h - l) (m - l)) w := by
  simp [Instr.sliceAt, Instr.slice, run_underlying hu, hb, sizeT_run hn]
theorem sl_cut {S : List Store} {e : TypeId} {xs : List AV} {A : Option Addr} {c l h m : Nat} (hv : HRep P w g S (.sl e xs) (.slice A xs.length c)) (hlh : l ≤ h) (hhm : h ≤ m) (hhx : h ≤ xs.length) (hmc : m ≤ c) :
    HRep P w g S (.sl e ((xs.take h).drop l)) (.slice (if m = l then A else A.map (·.add (l * P.cellsOf e))) (h - l) (m - l)) := by
  obtain ⟨A', c', us, heq, h1, h2, hpos, hr, hA⟩ := hv.inv_sl
  injection heq with e1 e2 e3
  subst e1; subst e3
  have hlen : ((xs.take h).drop l).length = h - l := by simp; omega
  refine HRep.of_rep (.sl (us := (us.take h).drop l) hlen.symm (by simp [hr.1]) (by rw [hlen]; omega) (by omega) hpos ((hr.take h).drop l).2.1 ((hr.take h).drop l).2.2 fun hne => ?_)
  have hlt : l < h := by
    rcases Nat.lt_or_ge l h with h3 | h3
    · exact h3
    · exact absurd (List.eq_nil_of_length_eq_zero (by rw [hlen]; omega)) hne
  obtain ⟨b, o, rfl, hj⟩ := hA (by rintro rfl; simp at hhx; omega)
  rw [if_neg (by omega)]
  refine ⟨b, o + l * P.cellsOf e, by simp [Addr.add_lit], fun j cv hcv => ?_⟩
  rw [flat_drop (fun u hu => hr.2.2 u (List.mem_of_mem_take hu)), flat_take hr.2.2, List.getElem?_drop, List.getElem?_take] at hcv
  split at hcv
  · rw [Nat.add_assoc]; exact hj _ cv hcv
  · cases hcv
theorem arr_cut {S : List Store} {i k : Nat} {e : TypeId} {lo n tot : Nat} {A : Option Addr} {c l h m : Nat} {ys : List AV} {fz : Bool} (hv : HRep P w g S (.arr i k e lo n tot) (.slice A n c)) (hg : getOb S i k = some (.arr fz e ys)) (hl : ys.length = tot)
    (hlh : l ≤ h) (hhm : h ≤ m) (hhx : h ≤ n) (hmc : m ≤ c) :
    HRep P w g S (.arr i k e (lo + l) (h - l) tot) (.slice (if m = l then A else A.map (·.add (l * P.cellsOf e))) (h - l) (m - l)) := by
  obtain ⟨fz', xs', hg', ht, hq, _⟩ := hv.inv_arr
  rw [hg] at hg'
  simp only [Option.some.injEq, Ob.arr.injEq] at hg'
  obtain ⟨rfl, _, rfl⟩ := hg'
  refine ⟨fz, ys, hg, ht, fun _ => ?_, rfl⟩
  obtain ⟨hln, A', c', heq, hnc, hcm, hA, hC⟩ := hq hl
  injection heq with e1 e2 e3
  subst e1; subst e3
  refine ⟨by omega, _, _, rfl, by omega, by omega, fun h3 => ?_, fun hf => ?_⟩
  · by_cases hml : m = l
    · rw [if_pos hml]
      have hl0 : l = 0 := by
        rcases h3 with h3 | h3 <;> omega
      subst hl0
      rw [Nat.add_zero]
      exact hA (by rcases h3 with h3 | h3
                   · exact .inl (by omega)
                   · omega)
    · rw [if_neg hml]
      rw [hA (by rcases h3 with h3 | h3
                 · exact .inl (by omega)
                 · exact .inr (by omega))]
      simp [Addr.add_lit, Nat.add_mul]
  · have := hC hf
    refine Nat.le_trans (Nat.mul_le_mul_right _ ?_) this
    omega
theorem sliceA_sound (hs : Sim P may s a w g) {t : TypeId} {x r : AV} {v : Value} {lo hi mx : Option Operand} (hv : HRep P w g s.stores x v) (h : sliceA P s t x lo hi mx = some r) :
    ∃ u, (Instr.sliceAt t v (lo.map a.eval) (hi.map a.eval) (mx.map a.eval)).run P w = .ok u w ∧ HRep P w g s.stores r u := by
  unfold sliceA at h
  split at h
  · rename_i hu
    split at h
    · rename_i l
      split at h
      · rename_i hh hhe
        split at h
        · rename_i b hb
          simp only [Option.some.injEq] at h; subst h
          have e1 := hv.inv_str; subst e1
          have hsz : (⟨l.toArray⟩ : ByteArray).size = l.length := by simp [ByteArray.size]
          have hbd := sliceBounds_plain (isS := false) hs (Nat.le_refl l.length) hhe hb
          refine ⟨_, ?_, HRep.mk_str _⟩
          simp only [Instr.sliceAt, Instr.slice, run_underlying hu, Sem.run_bind, Result.andThen_ok, hsz, Option.map_none, Option.isSome_none, Bool.false_eq_true, if_false, hbd, Sem.run_pure]
          congr 2
          rw [ByteArray.extract_mk]
          congr 2
          rw [List.drop_take]
        · cases h
      · cases h
    · cases h
  · rename_i e hu
    split at h
    · cases h
    rename_i n hn
    have hce := sizeT_cells hn
    split at h
    ·
      rename_i hi0
      split at h
      · rename_i e' xs
        split at h
        · rename_i he
          subst he
          split at h
          · rename_i hh hhe
            split at h
            · rename_i b hb
              simp only [Option.some.injEq] at h; subst h
              obtain ⟨A, c, us, rfl, h1, h2, hpos, hr, hA⟩ := hv.inv_sl
              have hle := boundA_le hs hhe (Nat.le_refl _)
              have hlb := boundA_le hs hb (Nat.zero_le _)
              refine ⟨_, slice_run hu hn (sliceBounds_plain (isS := true) hs h1 hhe hb), ?_⟩
              rw [← hce]
              exact sl_cut hv hlb (by omega) hle (Nat.le_refl _)
            · cases h
          · cases h
        · cases h
      · rename_i i k e' lo' n' tot
        split at h
        · rename_i he
          subst he
          split at h
          · rename_i ys hh hx hhe
            split at h
            · rename_i b hb
              simp only [Option.some.injEq] at h; subst h
              obtain ⟨hyl, A, c, us, rfl, h1, h2, hr, hA⟩ := hs.inv.elems hv hx
              obtain ⟨fz, zs, hg, ht, hq, _⟩ := hv.inv_arr
              have hl : zs.length = tot := by
                simp only [St.elems, hg] at hx
                split at hx
                · assumption
                · cases hx
              rw [hyl] at hv h1
              have hle := boundA_le hs hhe (Nat.le_refl _)
              have hlb := boundA_le hs hb (Nat.zero_le _)
              rw [hyl]
              refine ⟨_, slice_run hu hn (sliceBounds_plain (isS := true) hs h1 hhe hb), ?_⟩
              rw [← hce]
              exact arr_cut hv hg hl hlb (by omega) hle (Nat.le_refl _)
            · cases h
          · cases h
        · cases h
      · split at h
        · rename_i hh hhe
          split at h
          · rename_i b hb
            simp only [Option.some.injEq] at h; subst h
            have e1 := hv.inv_nils; subst e1
            have hle := boundA_le hs hhe (Nat.le_refl _)
            have hlb := boundA_le hs hb (Nat.zero_le _)
            refine ⟨_, slice_run hu hn (sliceBounds_plain (isS := true) hs (Nat.le_refl 0) hhe hb), ?_⟩
            have h1 : hh = 0 := by omega
            have h2 : b = 0 := by omega
            subst h1; subst h2
            exact HRep.of_rep .nils
          · cases h
        · cases h
      · split at h
        · rename_i hh hhe
          split at h
          · rename_i b hb
            simp only [Option.some.injEq] at h; subst h
            obtain ⟨A, rfl⟩ := hv.inv_cap0
            have hle := boundA_le hs hhe (Nat.le_refl _)
            have hlb := boundA_le hs hb (Nat.zero_le _)
            refine ⟨_, slice_run hu hn (sliceBounds_plain (isS := true) hs (Nat.le_refl 0) hhe hb), ?_⟩
            have h1 : hh = 0 := by omega
            have h2 : b = 0 := by omega
            subst h1; subst h2
            exact HRep.of_rep .cap0
          · cases h
        · cases h
      · cases h
    ·
      rename_i m o1
      split at h
      · split at h
        · rename_i m' hm
          split at h
          · rename_i hh hhe
            split at h
            · rename_i b hb
              simp only [Option.some.injEq] at h; subst h
              have e1 := hv.inv_nils; subst e1
              have hlm := boundA_le hs hm (Nat.le_refl _)
              have hle := boundA_le hs hhe (Nat.zero_le _)
              have hlb := boundA_le hs hb (Nat.zero_le _)
              refine ⟨_, slice_run hu hn (sliceBounds_max (isS := true) (len := 0) hs (Nat.le_refl 0) hm hhe hb), ?_⟩
              have h0 : m' = 0 := by omega
              have h1 : hh = 0 := by omega
              have h2 : b = 0 := by omega
              subst h0; subst h1; subst h2
              exact HRep.of_rep .nils
            · cases h
          · cases h
        · cases h
      · split at h
        · rename_i m' hm
          split at h
          · rename_i hh hhe
            split at h
            · rename_i b hb
              simp only [Option.some.injEq] at h; subst h
              obtain ⟨A, rfl⟩ := hv.inv_cap0
              have hlm := boundA_le hs hm (Nat.le_refl _)
              have hle := boundA_le hs hhe (Nat.zero_le _)
              have hlb := boundA_le hs hb (Nat.zero_le _)
              refine ⟨_, slice_run hu hn (sliceBounds_max (isS := true) (len := 0) hs (Nat.le_refl 0) hm hhe hb), ?_⟩
              have h0 : m' = 0 := by omega
              have h1 : hh = 0 := by omega
              have h2 : b = 0 := by omega
              subst h0; subst h1; subst h2
              exact HRep.of_rep .cap0
            · cases h
          · cases h
        · cases h
      · rename_i e' xs
        split at h
        · rename_i he
          subst he
          split at h
          · rename_i m' hm
            split at h
            · rename_i hh hhe
              split at h
              · rename_i b hb
                obtain ⟨A, c, us, rfl, h1, h2, hpos, hr, hA⟩ := hv.inv_sl
                have hlm := boundA_le hs hm (Nat.zero_le _)
                have hle := boundA_le hs hhe (Nat.zero_le _)
                have hlb := boundA_le hs hb (Nat.zero_le _)
                have hrun := slice_run (A := A) hu hn (sliceBounds_max (isS := true) (len := xs.length) hs h1 hm hhe hb)
                refine ⟨_, hrun, ?_⟩
                split at h
                · simp only [Option.some.injEq] at h; subst h
                  have h1 : hh = 0 := by omega
                  have h2 : b = 0 := by omega
                  subst h1; subst h2
                  exact HRep.of_rep .cap0
                · simp only [Option.some.injEq] at h; subst h
                  rw [← hce]
                  exact sl_cut hv hlb hle (by omega) (by omega)
              · cases h
            · cases h
          · cases h
        · cases h
      · rename_i i k e' lo' n' tot
        split at h
        · rename_i he
          subst he
          split at h
          · rename_i ys m' hx hm
            split at h
            · rename_i hh hhe
              split at h
              · rename_i b hb
                obtain ⟨hyl, A, c, us, rfl, h1, h2, hr, hA⟩ := hs.inv.elems hv hx
                obtain ⟨fz, zs, hg, ht, hq, _⟩ := hv.inv_arr
                have hl : zs.length = tot := by
                  simp only [St.elems, hg] at hx
                  split at hx
                  · assumption
                  · cases hx
                rw [hyl] at hv h1
                have hlm := boundA_le hs hm (Nat.zero_le _)
                have hle := boundA_le hs hhe (Nat.zero_le _)
                have hlb := boundA_le hs hb (Nat.zero_le _)
                rw [hyl]
                have hrun := slice_run (A := A) hu hn (sliceBounds_max (isS := true) (len := n') hs h1 hm hhe hb)
                refine ⟨_, hrun, ?_⟩
                split at h
                · simp only [Option.some.injEq] at h; subst h
                  have h1 : hh = 0 := by omega
                  have h2 : b = 0 := by omega
                  subst h1; subst h2
                  exact HRep.of_rep .cap0
                · simp only [Option.some.injEq] at h; subst h
                  rw [← hce]
                  exact arr_cut hv hg hl hlb hle (by omega) (by omega)
              · cases h
            · cases h
          · cases h
        · cases h
      · cases h
    · cases h
  · cases h
end
end Go.AbsM
end

section
namespace Go.AbsM
theorem foldl_push_bytes (ns : List Int) (b : List UInt8) : ns.foldl (fun (r : ByteArray) n => r.push (UInt8.ofNat n.toNat)) ⟨b.toArray⟩ = ⟨(b ++ ns.map fun n => UInt8.ofNat n.toNat).toArray⟩ := by
  induction ns generalizing b with
  | nil => simp
  | cons n r ih =>
    rw [List.foldl_cons]
    have : (⟨b.toArray⟩ : ByteArray).push (UInt8.ofNat n.toNat) = ⟨(b ++ [UInt8.ofNat n.toNat]).toArray⟩ := by
      apply ByteArray.ext; simp [ByteArray.push]
    rw [this, ih]
    simp
theorem bytesOfAVs_some {xs : List AV} {l : List UInt8} (h : bytesOfAVs xs = some l) : ∃ ns : List Int, xs = ns.map (AV.int .u8) ∧ l = ns.map fun n => UInt8.ofNat n.toNat := by
  induction xs generalizing l with
  | nil => simp [bytesOfAVs] at h; exact ⟨[], rfl, h⟩
  | cons x r ih =>
    unfold bytesOfAVs at h
    split at h
    · cases ‹_ = []›
    · rename_i n r' heq
      injection heq with e1 e2
      subst e1; subst e2
      split at h
      · rename_i l' hl
        simp only [Option.some.injEq] at h; subst h
        obtain ⟨ns, rfl, rfl⟩ := ih hl
        exact ⟨n :: ns, rfl, rfl⟩
      · cases h
    · cases h
section
variable {P : Program} {w : World} {g : Gh} {may : Nat → Prop} {s : St}
theorem us_of_ints {M : Nat → Nat → Prop} {e : TypeId} {ns : List Int} {us : List Value} (h : RepL P w M e (ns.map (AV.int .u8)) us) : us = ns.map (Value.int .u8) := by
  apply List.ext_getElem?
  intro i
  by_cases hi : i < ns.length
  · have hu : i < us.length := by rw [h.1]; simpa using hi
    have h1 := List.getElem?_eq_getElem hu
    have h2 := h.2.1 i (.int .u8 ns[i]) us[i] (by simp [hi]) h1
    generalize us[i] = u at h1 h2
    cases h2 with
    | x hp => rw [h1]; simp [hi]
  · have hu : us.length ≤ i := by rw [h.1]; simp; omega
    rw [List.getElem?_eq_none hu, List.getElem?_eq_none (by simp; omega)]
theorem flat_ints (k : IntKind) (ns : List Int) : flat (ns.map (Value.int k)) = ns.map (Value.int k) := by
  induction ns with
  | nil => rfl
  | cons n r ih => rw [List.map_cons, flat_cons, ih]; rfl
theorem elems_bytes_run {M : Nat → Nat → Prop} {e : TypeId} {xs : List AV} {v : Value} {l : List UInt8} (he1 : P.cellsOf e = 1 ∨ xs = []) (h : Elems P w M e xs v) (hl : bytesOfAVs xs = some l) :
    (Conv.bytesToString v).run P w = .ok (.string ⟨l.toArray⟩) w := by
  obtain ⟨A, c, us, rfl, h1, h2, hr, hA⟩ := h
  obtain ⟨ns, rfl, rfl⟩ := bytesOfAVs_some hl
  have hus := us_of_ints hr
  subst hus
  have hf := foldl_push_bytes ns []
  simp only [List.nil_append] at hf
  cases A with
  | none =>
    by_cases hne : ns = []
    · subst hne
      simp [Conv.bytesToString]
      rfl
    · obtain ⟨_, b, o, hx, _⟩ := hA (by simpa using hne)
      cases hx
  | some ad =>
    have hload : (loadCells ad (ns.map (AV.int .u8)).length).run P w = .ok (ns.map (Value.int .u8)).toArray w := by
      by_cases hne : ns = []
      · subst hne; simp [loadCells, loadCellsFrom]
      · obtain ⟨_, b, o, hx, hj⟩ := hA (by simpa using hne)
        injection hx with hx
        subst hx
        have := run_loadCells_list (P := P) w ⟨b, o, none⟩ (ns.map (Value.int .u8)) (fun j v hv => by
          rw [Addr.add_lit]
          exact hj j v (by rw [flat_ints]; exact hv))
        simpa using this
    rw [run_bytesToString w ad _ c ns hload]
    congr 2
theorem convA_sound (hi : SInv P w g may s.stores) {src dst : TypeId} {x r : AV} {v : Value} (hv : HRep P w g s.stores x v) (h : convA P s src dst x = some r) :
    ∃ u, (convert src dst v).run P w = .ok u w ∧ HRep P w g s.stores r u := by
  unfold convA at h
  split at h
  · rename_i k n
    obtain ⟨rfl, _⟩ := hv.inv_x
    split at h
    · rename_i d k' hs hd
      simp only [Option.some.injEq] at h; subst h
      exact ⟨_, by simp [convert, run_underlying hs, run_underlying hd, Conv.intToInt], HRep.mk_x rfl⟩
    · rename_i d k' hs hd
      simp only [Option.some.injEq] at h; subst h
      exact ⟨_, by simp [convert, run_underlying hs, run_underlying hd, Conv.intToFloat], HRep.mk_x rfl⟩
    · cases h
  · rename_i sk b
    obtain ⟨rfl, _⟩ := hv.inv_x
    split at h
    · rename_i d k' hs hd
      split at h
      · rename_i n hn
        split at h
        · rename_i hb
          simp only [Option.some.injEq] at h; subst h
          exact ⟨_, by simp [convert, run_underlying hs, run_underlying hd, Conv.floatToInt, hn, hb], HRep.mk_x rfl⟩
        · cases h
      · cases h
    · rename_i d k' hs hd
      split at h
      · rename_i hk
        subst hk
        simp only [Option.some.injEq] at h; subst h
        exact ⟨_, by simp [convert, run_underlying hs, run_underlying hd, Conv.floatToFloat], HRep.mk_x rfl⟩
      · cases h
    · cases h
  · rename_i l
    have e1 := hv.inv_str; subst e1
    split at h
    · rename_i d hs hd
      simp only [Option.some.injEq] at h; subst h
      refine ⟨_, ?_, HRep.mk_str _⟩
      cases d <;> simp [convert, run_underlying hs, run_underlying hd]
    · cases h
  · split at h
    · rename_i e hs hd
      split at h
      · rename_i xs he hx
        obtain ⟨l, hl, rfl⟩ := Option.map_eq_some_iff.1 h
        refine ⟨_, ?_, HRep.mk_str l⟩
        have hE : ∃ M, Elems P w M e xs v := by
          cases x with
          | nils =>
            simp only [St.src, Option.some.injEq] at hx; subst hx
            have e1 := hv.inv_nils; subst e1
            exact ⟨g.M, none, 0, [], rfl, by simp, by simp [maxLen], RepL.nil, fun h => absurd rfl h⟩
          | cap0 =>
            simp only [St.src, Option.some.injEq] at hx; subst hx
            obtain ⟨A, rfl⟩ := hv.inv_cap0
            exact ⟨g.M, A, 0, [], rfl, by simp, by simp [maxLen], RepL.nil, fun h => absurd rfl h⟩
          | sl e' ys =>
            simp only [St.src] at hx
            split at hx
            · rename_i he'
              subst he'
              simp only [Option.some.injEq] at hx; subst hx
              exact ⟨_, hv.elems_sl⟩
            · cases hx
          | arr i k e' lo n tot =>
            simp only [St.src] at hx
            split at hx
            · rename_i he'
              subst he'
              exact ⟨_, (hi.elems hv hx).2⟩
            · cases hx
          | str l => rename_i hno; exact absurd rfl (hno l)
          | _ => simp [St.src] at hx
        obtain ⟨M, hE⟩ := hE
        have he1 : P.cellsOf e = 1 ∨ xs = [] := by
          by_cases hne : xs = []
          · exact .inr hne
          · left
            obtain ⟨A, c, us, rfl, h1, h2, hr, hA⟩ := hE
            obtain ⟨ns, rfl, rfl⟩ := bytesOfAVs_some hl
            have hus := us_of_ints hr
            subst hus
            have : ns ≠ [] := by simpa using hne
            obtain ⟨n, ns', rfl⟩ := List.exists_cons_of_ne_nil this
            have := hr.2.2 (.int .u8 n) (by simp)
            simpa [Value.cells] using this.symm
        have hb := elems_bytes_run he1 hE hl
        obtain ⟨A, c, us, rfl, _⟩ := hE
        rw [run_convert_bytes_string w src dst e A _ c hs he hd]
        exact hb
      · cases h
    · cases h
theorem equalIn_nil_slice (d : Nat) {t e : TypeId} (hu : P.underlying t = some (.slice e)) (A : Option Addr) (n c : Nat) : (Op.equalIn (d + 1) t (.slice A n c) (.slice none 0 0)).run P w = .ok A.isNone w := by
  cases A <;> simp [Op.equalIn, run_underlying hu]
theorem equalIn_nil_ptr (d : Nat) {t e : TypeId} (hu : P.underlying t = some (.pointer e)) (A : Option Addr) : (Op.equalIn (d + 1) t (.pointer A) (.pointer none)).run P w = .ok A.isNone w := by
  cases A <;> simp [Op.equalIn, run_underlying hu]
theorem isNilT_slice {t e : TypeId} {x : AV} {v : Value} {b : Bool} (hu : P.underlying t = some (.slice e)) (hv : HRep P w g s.stores x v) (hi : SInv P w g may s.stores) (h : isNilT P s t x = some b) :
    ∃ A n c, v = .slice A n c ∧ A.isNone = b := by
  unfold isNilT at h
  rw [hu] at h
  simp only at h
  unfold isNilA at h
  split at h
  · simp only [Option.some.injEq] at h; subst h
    exact ⟨_, _, _, hv.inv_nils, rfl⟩
  · simp only [Option.some.injEq] at h; subst h
    obtain ⟨A, c, us, rfl, h1, h2, hpos, hr, hA⟩ := hv.inv_sl
    obtain ⟨b, o, rfl, _⟩ := hA (by simp)
    exact ⟨_, _, _, rfl, rfl⟩
  · rename_i i k e' lo n tot
    split at h
    · rename_i xs hx
      simp only [Option.some.injEq] at h; subst h
      obtain ⟨hxl, A, c, us, rfl, h1, h2, hr, hA⟩ := hi.elems hv hx
      obtain ⟨_, b, o, rfl, _⟩ := hA (by rintro rfl; simp at hxl)
      exact ⟨_, _, _, rfl, rfl⟩
    · cases h
  · cases h
theorem isNilT_ptr {t e : TypeId} {x : AV} {v : Value} {b : Bool} (hu : P.underlying t = some (.pointer e)) (hv : HRep P w g s.stores x v) (h : isNilT P s t x = some b) :
    ∃ A, v = .pointer A ∧ A.isNone = b := by
  unfold isNilT at h
  rw [hu] at h
  simp only at h
  split at h
  · simp only [Option.some.injEq] at h; subst h
    exact ⟨_, hv.inv_ref.2, rfl⟩
  · simp only [Option.some.injEq] at h; subst h
    obtain ⟨rfl, _⟩ := hv.inv_x
    exact ⟨_, rfl, rfl⟩
  · cases h
theorem eqGuard_plain {op : BinOp} {t : TypeId} {x y : Operand} {u v : Value} (h : ∀ a b, ¬ (u = .nilIface ∧ v = .nilIface) ∧ ¬ (u = .agg a ∧ v = .agg b)) : (eqGuard op t x y u v).run P w = .ok () w := by
  have h1 : ¬ (u = .nilIface ∧ v = .nilIface) := (h #[] #[]).1
  unfold eqGuard
  cases op <;> simp
  all_goals
    split
    · exact absurd ⟨rfl, rfl⟩ h1
    · rename_i a b; exact absurd ⟨rfl, rfl⟩ (h a b).2
    · simp
theorem binA_sound (hi : SInv P w g may s.stores) {op : BinOp} {t : TypeId} {x y r : AV} {ox oy : Operand} {u v : Value} (hx : HRep P w g s.stores x u) (hy : HRep P w g s.stores y v) (h : binA P s op t x y = some r) :
    ∃ z, (eqGuard op t ox oy u v).run P w = .ok () w ∧ (binOp op t u v).run P w = .ok z w ∧ HRep P w g s.stores r z := by
  unfold binA at h
  split at h
  ·
    have e1 := hy.inv_nils; subst e1
    split at h
    · rename_i e hu
      split at h
      · obtain ⟨b, hb, rfl⟩ := Option.map_eq_some_iff.1 h
        obtain ⟨A, n, c, rfl, rfl⟩ := isNilT_slice hu hx hi hb
        refine ⟨_, eqGuard_plain (fun a b => ⟨by simp, by simp⟩), ?_, HRep.mk_bool _⟩
        have := equalIn_nil_slice (P := P) (w := w) 9999 hu A n c
        simp [binOp, Op.equal, Op.maxDepth, this]
      · obtain ⟨b, hb, rfl⟩ := Option.map_eq_some_iff.1 h
        obtain ⟨A, n, c, rfl, rfl⟩ := isNilT_slice hu hx hi hb
        refine ⟨_, eqGuard_plain (fun a b => ⟨by simp, by simp⟩), ?_, HRep.mk_bool _⟩
        have := equalIn_nil_slice (P := P) (w := w) 9999 hu A n c
        simp [binOp, Op.equal, Op.maxDepth, this]
      · cases h
    · cases h
  · obtain ⟨rfl, _⟩ := hy.inv_x
    split at h
    · rename_i e hu
      split at h
      · obtain ⟨b, hb, rfl⟩ := Option.map_eq_some_iff.1 h
        obtain ⟨A, rfl, rfl⟩ := isNilT_ptr hu hx hb
        refine ⟨_, eqGuard_plain (fun a b => ⟨by simp, by simp⟩), ?_, HRep.mk_bool _⟩
        have := equalIn_nil_ptr (P := P) (w := w) 9999 hu A
        simp [binOp, Op.equal, Op.maxDepth, this]
      · obtain ⟨b, hb, rfl⟩ := Option.map_eq_some_iff.1 h
        obtain ⟨A, rfl, rfl⟩ := isNilT_ptr hu hx hb
        refine ⟨_, eqGuard_plain (fun a b => ⟨by simp, by simp⟩), ?_, HRep.mk_bool _⟩
        have := equalIn_nil_ptr (P := P) (w := w) 9999 hu A
        simp [binOp, Op.equal, Op.maxDepth, this]
      · cases h
    · cases h
  · obtain ⟨rfl, _⟩ := hy.inv_x
    split at h
    · obtain ⟨rfl, _⟩ := hx.inv_x
      have hgd : ∀ k a k' b op, (eqGuard op t ox oy (.int k a) (.int k' b)).run P w = .ok () w := fun _ _ _ _ _ => eqGuard_plain (fun a b => ⟨by simp, by simp⟩)
      split at h
      · obtain ⟨z, h1, h2⟩ := shiftA_sound (w := w) (g := g) (S := s.stores) (k' := ‹IntKind›) (P := P) t (.inl rfl) h
        exact ⟨z, hgd _ _ _ _ _, h1, h2⟩
      · obtain ⟨z, h1, h2⟩ := shiftA_sound (w := w) (g := g) (S := s.stores) (k' := ‹IntKind›) (P := P) t (.inr rfl) h
        exact ⟨z, hgd _ _ _ _ _, h1, h2⟩
      · rename_i hn1 hn2
        split at h
        · rename_i hk
          subst hk
          obtain ⟨z, h1, h2⟩ := intBin_sound (w := w) (g := g) (S := s.stores) (P := P) t ⟨fun e => hn1 e, fun e => hn2 e⟩ h
          exact ⟨z, hgd _ _ _ _ _, h1, h2⟩
        · cases h
    · cases h
  · obtain ⟨rfl, _⟩ := hy.inv_x
    split at h
    · obtain ⟨rfl, _⟩ := hx.inv_x
      split at h
      · rename_i hk
        subst hk
        obtain ⟨z, h1, h2⟩ := floatBin_sound (w := w) (g := g) (S := s.stores) (P := P) t h
        exact ⟨z, eqGuard_plain (fun a b => ⟨by simp, by simp⟩), h1, h2⟩
      · cases h
    · cases h
  · obtain ⟨rfl, _⟩ := hy.inv_x
    split at h
    · obtain ⟨rfl, _⟩ := hx.inv_x
      split at h
      · rename_i hk
        subst hk
        obtain ⟨z, h1, h2⟩ := complexBin_sound (w := w) (g := g) (S := s.stores) (P := P) t h
        exact ⟨z, eqGuard_plain (fun a b => ⟨by simp, by simp⟩), h1, h2⟩
      · cases h
    · cases h
  · have e1 := hy.inv_str; subst e1
    split at h
    · have e2 := hx.inv_str; subst e2
      obtain ⟨z, h1, h2⟩ := strBin_sound (w := w) (g := g) (S := s.stores) (P := P) t h
      exact ⟨z, eqGuard_plain (fun a b => ⟨by simp, by simp⟩), h1, h2⟩
    · cases h
  · obtain ⟨rfl, _⟩ := hy.inv_x
    split at h
    · obtain ⟨rfl, _⟩ := hx.inv_x
      split at h
      · rename_i hu
        have := fun a b => run_equalIn_bool (P := P) w 9999 t a b hu
        split at h
        · simp only [Option.some.injEq] at h; subst h
          refine ⟨_, eqGuard_plain (fun a b => ⟨by simp, by simp⟩), ?_, HRep.mk_bool _⟩
          simp [binOp, Op.equal, Op.maxDepth, this]
        · simp only [Option.some.injEq] at h; subst h
          refine ⟨_, eqGuard_plain (fun a b => ⟨by simp, by simp⟩), ?_, HRep.mk_bool _⟩
          simp [binOp, Op.equal, Op.maxDepth, this]
        · cases h
      · cases h
    · cases h
  · split at h
    · split at h
      · cases h
      · rename_i hg0
        obtain ⟨us, rfl, hus⟩ := hx.inv_agg
        obtain ⟨vs, rfl, hvs⟩ := hy.inv_agg
        have hgd := run_eqGuard_agg (P := P) w op t ox oy us.toArray vs.toArray (by simpa using hg0)
        split at h
        · obtain ⟨b, hb, rfl⟩ := Option.map_eq_some_iff.1 h
          have := eqIn_sound 10000 t _ _ _ _ b hx hy hb
          exact ⟨_, hgd, by rw [run_eql_struct, this]; rfl, HRep.mk_bool _⟩
        · obtain ⟨b, hb, rfl⟩ := Option.map_eq_some_iff.1 h
          have := eqIn_sound 10000 t _ _ _ _ b hx hy hb
          exact ⟨_, hgd, by rw [run_neq_struct, this]; rfl, HRep.mk_bool _⟩
        · cases h
    · cases h
  · cases h
end
end Go.AbsM
end
