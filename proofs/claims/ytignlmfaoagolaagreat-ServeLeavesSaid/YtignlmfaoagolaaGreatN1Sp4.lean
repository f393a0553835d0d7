/-
  Texts of a proof over the translated program: N1Sp4.
-/
import Derived.Test.YtignlmfaoagolaaGreatN1Sp3
set_option linter.unusedVariables false
set_option linter.unusedSimpArgs false
set_option linter.unusedSectionVars false
namespace Sp
open Go Go.AbsM
def e4 (b : List Int) (a : Int) : Int := W.or .u32 (W.or .u32 (W.or .u32 (W.wrap .u32 (b.getD a.toNat 0)) (W.shl .u32 (W.wrap .u32 (b.getD (a + 1).toNat 0)) 8)) (W.shl .u32 (W.wrap .u32 (b.getD (a + 2).toNat 0)) 16)) (W.shl .u32 (W.wrap .u32 (b.getD (a + 3).toNat 0)) 24)
def get4 (b : List Int) (a : Int) : Int × Int × Int := if a < 0 ∨ (b.length : Int) < a then (0, 0, 1) else if (b.length : Int) - a < 4 then (0, 0, 5) else (e4 b a, 4, 0)
end Sp
namespace Sp
def more (v : Int) : Int := if v ≤ 0 then 0 else (enc v).length
end Sp
namespace Sp
end Sp
namespace Sp
def encs : List Int → List Int
  | [] => []
  | x :: r => enc x ++ encs r
def ends (l : List Int) : List Int := (List.range l.length).map fun i => ((encs (l.take (i + 1))).length : Int)
end Sp
namespace Sp
end Sp
