/-
  No cell of these rows narrows 'for every input' (looked for: loops, veiled, ifaces, maps, wideKeys, modest, calm, conditions, laid).
  DERIVED. THE GIVEN ROWS OF THIS SEAT. 6 by the template 'for every input the law returns true; each argument reads behind the call as it read before'; 0 by the template 'total and deterministic' (their statements: YtignlmfaoagolaaGreatTotals.lean).
  GIVEN WITH THE SEED: the statements are not yours to turn. If you find one false, say at which input.
  Laid BY PROGRAM, IN A SANDBOX (cutbox-rows.mjs): the forced cells as the released guide's own fill.sh prints them over the translation a882c6b4651c3123… (all of the seat's roots in one cut). By AI agents, Wed Nov 11 2026. No macro, syntax, notation, axiom, sorry.
-/
import Derived.Test.YtignlmfaoagolaaGreatChecked
import GoSem.Claim
import GoSem.ClaimJoined
import GoSem.ClaimMapViews
import Derived.JoinedTies
import Derived.KernelRfl
namespace Go.Proofs.YtignlmfaoagolaaGreat
/- THE CELL 'sum', in the pinned program and in every row, IS THE sha256 OF THE DUMP (.gsa) THAT YtignlmfaoagolaaGreatProg.lean LOADS. Nothing in Lean hashes anything: it is a label: what it is worth is what the hold of that sum in a sandbox is worth. -/
noncomputable def Tryz.pinned : Pinned := { name := "ytignlmfaoagolaagreat", sum := "a882c6b4651c3123be90e5bfe97592992923049a6431c7a05fcc85653b3cfb26", checked := Tryz.checked }
namespace Rows
def none {H : Type} : Left H := { results := [], args := [] }

/-- 'norialaw26.ServeLeaves': WHATEVER THE INPUT: true; the input reads as it did. -/
def serveLeavesSpec : ChangeSpec := { name := "serveLeaves", fn := fun _ => fun
  | [d1, d2] => { results := [.lit (.bool true)], args := [d1, d2] }
  | _ => none }
def serveLeavesRow : OpenClaim := { program := "ytignlmfaoagolaagreat", sum := "a882c6b4651c3123be90e5bfe97592992923049a6431c7a05fcc85653b3cfb26", func := "noria/norialaw26.ServeLeaves", spec := "serveLeaves", inPlace := ["internal/bytealg.abigen_runtime_cmpstring"], unfollowed := true, recurses := true, apart := false }
def ServeLeavesSaid : Prop := serveLeavesRow.holds Tryz.pinned (OpenSpec.ofChange serveLeavesSpec)

/-- ITS FALSE NEIGHBOUR: 'it returns false'. Refute it at one input. -/
def serveLeavesWrong : ChangeSpec := { name := "serveLeaves", fn := fun _ => fun
  | [d1, d2] => { results := [.lit (.bool false)], args := [d1, d2] }
  | _ => none }
def ServeLeavesWrongFalsely : Prop := serveLeavesRow.holds Tryz.pinned (OpenSpec.ofChange serveLeavesWrong)

/-- 'norialaw26.ServeMany': WHATEVER THE INPUT: true; the input reads as it did. -/
def serveManySpec : ChangeSpec := { name := "serveMany", fn := fun _ => fun
  | [d1, d2] => { results := [.lit (.bool true)], args := [d1, d2] }
  | _ => none }
def serveManyRow : OpenClaim := { program := "ytignlmfaoagolaagreat", sum := "a882c6b4651c3123be90e5bfe97592992923049a6431c7a05fcc85653b3cfb26", func := "noria/norialaw26.ServeMany", spec := "serveMany", inPlace := ["internal/bytealg.abigen_runtime_cmpstring"], unfollowed := true, recurses := true, apart := false }
def ServeManySaid : Prop := serveManyRow.holds Tryz.pinned (OpenSpec.ofChange serveManySpec)

/-- ITS FALSE NEIGHBOUR: 'it returns false'. Refute it at one input. -/
def serveManyWrong : ChangeSpec := { name := "serveMany", fn := fun _ => fun
  | [d1, d2] => { results := [.lit (.bool false)], args := [d1, d2] }
  | _ => none }
def ServeManyWrongFalsely : Prop := serveManyRow.holds Tryz.pinned (OpenSpec.ofChange serveManyWrong)

/-- 'norialaw27.WorldFalls': WHATEVER THE INPUT: true; the input reads as it did. -/
def worldFallsSpec : ChangeSpec := { name := "worldFalls", fn := fun _ => fun
  | [d1, d2, d3] => { results := [.lit (.bool true)], args := [d1, d2, d3] }
  | _ => none }
def worldFallsRow : OpenClaim := { program := "ytignlmfaoagolaagreat", sum := "a882c6b4651c3123be90e5bfe97592992923049a6431c7a05fcc85653b3cfb26", func := "noria/norialaw27.WorldFalls", spec := "worldFalls", inPlace := ["internal/bytealg.abigen_runtime_cmpstring"], unfollowed := true, recurses := true, apart := false }
def WorldFallsSaid : Prop := worldFallsRow.holds Tryz.pinned (OpenSpec.ofChange worldFallsSpec)

/-- ITS FALSE NEIGHBOUR: 'it returns false'. Refute it at one input. -/
def worldFallsWrong : ChangeSpec := { name := "worldFalls", fn := fun _ => fun
  | [d1, d2, d3] => { results := [.lit (.bool false)], args := [d1, d2, d3] }
  | _ => none }
def WorldFallsWrongFalsely : Prop := worldFallsRow.holds Tryz.pinned (OpenSpec.ofChange worldFallsWrong)

/-- 'norialaw27.WorldHandles': WHATEVER THE INPUT: true; the input reads as it did. -/
def worldHandlesSpec : ChangeSpec := { name := "worldHandles", fn := fun _ => fun
  | [d] => { results := [.lit (.bool true)], args := [d] }
  | _ => none }
def worldHandlesRow : OpenClaim := { program := "ytignlmfaoagolaagreat", sum := "a882c6b4651c3123be90e5bfe97592992923049a6431c7a05fcc85653b3cfb26", func := "noria/norialaw27.WorldHandles", spec := "worldHandles", inPlace := ["internal/bytealg.abigen_runtime_cmpstring"], unfollowed := true, recurses := true, apart := false }
def WorldHandlesSaid : Prop := worldHandlesRow.holds Tryz.pinned (OpenSpec.ofChange worldHandlesSpec)

/-- ITS FALSE NEIGHBOUR: 'it returns false'. Refute it at one input. -/
def worldHandlesWrong : ChangeSpec := { name := "worldHandles", fn := fun _ => fun
  | [d] => { results := [.lit (.bool false)], args := [d] }
  | _ => none }
def WorldHandlesWrongFalsely : Prop := worldHandlesRow.holds Tryz.pinned (OpenSpec.ofChange worldHandlesWrong)

/-- 'norialaw28.DayDown': WHATEVER THE INPUT: true; the input reads as it did. -/
def dayDownSpec : ChangeSpec := { name := "dayDown", fn := fun _ => fun
  | [d1, d2] => { results := [.lit (.bool true)], args := [d1, d2] }
  | _ => none }
def dayDownRow : OpenClaim := { program := "ytignlmfaoagolaagreat", sum := "a882c6b4651c3123be90e5bfe97592992923049a6431c7a05fcc85653b3cfb26", func := "noria/norialaw28.DayDown", spec := "dayDown", inPlace := ["internal/bytealg.abigen_runtime_cmpstring"], unfollowed := true, recurses := true, apart := false }
def DayDownSaid : Prop := dayDownRow.holds Tryz.pinned (OpenSpec.ofChange dayDownSpec)

/-- ITS FALSE NEIGHBOUR: 'it returns false'. Refute it at one input. -/
def dayDownWrong : ChangeSpec := { name := "dayDown", fn := fun _ => fun
  | [d1, d2] => { results := [.lit (.bool false)], args := [d1, d2] }
  | _ => none }
def DayDownWrongFalsely : Prop := dayDownRow.holds Tryz.pinned (OpenSpec.ofChange dayDownWrong)

/-- 'norialaw28.DayUnder': WHATEVER THE INPUT: true; the input reads as it did. -/
def dayUnderSpec : ChangeSpec := { name := "dayUnder", fn := fun _ => fun
  | [d1, d2] => { results := [.lit (.bool true)], args := [d1, d2] }
  | _ => none }
def dayUnderRow : OpenClaim := { program := "ytignlmfaoagolaagreat", sum := "a882c6b4651c3123be90e5bfe97592992923049a6431c7a05fcc85653b3cfb26", func := "noria/norialaw28.DayUnder", spec := "dayUnder", inPlace := ["internal/bytealg.abigen_runtime_cmpstring"], unfollowed := true, recurses := true, apart := false }
def DayUnderSaid : Prop := dayUnderRow.holds Tryz.pinned (OpenSpec.ofChange dayUnderSpec)

/-- ITS FALSE NEIGHBOUR: 'it returns false'. Refute it at one input. -/
def dayUnderWrong : ChangeSpec := { name := "dayUnder", fn := fun _ => fun
  | [d1, d2] => { results := [.lit (.bool false)], args := [d1, d2] }
  | _ => none }
def DayUnderWrongFalsely : Prop := dayUnderRow.holds Tryz.pinned (OpenSpec.ofChange dayUnderWrong)

/- THE SECOND FORM. 'bulk': how many values and letters a reading holds, each counted each time it is reached (what is shared counts as often as it is met; a slice's spare places count too). A statement '..UptoSaid' is the law's where the arguments, and the package variables that the reading takes, are together of bulk at most 1048576: NARROWER than '..Said'. Prove '..Said' where nothing that the law and all that it calls make is longer than what came in: it says more and counts as full. Else prove '..UptoSaid'. A law counts once. -/
mutual
def uptoBulk {H : Type} : DataW H → Nat
  | .lit (.string bytes) => bytes.length + 1
  | .lit _ => 1
  | .nil => 1
  | .ptr d => uptoBulk d + 1
  | .slice elems spare => uptoBulkAll elems + uptoBulkAll spare + 1
  | .agg parts => uptoBulkAll parts + 1
  | .iface _ d => uptoBulk d + 1
  | .map entries => uptoBulkEntries entries + 1
  | .held _ => 1
def uptoBulkAll {H : Type} : List (DataW H) → Nat
  | [] => 0
  | d :: r => uptoBulk d + uptoBulkAll r
def uptoBulkEntries {H : Type} : List (Lit × DataW H) → Nat
  | [] => 0
  | x :: r => uptoBulkEntry x + uptoBulkEntries r
def uptoBulkEntry {H : Type} : Lit × DataW H → Nat
  | (.string bytes, d) => bytes.length + uptoBulk d + 1
  | (_, d) => uptoBulk d + 1
 end
def uptoSmall : (H : Type) → List (DataW H) → Bool := fun _ ds => decide (uptoBulkAll ds ≤ 1048576)
def OpenSpec.upto (s : _root_.Go.ChangeSpec) : _root_.Go.OpenSpec := { _root_.Go.OpenSpec.ofChange s with cond := some uptoSmall }

/-- 'norialaw26.ServeLeaves', WHERE WHAT IT READS IS OF BULK AT MOST 1048576: true; the input reads as it did. -/
def serveLeavesUptoRow : OpenClaim := { program := "ytignlmfaoagolaagreat", sum := "a882c6b4651c3123be90e5bfe97592992923049a6431c7a05fcc85653b3cfb26", func := "noria/norialaw26.ServeLeaves", spec := "serveLeaves", inPlace := ["internal/bytealg.abigen_runtime_cmpstring"], unfollowed := true, recurses := true, apart := false, narrowed := true }
def ServeLeavesUptoSaid : Prop := serveLeavesUptoRow.holds Tryz.pinned (OpenSpec.upto serveLeavesSpec)

/-- 'norialaw26.ServeMany', WHERE WHAT IT READS IS OF BULK AT MOST 1048576: true; the input reads as it did. -/
def serveManyUptoRow : OpenClaim := { program := "ytignlmfaoagolaagreat", sum := "a882c6b4651c3123be90e5bfe97592992923049a6431c7a05fcc85653b3cfb26", func := "noria/norialaw26.ServeMany", spec := "serveMany", inPlace := ["internal/bytealg.abigen_runtime_cmpstring"], unfollowed := true, recurses := true, apart := false, narrowed := true }
def ServeManyUptoSaid : Prop := serveManyUptoRow.holds Tryz.pinned (OpenSpec.upto serveManySpec)

/-- 'norialaw27.WorldFalls', WHERE WHAT IT READS IS OF BULK AT MOST 1048576: true; the input reads as it did. -/
def worldFallsUptoRow : OpenClaim := { program := "ytignlmfaoagolaagreat", sum := "a882c6b4651c3123be90e5bfe97592992923049a6431c7a05fcc85653b3cfb26", func := "noria/norialaw27.WorldFalls", spec := "worldFalls", inPlace := ["internal/bytealg.abigen_runtime_cmpstring"], unfollowed := true, recurses := true, apart := false, narrowed := true }
def WorldFallsUptoSaid : Prop := worldFallsUptoRow.holds Tryz.pinned (OpenSpec.upto worldFallsSpec)

/-- 'norialaw27.WorldHandles', WHERE WHAT IT READS IS OF BULK AT MOST 1048576: true; the input reads as it did. -/
def worldHandlesUptoRow : OpenClaim := { program := "ytignlmfaoagolaagreat", sum := "a882c6b4651c3123be90e5bfe97592992923049a6431c7a05fcc85653b3cfb26", func := "noria/norialaw27.WorldHandles", spec := "worldHandles", inPlace := ["internal/bytealg.abigen_runtime_cmpstring"], unfollowed := true, recurses := true, apart := false, narrowed := true }
def WorldHandlesUptoSaid : Prop := worldHandlesUptoRow.holds Tryz.pinned (OpenSpec.upto worldHandlesSpec)

/-- 'norialaw28.DayDown', WHERE WHAT IT READS IS OF BULK AT MOST 1048576: true; the input reads as it did. -/
def dayDownUptoRow : OpenClaim := { program := "ytignlmfaoagolaagreat", sum := "a882c6b4651c3123be90e5bfe97592992923049a6431c7a05fcc85653b3cfb26", func := "noria/norialaw28.DayDown", spec := "dayDown", inPlace := ["internal/bytealg.abigen_runtime_cmpstring"], unfollowed := true, recurses := true, apart := false, narrowed := true }
def DayDownUptoSaid : Prop := dayDownUptoRow.holds Tryz.pinned (OpenSpec.upto dayDownSpec)

/-- 'norialaw28.DayUnder', WHERE WHAT IT READS IS OF BULK AT MOST 1048576: true; the input reads as it did. -/
def dayUnderUptoRow : OpenClaim := { program := "ytignlmfaoagolaagreat", sum := "a882c6b4651c3123be90e5bfe97592992923049a6431c7a05fcc85653b3cfb26", func := "noria/norialaw28.DayUnder", spec := "dayUnder", inPlace := ["internal/bytealg.abigen_runtime_cmpstring"], unfollowed := true, recurses := true, apart := false, narrowed := true }
def DayUnderUptoSaid : Prop := dayUnderUptoRow.holds Tryz.pinned (OpenSpec.upto dayUnderSpec)

end Rows
end Go.Proofs.YtignlmfaoagolaaGreat
