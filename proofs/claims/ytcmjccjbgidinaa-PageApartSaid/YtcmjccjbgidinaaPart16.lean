/-
  Texts of a proof over the translated program: proved evaluators and walks, part 16 of 17.
-/
import Derived.Test.YtcmjccjbgidinaaPart15
import Derived.Below
import Derived.Deep.CutBlock
import Derived.Deep.RegionHeld3
import Derived.Deep.RegionLaw
import Derived.Deep.RegionLawGrows
import Derived.Deep.RegionWith
import Derived.Handy
import Derived.IntWalk
import Derived.Laws.CopyOwn
import Derived.Laws.MakeOwn
import Derived.Lib.Hide
import Derived.Lib.SlBytesRow
import Derived.LoopTactic
import Derived.Outline
import Derived.OwnWalk
import Derived.Scope
import Derived.ScopeJumps
import Derived.Test.YtcmjccjbgidinaaProg
import Derived.WalkKit
import Derived.WalkSpells
set_option linter.unusedVariables false
set_option linter.unusedSimpArgs false
set_option linter.unusedSectionVars false
set_option linter.unnecessarySimpa false
section
namespace Go.Proofs
open Go.RowKit
set_option maxRecDepth 100000
def ActAt (w : World) (p : Addr) : Prop := ∃ (op I : Int) (XA : Option Addr) (xn xm : Nat) (KA : Option Addr) (kn km : Nat) (bb : List UInt8) (kb : List Bool),
  w.cell? p = some (.int .i64 op) ∧ w.cell? (p.add 1) = some (.int .i64 I) ∧ w.cell? (p.add 2) = some (.slice XA xn xm) ∧ w.cell? (p.add 3) = some (.slice KA kn km) ∧
  bb.length = xn ∧ (0 < xn → ∃ X, XA = some X ∧ ∀ j u, (bb.map u8v)[j]? = some u → w.cell? (X.add j) = some u) ∧ kb.length = kn ∧ kn ≤ 9223372036854775807 ∧ xn ≤ 9223372036854775807 ∧ (∀ i, i < kn → ∃ a, KA = some a ∧ w.cell? (a.add i) = some (.bool (kb.getD i false)))
def YesP (w : World) (e : Ending) (w' : World) : Prop := e = .returned (.bool true) ∧ Below w.heap.size w w'
end Go.Proofs
end

section
namespace Go.Proofs
open Go.RowKit
set_option maxRecDepth 100000
def rcc (k : Nat) (I : Int) : Int := if 0 ≤ I ∧ I < k then 0 else 1
def rll (k : Nat) (I : Int) (T : List UInt8) : List UInt8 := if 0 ≤ I ∧ I < k then (T.drop (I.toNat * 64)).take 64 else []
def RdP (w : World) (c : Int) (l : List UInt8) (e : Ending) (w' : World) : Prop := ∃ v, e = .returned (.tuple #[v, .int .i64 c]) ∧ Below w.heap.size w w' ∧ ∀ w2, Below w'.heap.size w' w2 → (convert 31 9 v).run Try.prog w2 = .ok (.string (strOf l)) w2
def KeepAt (w : World) (KA : Option Addr) (kb : List Bool) : Prop := ∀ i, i < kb.length → ∃ a, KA = some a ∧ w.cell? (a.add i) = some (.bool (kb.getD i false))
theorem KeepAt.bel {w w' : World} {KA : Option Addr} {kb : List Bool} (h : KeepAt w KA kb) (hb : Below w.heap.size w w') : KeepAt w' KA kb := fun i hi => by
  obtain ⟨a, rfl, hc⟩ := h i hi
  exact ⟨a, rfl, cellW hc hb⟩
theorem KeepAt.out {w : World} {KA : Option Addr} {kb : List Bool} (h : KeepAt w KA kb) {F : Nat → Prop} (hF : ∀ b, F b → w.heap.size ≤ b) : ∀ a, KA = some a → 0 < kb.length → ¬ F a.block := fun a ha h0 q => by
  obtain ⟨a', h1, hc⟩ := h 0 h0
  obtain rfl : a = a' := by rw [ha] at h1; exact Option.some.inj h1
  have h2 : a.block < w.heap.size := block_lt_of_cell hc
  have := hF _ q
  omega
end Go.Proofs
end
