/-
  Texts of a proof over the translated program: NdArg.
-/
import Derived.Test.YtcmjccjbgidinaaNdA
set_option linter.unusedVariables false
namespace Go.Proofs
open Go.RowKit
/-- What a law is told of a slice of numbers, of truths, that came in. -/
def IsRow (k : IntKind) (w : World) (a : Option Addr) (len cap : Nat) (zs : List Int) : Prop :=
  (a = none ∧ len = 0 ∧ cap = 0 ∧ zs = []) ∨
  ∃ x, a = some x ∧ len ≤ cap ∧ cap ≤ maxLen ∧ zs.length = cap ∧ (∀ i, i < zs.length → w.cell? (x.add i) = some (.int k (zs.getD i 0))) ∧ ∀ n ∈ zs, (Lit.int k n).wf = true
def IsBits (w : World) (a : Option Addr) (len cap : Nat) (B : Nat → Bool) : Prop :=
  (a = none ∧ len = 0 ∧ cap = 0) ∨ ∃ x, a = some x ∧ len ≤ cap ∧ cap ≤ maxLen ∧ ∀ i, i < cap → w.cell? (x.add i) = some (.bool (B i))
theorem IsRow.u8 {w : World} {a : Option Addr} {len cap : Nat} {zs : List Int} (h : IsRow .u8 w a len cap zs) : ∃ l8 : Nat → UInt8, ∀ i, i < len → ∃ x, a = some x ∧ w.cell? (x.add i) = some (u8v (l8 i)) := by
  refine ⟨fun i => UInt8.ofNat (zs.getD i 0).toNat, fun i hi => ?_⟩
  rcases h with ⟨_, rfl, _⟩ | ⟨x, rfl, hl, hm, hz, hc, hw⟩
  · omega
  · refine ⟨x, rfl, ?_⟩
    have hi' : i < zs.length := by omega
    rw [hc i hi']
    have h1 := hw (zs.getD i 0) (by rw [List.getD_eq_getElem?_getD, List.getElem?_eq_getElem hi']; exact List.getElem_mem _)
    simp [Lit.wf, IntKind.min, IntKind.max, IntKind.bits, IntKind.signed] at h1
    unfold u8v
    congr 2
    simp only [UInt8.toNat_ofNat']
    simp only [List.getD_eq_getElem?_getD] at h1 ⊢
    omega
theorem IsBits.keep {w : World} {a : Option Addr} {len cap : Nat} {B : Nat → Bool} (h : IsBits w a len cap B) : ∃ keep : List Bool, keep.length = len ∧ len ≤ 9223372036854775807 ∧ ∀ i, i < len → ∃ x, a = some x ∧ w.cell? (x.add i) = some (.bool (keep.getD i false)) := by
  refine ⟨(List.range len).map B, by simp, ?_, fun i hi => ?_⟩
  · rcases h with ⟨_, rfl, _⟩ | ⟨x, rfl, hl, hm, hc⟩
    · omega
    · unfold maxLen at hm; omega
  · rcases h with ⟨_, rfl, _⟩ | ⟨x, rfl, hl, hm, hc⟩
    · omega
    · refine ⟨x, rfl, ?_⟩
      rw [hc i (by omega), List.getD_eq_getElem?_getD, List.getElem?_map, List.getElem?_range hi]
      rfl
end Go.Proofs
