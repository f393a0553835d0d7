/-
  Texts of a proof over the translated program: NdKq.
-/
import Derived.Test.YtcmjccjbgidinaaNdKp
import Derived.Test.YtcmjccjbgidinaaNdArg
set_option linter.unusedVariables false
set_option linter.unnecessarySimpa false
set_option linter.unusedSimpArgs false
namespace Go.Proofs
open Go.RowKit
set_option maxRecDepth 100000
theorem Try.keeps_long (w : World) (x A : Option Addr) (n m k mk : Nat) (sync : Bool) (h : 60 < n) : Calls Try.prog 5 #[.slice x n m, .slice A k mk, .bool sync] w (Yes' w) := by
  have hd : decide (60 < (n : Int)) = true := by simp; omega
  go_enter Try.func5, Try.ntmps5
  go_wp2_with fail
  refine (Try.known10 _).mono ?_
  rintro e w1 ⟨rfl, hb1⟩
  have HB := Lib.hid hb1
  clear hb1
  go_wp2
  go_ret
  exact ⟨rfl, HB.out⟩
theorem Try.keeps_all (a0 : Option Addr) (len0 cap0 : Nat) (z0 : List Int) (a1 : Option Addr) (len1 cap1 : Nat) (z1 : Nat → Bool) (a2 : Bool) (w : World) (w0 : IsRow .u8 w a0 len0 cap0 z0) (w1 : IsBits w a1 len1 cap1 z1) :
    Calls Try.prog 5 #[.slice a0 len0 cap0, .slice a1 len1 cap1, .bool a2] w fun e w' => e = .returned (.bool true) ∧ Below w.heap.size w w' := by
  by_cases hn : len0 ≤ 60
  · obtain ⟨l8, hl⟩ := w0.u8
    obtain ⟨keep, rfl, hk, hkc⟩ := w1.keep
    exact Try.keeps w a0 len0 cap0 l8 hn hl a1 keep cap1 hk hkc a2 (fun j => a2 || kpOf keep j) (fun j => rfl)
  · exact Try.keeps_long w a0 a1 len0 cap0 len1 cap1 a2 (by omega)
end Go.Proofs
