/-
  Texts of a proof over the translated program: NdWq.
-/
import Derived.Test.YtcmjccjbgidinaaNdW
import Derived.Test.YtcmjccjbgidinaaNdArg
set_option linter.unusedVariables false
set_option linter.unnecessarySimpa false
set_option linter.unusedSimpArgs false
namespace Go.Proofs
open Go.RowKit
set_option maxRecDepth 100000
theorem Try.twins_long (w : World) (xa xb A : Option Addr) (n1 m1 n2 m2 k mk : Nat) (h : 40 < n1 ∨ 40 < n2) : Calls Try.prog 6 #[.slice xa n1 m1, .slice xb n2 m2, .slice A k mk] w (YesW w) := by
  by_cases h1 : 40 < n1
  · have hd : decide (40 < (n1 : Int)) = true := by simp; omega
    clear h
    go_enter Try.func6, Try.ntmps6
    go_wp2_with fail
    refine (Try.known10 _).mono ?_
    rintro e w1 ⟨rfl, hb1⟩
    have HB := Lib.hid hb1
    clear hb1
    go_wp2
    go_ret
    exact ⟨rfl, HB.out⟩
  · have hd : decide (40 < (n1 : Int)) = false := by simp; omega
    have hd2 : decide (40 < (n2 : Int)) = true := by simp; omega
    clear h
    go_enter Try.func6, Try.ntmps6
    go_wp2_with fail
    refine (Try.known10 _).mono ?_
    rintro e w1 ⟨rfl, hb1⟩
    have HB := Lib.hid hb1
    clear hb1
    go_wp2
    go_ret
    exact ⟨rfl, HB.out⟩
theorem Try.twins_all (a0 : Option Addr) (len0 cap0 : Nat) (z0 : List Int) (a1 : Option Addr) (len1 cap1 : Nat) (z1 : List Int) (a2 : Option Addr) (len2 cap2 : Nat) (z2 : Nat → Bool) (w : World) (w0 : IsRow .u8 w a0 len0 cap0 z0) (w1 : IsRow .u8 w a1 len1 cap1 z1) (w2 : IsBits w a2 len2 cap2 z2) :
    Calls Try.prog 6 #[.slice a0 len0 cap0, .slice a1 len1 cap1, .slice a2 len2 cap2] w fun e w' => e = .returned (.bool true) ∧ Below w.heap.size w w' := by
  by_cases h : 40 < len0 ∨ 40 < len1
  · exact Try.twins_long w a0 a1 a2 len0 cap0 len1 cap1 len2 cap2 h
  · obtain ⟨la, hl1⟩ := w0.u8
    obtain ⟨lb, hl2⟩ := w1.u8
    obtain ⟨keep, rfl, hk, hkc⟩ := w2.keep
    exact Try.twins w a0 a1 len0 cap0 len1 cap1 la lb (by omega) (by omega) hl1 hl2 a2 keep cap2 hk hkc
end Go.Proofs
