/-
  Texts of a proof over the translated program: NdPl0.
-/
import Derived.Test.YtcmjccjbgidinaaNdP2
import Derived.Deep.CutBlock
set_option linter.unusedVariables false
set_option linter.unnecessarySimpa false
set_option linter.unusedSimpArgs false
namespace Go.Proofs
open Go.RowKit
set_option maxRecDepth 100000
def ActAt (w : World) (p : Addr) : Prop := ∃ (op I : Int) (XA : Option Addr) (xn xm : Nat) (KA : Option Addr) (kn km : Nat) (bb : List UInt8) (kb : List Bool),
  w.cell? p = some (.int .i64 op) ∧ w.cell? (p.add 1) = some (.int .i64 I) ∧ w.cell? (p.add 2) = some (.slice XA xn xm) ∧ w.cell? (p.add 3) = some (.slice KA kn km) ∧
  bb.length = xn ∧ (0 < xn → ∃ X, XA = some X ∧ ∀ j u, (bb.map u8v)[j]? = some u → w.cell? (X.add j) = some u) ∧ kb.length = kn ∧ kn ≤ 9223372036854775807 ∧ xn ≤ 9223372036854775807 ∧ (∀ i, i < kn → ∃ a, KA = some a ∧ w.cell? (a.add i) = some (.bool (kb.getD i false)))
def YesP (w : World) (e : Ending) (w' : World) : Prop := e = .returned (.bool true) ∧ Below w.heap.size w w'
theorem Try.plays_cut (w : World) (blk : Int) (a : Option Addr) (n m : Nat) (h : 40 < n ∨ (64 < blk ∧ blk ≤ 1024)) : Calls Try.prog 3 #[.int .i64 blk, .slice a n m] w (YesP w) := by
  by_cases h1 : 40 < n
  · have hd : decide (40 < (n : Int)) = true := by simp; omega
    clear h
    go_enter Try.func3, Try.ntmps3
    go_wp2_with fail
    refine (Try.known10 _).mono ?_
    rintro e w1 ⟨rfl, hb1⟩
    have HB := Lib.hid hb1
    clear hb1
    go_wp2
    go_ret
    exact ⟨rfl, HB.out⟩
  · have hd : decide (40 < (n : Int)) = false := by simp; omega
    have hd2 : decide (64 < blk) = true := by simp; omega
    have hd3 : decide (blk ≤ 1024) = true := by simp; omega
    clear h
    go_enter Try.func3, Try.ntmps3
    go_wp2_with fail
    refine (Try.known10 _).mono ?_
    rintro e w1 ⟨rfl, hb1⟩
    have HB := Lib.hid hb1
    clear hb1
    go_wp2
    go_ret
    exact ⟨rfl, HB.out⟩
theorem Try.plays_none (w : World) (blk : Int) (a : Option Addr) (n m : Nat) (hn : n ≤ 40) (h : blk < 4 ∨ 1024 < blk) : Calls Try.prog 3 #[.int .i64 blk, .slice a n m] w (YesP w) := by
  have hd : decide (40 < (n : Int)) = false := by simp; omega
  have HH := Lib.hid h
  rcases h with h | h
  · have hd2 : decide (64 < blk) = false := by simp; omega
    go_enter Try.func3, Try.ntmps3
    go_wp2_with fail
    refine (Try.known10 _).mono ?_
    rintro e w1 ⟨rfl, hb1⟩
    have HB := Lib.hid hb1
    clear hb1
    go_wp2_with fail
    refine (Try.new_bad blk HH.out _).mono ?_
    rintro e w2 ⟨rfl, rfl⟩
    go_wp2_with fail
    refine (Try.rnew_bad blk HH.out _).mono ?_
    rintro e w2 ⟨rfl, rfl⟩
    go_wp2
    go_ret
    exact ⟨rfl, HB.out⟩
  · have hd2 : decide (64 < blk) = true := by simp; omega
    have hd3 : decide (blk ≤ 1024) = false := by simp; omega
    go_enter Try.func3, Try.ntmps3
    go_wp2_with fail
    refine (Try.known10 _).mono ?_
    rintro e w1 ⟨rfl, hb1⟩
    have HB := Lib.hid hb1
    clear hb1
    go_wp2_with fail
    refine (Try.new_bad blk HH.out _).mono ?_
    rintro e w2 ⟨rfl, rfl⟩
    go_wp2_with fail
    refine (Try.rnew_bad blk HH.out _).mono ?_
    rintro e w2 ⟨rfl, rfl⟩
    go_wp2
    go_ret
    exact ⟨rfl, HB.out⟩
theorem lr_start {w w1 w2 w3 : World} {k d m : Nat} {F G : Nat → Prop} (h1 : Below w.heap.size w w1) (hd : DV w2 F d k (List.replicate (64 * k) 0) (List.replicate (64 * k) 0) []) (h2 : Below w1.heap.size w1 w2) (hF : ∀ b, F b → w1.heap.size ≤ b)
    (hr : RV w3 G m k (List.replicate (64 * k) 0) []) (h3 : Below w2.heap.size w2 w3) (hG : ∀ b, G b → w2.heap.size ≤ b) : LR w k d m 0 w3 := by
  have s1 := h1.size
  have s2 := h2.size
  refine ⟨⟨F, G, _, [], hd.stay (Chg.below h3 (fun _ => False)) (fun _ _ => id), hr, Nat.le_refl _, fun b q1 q2 => ?_, fun b q => ?_, fun b q => ?_⟩, (h1.trans (h2.mono s1)).trans (h3.mono (Nat.le_trans s1 s2))⟩
  · have := hd.lt b q1; have := hG b q2; omega
  · have := hF b q; omega
  · have := hG b q; omega
end Go.Proofs
