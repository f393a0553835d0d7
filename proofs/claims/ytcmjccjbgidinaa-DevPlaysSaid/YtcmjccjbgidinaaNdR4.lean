/-
  Texts of a proof over the translated program: NdR4.
-/
import Derived.Test.YtcmjccjbgidinaaNdR3
set_option linter.unusedVariables false
set_option linter.unnecessarySimpa false
set_option linter.unusedSimpArgs false
namespace Go.Proofs
open Go.RowKit
set_option maxRecDepth 100000
/-- The document's Bytes. -/
theorem Try.rbytes {w : World} {F : Nat → Prop} {m k db dc wc : Nat} {A : Option Addr} {ds : List (Nat × Nat)} {D : List UInt8} {Q : List (Nat × List UInt8)} (h : RW w F m k db dc A wc ds D Q) (hQ : Q.length ≤ 1000000) :
    Calls Try.prog 32 #[.pointer (some ⟨m, 0, none⟩)] w (Cloned w (64 * k) (dset (fun _ => true) 0 Q D)) := by
  have H := Lib.hid h
  clear h
  go_enter Try.func32, Try.ntmps32
  go_wp2_with fail
  refine (Try.rtwin H.out hQ).mono ?_
  rintro e w1 ⟨m1, rfl, F1, db1, dc1, A1, wc1, ds1, h1, hm1, ch1⟩
  have H1 := Lib.hid h1
  have C1 := Lib.hid ch1
  clear h1 ch1
  go_wp2_with fail
  refine (Try.rsync H1.out hQ).mono ?_
  rintro e w2 ⟨rfl, F2, h2, u2, ch2, db2, c2, hc2, hs2, hb2, hk2⟩
  have hs1 := (C1.out).size
  have HC : Hid (Cloned w (64 * k) (dset (fun _ => true) 0 Q D) (.returned (.slice (some ⟨db2, 0, none⟩) (64 * k) c2)) w2) := Lib.hid ⟨db2, c2, rfl, by omega, hk2, hb2, by
    have q := (C1.out).trans' ch2 (fun b hb e => by have : b = m1 := e; omega)
    exact ⟨q.os, q.tape, q.output, q.size, fun b hb => q.block b hb id⟩⟩
  clear h2 u2 ch2 hb2 hk2
  go_wp2
  go_ret
  exact HC.out
theorem Try.dof_good (A : Addr) (k mm : Nat) (h4 : 4 ≤ k) (hk : k ≤ 1024) (w : World) (l : List UInt8) (hl : l.length = 64 * k) (hc : ∀ j u, (l.map u8v)[j]? = some u → w.cell? (A.add j) = some u) :
    Calls Try.prog 24 #[.slice (some A) (64 * k) mm] w fun e w' => ∃ v, e = .returned (.tuple #[v, .int .i64 0]) ∧ NewDev w k l v w' := by
  have HL := Lib.hid hl
  have HC := Lib.hid hc
  have q1 : 64 * k / 64 = k := by omega
  have q2 : decide (k < 4) = false := by simp; omega
  have q3 : decide (1024 < k) = false := by simp; omega
  have q5 : ¬ k < 4 := by omega
  have q6 : ¬ 1024 < k := by omega
  clear hl hc
  go_enter Try.func24, Try.ntmps24
  go_wp2_with fail
  refine (Try.of A k mm hk w l HL.out HC.out).mono ?_
  rintro e w1 ⟨v, rfl, d, F, rfl, h2, h3, h4'⟩
  have H : Hid (NewDev w k l (.pointer (some ⟨d, 0, none⟩)) w1) := Lib.hid ⟨d, F, rfl, h2, h3, h4'⟩
  clear h2 h3 h4'
  go_wp2
  go_ret2
  exact ⟨_, rfl, H.out⟩
theorem Try.dof_bad (A : Option Addr) (n mm : Nat) (h : n % 64 ≠ 0 ∨ n < 256 ∨ 65536 < n) (hm : n ≤ maxLen) (w : World) :
    Calls Try.prog 24 #[.slice A n mm] w fun e w' => e = .returned (.tuple #[.pointer none, .int .i64 1]) ∧ w = w' := by
  unfold maxLen at hm
  by_cases h1 : n % 64 = 0
  · have q1 : ((n : Nat) : Int) % 64 = 0 := by omega
    by_cases h2 : n < 256
    · have q2 : decide ((n / 64 : Nat) < 4) = true := by simp; omega
      have q4 : ((n : Nat) : Int) / 64 < 4 := by omega
      clear h
      go_enter Try.func24, Try.ntmps24
      go_wp2
      go_ret2
      exact ⟨rfl, rfl⟩
    · have q2 : decide ((n / 64 : Nat) < 4) = false := by simp; omega
      have q3 : decide (1024 < (n / 64 : Nat)) = true := by simp; omega
      have q4 : (1024 : Int) < ((n : Nat) : Int) / 64 := by omega
      have q5 : ¬ ((n : Nat) : Int) / 64 < 4 := by omega
      clear h
      go_enter Try.func24, Try.ntmps24
      go_wp2
      go_ret2
      exact ⟨rfl, rfl⟩
  · have q1 : (((n : Nat) : Int) % 64 == 0) = false := by simp; omega
    have q2 : (((n : Nat) : Int) % 64 != 0) = true := by simp; omega
    have q3 : ¬ ((n : Nat) : Int) % 64 = 0 := by omega
    clear h h1
    go_enter Try.func24, Try.ntmps24
    go_wp2
    go_ret2
    exact ⟨rfl, rfl⟩
end Go.Proofs
