/-
  Texts of a proof over the translated program: NdS.
-/
import Derived.Test.YtcmjccjbgidinaaNdD
import Derived.Lib.SlBytesRow
set_option linter.unusedVariables false
set_option linter.unnecessarySimpa false
set_option linter.unusedSimpArgs false
namespace Go.Proofs
open Go.RowKit
set_option maxRecDepth 100000
/-- Bytes as a string. -/
def strOf (l : List UInt8) : ByteArray := ⟨l.toArray⟩
theorem strOf_size (l : List UInt8) : (strOf l).size = l.length := by simp [strOf, ByteArray.size]
theorem BY.bytes {w : World} {b : Nat} {l : List UInt8} {c : Nat} (h : BY w b l c) : Lib.Bytes w b 0 (strOf l) := by
  intro i hi
  rw [Nat.zero_add]
  have hi' : i < l.length := by rw [strOf_size] at hi; exact hi
  rw [h.cell i hi']
  rfl
theorem BY.str {w : World} {b : Nat} {l : List UInt8} {c : Nat} (h : BY w b l c) (n : Nat) (hn : l.length = n) (m : Nat) : (convert 31 9 (.slice (some ⟨b, 0, none⟩) n m)).run Try.prog w = .ok (.string (strOf l)) w := by
  subst hn
  have := Lib.run_convert_whole (P := Try.prog) w 31 5 9 Try.underlying31 Try.underlying5 Try.underlying9 b 0 (strOf l) h.bytes m
  rw [strOf_size] at this
  exact this
theorem step_want {P : Program} {ops : Array Oper} {o : Oper} {a : Act} {w : World} {K : Act → World → Prop} {Q : Exit → Act → World → Prop} {E : Prop} (hw : Region.wanted o (yielded ops a.tmps) = true) (h : Oper.wp P o a w K Q) :
    if Region.wanted o (yielded ops a.tmps) = true then Oper.wp P o a w K Q else E := by
  rw [if_pos hw]
  exact h
theorem win_same (T bb : List UInt8) (i k : Nat) (hT : T.length = 64 * k) (hi : i < k) (hb : bb.length = 64) : ((T.take (64 * i) ++ (bb ++ T.drop (64 * i + 64))).drop (i * 64)).take 64 = bb := by
  have h1 : (T.take (64 * i)).length = i * 64 := by simp; omega
  rw [List.drop_append_of_le_length (by omega), List.drop_of_length_le (by omega), List.nil_append, List.take_append_of_le_length (by omega), List.take_of_length_le (by omega)]
theorem win_rep (n i k : Nat) (x : UInt8) (hi : i < k) : ((List.replicate (64 * k) x).drop (i * 64)).take 64 = List.replicate 64 x := by
  rw [List.drop_replicate, List.take_replicate]
  congr 1
  omega
/-- A device stays where nothing of its own has turned. -/
theorem DW.keep {w w' : World} {F S : Nat → Prop} {d k lb cl tb ct : Nat} {vw : Value} {ds : List (Nat × Nat)} {L T : List UInt8} {Q : List (Nat × List UInt8)} (hd : DW w F d k lb cl tb ct vw ds L T Q) (hc : Chg w w' S) (hS : ∀ b, F b → ¬ S b) :
    DW w' F d k lb cl tb ct vw ds L T Q := by
  have hb : ∀ b, F b → w'.heap[b]? = w.heap[b]? := fun b h => hc.block b (hd.lt b h) (hS b h)
  exact ⟨fun b h => Nat.lt_of_lt_of_le (hd.lt b h) hc.size, (hb d hd.fd).trans hd.here, hd.fd, hd.fl, hd.ft, hd.dl, hd.dt, hd.lt', hd.hk, hd.Ll, hd.Tl, hd.bl.congr (hb lb hd.fl), hd.bt.congr (hb tb hd.ft), hd.cl', hd.ct', own_stay hd.ow (fun b h => hb b (hd.fw b h).1), hd.fw, AllW.stay (fun b q => q) (fun b q1 q2 => ⟨hb b q1, q2⟩) _ _ hd.al⟩
end Go.Proofs
