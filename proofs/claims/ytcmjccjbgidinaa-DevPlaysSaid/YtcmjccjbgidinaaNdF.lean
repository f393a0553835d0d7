/-
  Texts of a proof over the translated program: NdF.
-/
import Derived.Test.YtcmjccjbgidinaaNdE
import Derived.Test.YtcmjccjbgidinaaNdF0
import Derived.Test.YtcmjccjbgidinaaNdS
set_option linter.unusedVariables false
set_option linter.unnecessarySimpa false
set_option linter.unusedSimpArgs false
namespace Go.Proofs
open Go.RowKit
set_option maxRecDepth 100000
theorem Settled.upd {w w' : World} {F : Nat → Prop} {d k lb cl tb ct : Nat} {L T : List UInt8} {e : Ending} (h : Settled w F d k lb cl tb ct L T e w') : Upd w w' F F := by
  obtain ⟨_, h1, h2⟩ := h
  exact ⟨h2.os, h2.tape, h2.output, h2.size, fun b hb hn => h2.block b hb (fun q => hn (by rcases q with rfl | rfl; exact h1.fl; exact h1.fd)), fun b hb => .inl hb⟩
theorem Try.sync {w : World} {F : Nat → Prop} {d k lb cl tb ct : Nat} {vw : Value} {ds : List (Nat × Nat)} {L T : List UInt8} {Q : List (Nat × List UInt8)} (hd : DW w F d k lb cl tb ct vw ds L T Q) (hQ : Q.length ≤ 1000000) :
    Calls Try.prog 15 #[.pointer (some ⟨d, 0, none⟩)] w (Settled w F d k lb cl tb ct (dset (fun _ => true) 0 Q L) T) := by
  go_enter Try.func15, Try.ntmps15
  go_wp2_with fail
  refine (Try.settle w F d k lb cl tb ct vw ds L T Q hd hQ 42 #[] (fun _ => true) (fun v w => cf42 v w) (fun j wr _ _ => Try.c42 _ wr)).mono ?_
  intro e w1 h
  have H := Lib.hid h
  obtain ⟨rfl, -, -⟩ := h
  go_wp2
  go_end0
  exact H.out
/-- What a Crash leaves. -/
def Crashed (w : World) (F : Nat → Prop) (d k : Nat) (L : List UInt8) (e : Ending) (w' : World) : Prop := e = .returned (.tuple #[]) ∧ ∃ F', DV w' F' d k L L [] ∧ Upd w w' F F'
theorem crash_post {w w0 w1 w2 : World} {F : Nat → Prop} {d k lb cl tb ct nb c : Nat} {L T : List UInt8} (hlt : ∀ b, F b → b < w.heap.size) (h0 : Chg w w0 (fun _ => False)) (hd : DW w1 F d k lb cl tb ct (.slice none 0 0) [] L T []) (h1 : Chg w0 w1 (fun b => b = lb ∨ b = d)) (h2 : Chg w1 w2 (fun _ => False))
    (hnb : w1.heap.size ≤ nb) (hb : BY w2 nb L c) (hc : 64 * k ≤ c) : Crashed w F d k L (.returned (.tuple #[])) (w2.setCell ⟨d, 1, none⟩ (.slice (some ⟨nb, 0, none⟩) (64 * k) c)) := by
  have s0 := h0.size
  have s1 := h1.size
  have s2 := h2.size
  have hnl := hb.lt
  have hdl := hd.lt
  have hne : ∀ b, F b → b ≠ nb := fun b q => by have := hdl b q; omega
  have hsz : (w2.setCell ⟨d, 1, none⟩ (.slice (some ⟨nb, 0, none⟩) (64 * k) c)).heap.size = w2.heap.size := by simp [World.setCell]
  have hk : ∀ b, b ≠ d → (w2.setCell ⟨d, 1, none⟩ (.slice (some ⟨nb, 0, none⟩) (64 * k) c)).heap[b]? = w2.heap[b]? := fun b h => Below.heap_setCell _ _ _ _ h
  refine ⟨rfl, fun b => F b ∨ (w.heap.size ≤ b ∧ b < w2.heap.size), ⟨lb, cl, nb, c, .slice none 0 0, [], ?_⟩, ?_⟩
  · refine ⟨?_, ?_, .inl hd.fd, .inl hd.fl, .inr ⟨by omega, hnl⟩, hd.dl, hne d hd.fd, hne lb hd.fl, hd.hk, hd.Ll, hd.Ll, ?_, ?_, hd.cl', hc, World.ownsRow_nil _ _ _ _, fun b q => by simp [vblk] at q, trivial⟩
    · intro b q
      rw [hsz]
      rcases q with q | q
      · exact Nat.lt_of_lt_of_le (hdl b q) s2
      · exact q.2
    · rw [heap_setCell_same w2 d 1 _ 71 _ ((h2.block d (hdl d hd.fd) id).trans hd.here)]; rfl
    · exact (hd.bl.congr (h2.block lb (hdl lb hd.fl) id)).congr (hk lb hd.dl.symm)
    · exact hb.congr (hk nb (fun e => hne d hd.fd e.symm))
  · refine ⟨h2.os.trans (h1.os.trans h0.os), h2.tape.trans (h1.tape.trans h0.tape), h2.output.trans (h1.output.trans h0.output), by rw [hsz]; omega, fun b hb' hn => ?_, fun b q => q.imp id (·.1)⟩
    have e1 : b ≠ d := fun e => hn (e ▸ hd.fd)
    have e2 : b ≠ lb := fun e => hn (e ▸ hd.fl)
    rw [hk b e1, h2.block b (by omega) id, h1.block b (by omega) (fun q => by rcases q with q | q <;> contradiction), h0.block b hb' id]
theorem Try.crash {w : World} {F : Nat → Prop} {d k lb cl tb ct : Nat} {vw : Value} {ds : List (Nat × Nat)} {L T : List UInt8} {Q : List (Nat × List UInt8)} (hd : DW w F d k lb cl tb ct vw ds L T Q) (hQ : Q.length ≤ 1000000)
    (A : Option Addr) (keep : List Bool) (mk : Nat) (hk : keep.length ≤ 9223372036854775807) (hkc : ∀ i, i < keep.length → ∃ a, A = some a ∧ w.cell? (a.add i) = some (.bool (keep.getD i false))) (hA : ∀ a, A = some a → 0 < keep.length → ¬ F a.block) :
    Calls Try.prog 17 #[.pointer (some ⟨d, 0, none⟩), .slice A keep.length mk] w (Crashed w F d k (dset (kpOf keep) 0 Q L)) := by
  have h0 : Chg w (w.alloc (.cells #[.slice A keep.length mk] 32)) (fun _ => False) := Chg.alloc _ _ _
  have hd0 := hd.keep h0 (fun _ _ => id)
  have hp : (w.alloc (.cells #[.slice A keep.length mk] 32)).cell? ⟨w.heap.size, 0, none⟩ = some (.slice A keep.length mk) := by
    rw [cell_of_row _ _ _ _ 32 (0, 0) (heap_alloc_new w _)]; rfl
  have hll := hd.lt lb hd.fl
  have HLT := Lib.hid hd.lt
  have hfl := hd.fl
  have hclos : ∀ (j : Nat) (wr : World), j < Q.length → Chg (w.alloc (.cells #[.slice A keep.length mk] 32)) wr (· = lb) → Calls Try.prog 43 (#[.int .i64 j] ++ #[.pointer (some ⟨w.heap.size, 0, none⟩)]) wr fun e w' => e = .returned (.bool (kpOf keep j)) ∧ wr = w' := by
    intro j wr hj hc
    refine Try.c43 w.heap.size keep hk A mk j wr ?_ ?_
    · exact (World.cell?_of_block (w := w.alloc (.cells #[.slice A keep.length mk] 32)) (hc.block w.heap.size (by simp) (by omega))).trans hp
    · intro i hi
      obtain ⟨a, ha, hca⟩ := hkc i hi
      refine ⟨a, ha, ?_⟩
      have hb : (a.add i).block = a.block := by unfold Addr.add; split <;> rfl
      have hlt := block_lt_of_cell hca
      rw [hb] at hlt
      have e1 : wr.heap[a.block]? = w.heap[a.block]? := by
        rw [hc.block a.block (Nat.lt_of_lt_of_le hlt h0.size) (fun e => hA a ha (by omega) (e ▸ hfl))]
        exact h0.block a.block hlt id
      exact (World.cell?_of_block (w := w) (by rw [hb]; exact e1)).trans hca
  have HC := Lib.hid hclos
  have HD0 := Lib.hid hd0
  have H0 := Lib.hid h0
  clear hd hd0 h0 hp hkc hA hclos hll hfl
  go_enter Try.func17, Try.ntmps17
  go_wp2_with fail
  refine (Try.settle _ F d k lb cl tb ct vw ds L T Q HD0.out hQ 43 #[.pointer (some ⟨w.heap.size, 0, none⟩)] (kpOf keep) (fun v w => cf43 v _ w) HC.out).mono ?_
  rintro e w1 ⟨rfl, hd1, hc1⟩
  have c0 := hd1.c0
  have hk1 := hd1.hk
  have HL1 := Lib.hid hd1.Ll
  have hal := hd1.bl.all
  have HD1 := Lib.hid hd1
  have HC1 := Lib.hid hc1
  clear hd1 hc1
  go_wp2_with fail
  refine (Try.clone ⟨lb, 0, none⟩ (64 * k) cl w1 (by omega) _ HL1.out hal).mono ?_
  rintro e w2 ⟨nb, c, rfl, hn, hc, hb, hw2⟩
  have ch2 : Chg w1 w2 (fun _ => False) := Chg.below hw2 _
  have hhere := (ch2.block d ((HD1.out).lt d (HD1.out).fd) id).trans (HD1.out).here
  have c1 : w2.cell? ⟨d, 1, none⟩ = some (.slice (some ⟨tb, 0, none⟩) (64 * k) ct) := by rw [cell_of_row w2 d 1 _ 71 (0, 0) hhere]; rfl
  have f1 := frozen_of_row w2 d 1 _ 71 hhere
  have H := Lib.hid (crash_post HLT.out H0.out HD1.out HC1.out ch2 hn hb hc)
  clear hhere ch2 hb hw2 hn hc hal c0
  go_wp2
  go_end0
  exact H.out
end Go.Proofs
