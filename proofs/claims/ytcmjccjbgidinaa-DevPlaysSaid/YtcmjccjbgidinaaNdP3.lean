/-
  Texts of a proof over the translated program: NdP3.
-/
import Derived.Test.YtcmjccjbgidinaaNdP2
set_option linter.unusedVariables false
set_option linter.unnecessarySimpa false
set_option linter.unusedSimpArgs false
namespace Go.Proofs
open Go.RowKit
set_option maxRecDepth 100000
def rcc (k : Nat) (I : Int) : Int := if 0 ≤ I ∧ I < k then 0 else 1
def rll (k : Nat) (I : Int) (T : List UInt8) : List UInt8 := if 0 ≤ I ∧ I < k then (T.drop (I.toNat * 64)).take 64 else []
def RdP (w : World) (c : Int) (l : List UInt8) (e : Ending) (w' : World) : Prop := ∃ v, e = .returned (.tuple #[v, .int .i64 c]) ∧ Below w.heap.size w w' ∧ ∀ w2, Below w'.heap.size w' w2 → (convert 31 9 v).run Try.prog w2 = .ok (.string (strOf l)) w2
theorem rd_of_good {w w' : World} {k : Nat} {I : Int} {T l : List UInt8} {e : Ending} (hI : 0 ≤ I ∧ I < k) (hl : l = (T.drop (I.toNat * 64)).take 64) (hlen : l.length = 64) (h : ReadGood w l e w') : RdP w (rcc k I) (rll k I T) e w' := by
  obtain ⟨b, c, rfl, h1, h2, h3, h4⟩ := h
  unfold rcc rll
  rw [if_pos hI, if_pos hI, ← hl]
  refine ⟨_, rfl, h4, fun w2 hb => ?_⟩
  exact (h3.congr (hb.block b h3.lt)).str 64 hlen c
theorem rd_of_bad {w : World} {k : Nat} {I : Int} {T : List UInt8} {e : Ending} (hI : ¬ (0 ≤ I ∧ I < k)) (h : e = .returned (.tuple #[.slice none 0 0, .int .i64 1])) : RdP w (rcc k I) (rll k I T) e w := by
  subst h
  unfold rcc rll
  rw [if_neg hI, if_neg hI]
  exact ⟨_, rfl, Below.refl _ _, fun w2 _ => run_convert_bytes_nil (w := w2) 31 5 Try.underlying31 Try.underlying5 0 0 9 Try.underlying9⟩
theorem Try.rd_any {w : World} {F : Nat → Prop} {d k : Nat} {L T : List UInt8} {Q : List (Nat × List UInt8)} (hd : DV w F d k L T Q) (I : Int) :
    Calls Try.prog 21 #[.pointer (some ⟨d, 0, none⟩), .int .i64 I] w (RdP w (rcc k I) (rll k I T)) := by
  obtain ⟨lb, cl, tb, ct, vw, ds, h⟩ := hd
  by_cases hI : 0 ≤ I ∧ I < k
  · obtain ⟨i, rfl⟩ : ∃ i : Nat, I = i := ⟨I.toNat, by omega⟩
    have hk := h.Tl
    refine (Try.read_good h i (by omega)).mono ?_
    intro e w' hr
    exact rd_of_good hI (by first | rfl | simp [Nat.mul_comm]) (by simp [hk]; omega) hr
  · refine (Try.read_bad h I (by omega)).mono ?_
    rintro e w' ⟨rfl, rfl⟩
    exact rd_of_bad hI rfl
theorem Try.rrd_any {w : World} {F : Nat → Prop} {m k : Nat} {D : List UInt8} {Q : List (Nat × List UInt8)} (hd : RV w F m k D Q) (hQ : Q.length ≤ 1000000) (I : Int) :
    Calls Try.prog 22 #[.pointer (some ⟨m, 0, none⟩), .int .i64 I] w (RdP w (rcc k I) (rll k I (dset (fun _ => true) 0 Q D))) := by
  obtain ⟨db, dc, A, wc, ds, h⟩ := hd
  by_cases hI : 0 ≤ I ∧ I < k
  · obtain ⟨i, rfl⟩ : ∃ i : Nat, I = i := ⟨I.toNat, by omega⟩
    have hq : AllQ k Q := AllW.q _ _ h.al
    have hl : D.length = 64 * k := h.Dl
    have ht := told_dset k D hl i (by omega) Q.length Q rfl hq
    have hll := dset_len (fun _ => true) k Q 0 D hq hl
    refine (Try.rread_good h hQ i (by omega)).mono ?_
    intro e w' hr
    exact rd_of_good hI ht (by rw [ht]; simp [hll]; omega) hr
  · refine (Try.rread_bad h I (by omega)).mono ?_
    rintro e w' ⟨rfl, rfl⟩
    exact rd_of_bad hI rfl
def KeepAt (w : World) (KA : Option Addr) (kb : List Bool) : Prop := ∀ i, i < kb.length → ∃ a, KA = some a ∧ w.cell? (a.add i) = some (.bool (kb.getD i false))
theorem KeepAt.bel {w w' : World} {KA : Option Addr} {kb : List Bool} (h : KeepAt w KA kb) (hb : Below w.heap.size w w') : KeepAt w' KA kb := fun i hi => by
  obtain ⟨a, rfl, hc⟩ := h i hi
  exact ⟨a, rfl, cellW hc hb⟩
theorem KeepAt.out {w : World} {KA : Option Addr} {kb : List Bool} (h : KeepAt w KA kb) {F : Nat → Prop} (hF : ∀ b, F b → w.heap.size ≤ b) : ∀ a, KA = some a → 0 < kb.length → ¬ F a.block := fun a ha h0 q => by
  obtain ⟨a', h1, hc⟩ := h 0 h0
  obtain rfl : a = a' := by rw [ha] at h1; exact Option.some.inj h1
  have h2 : a.block < w.heap.size := block_lt_of_cell hc
  have := hF _ q
  omega
theorem Try.same' {w0 w : World} {k d m j : Nat} (h : LR w0 k d m j w) (hj : j ≤ 100) : Calls Try.prog 23 #[.pointer (some ⟨d, 0, none⟩), .pointer (some ⟨m, 0, none⟩)] w (Told w true) := by
  obtain ⟨⟨F, G, L, Q, h1, h2, h3, h4⟩, h5⟩ := h
  obtain ⟨lb, cl, tb, ct, vw, ds, h1⟩ := h1
  obtain ⟨db, dc, A, wc, es, h2⟩ := h2
  exact Try.same h1 h2 rfl (by omega) rfl
end Go.Proofs
