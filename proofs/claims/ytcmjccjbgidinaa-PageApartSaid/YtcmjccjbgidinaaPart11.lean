/-
  Texts of a proof over the translated program: proved evaluators and walks, part 11 of 17.
-/
import Derived.Test.YtcmjccjbgidinaaPart10
import Derived.Below
import Derived.Deep.RegionLaw
import Derived.Deep.RegionLawGrows
import Derived.Deep.RegionWith
import Derived.Handy
import Derived.IntWalk
import Derived.Laws.CopyOwn
import Derived.Laws.MakeOwn
import Derived.Lib.Hide
import Derived.LoopTactic
import Derived.Outline
import Derived.OwnWalk
import Derived.Scope
import Derived.Test.YtcmjccjbgidinaaProg
import Derived.WalkKit
import Derived.WalkSpells
set_option linter.unusedVariables false
set_option linter.unusedSimpArgs false
set_option linter.unusedSectionVars false
set_option linter.unnecessarySimpa false
section
namespace Go.Proofs
open Go.RowKit
set_option maxRecDepth 100000
theorem cells_of_eq {w w' : World} {A : Addr} {xs : List Value} (h : ∀ j u, xs[j]? = some u → w.cell? (A.add j) = some u) (hb : A.block < w.heap.size → w'.heap[A.block]? = w.heap[A.block]?) : ∀ j u, xs[j]? = some u → w'.cell? (A.add j) = some u := by
  intro j u hu
  have h1 := h j u hu
  have h2 := block_lt_of_cell h1
  have e : (A.add j).block = A.block := by unfold Addr.add; split <;> rfl
  exact (World.cell?_of_block (w := w) (by rw [e] at h2 ⊢; exact hb h2)).trans h1
theorem cells_below {w w' : World} {A : Addr} {xs : List Value} (h : ∀ j u, xs[j]? = some u → w.cell? (A.add j) = some u) (hb : Below w.heap.size w w') : ∀ j u, xs[j]? = some u → w'.cell? (A.add j) = some u :=
  cells_of_eq h (fun q => hb.block _ q)
theorem DW.c0 {w : World} {F : Nat → Prop} {d k lb cl tb ct : Nat} {vw : Value} {ds : List (Nat × Nat)} {L T : List UInt8} {Q : List (Nat × List UInt8)} (hd : DW w F d k lb cl tb ct vw ds L T Q) : w.cell? ⟨d, 0, none⟩ = some (.slice (some ⟨lb, 0, none⟩) (64 * k) cl) := by
  rw [cell_of_row w d 0 _ 71 (0, 0) hd.here]; rfl
theorem DW.c1 {w : World} {F : Nat → Prop} {d k lb cl tb ct : Nat} {vw : Value} {ds : List (Nat × Nat)} {L T : List UInt8} {Q : List (Nat × List UInt8)} (hd : DW w F d k lb cl tb ct vw ds L T Q) : w.cell? ⟨d, 1, none⟩ = some (.slice (some ⟨tb, 0, none⟩) (64 * k) ct) := by
  rw [cell_of_row w d 1 _ 71 (0, 0) hd.here]; rfl
theorem DW.c2 {w : World} {F : Nat → Prop} {d k lb cl tb ct : Nat} {vw : Value} {ds : List (Nat × Nat)} {L T : List UInt8} {Q : List (Nat × List UInt8)} (hd : DW w F d k lb cl tb ct vw ds L T Q) : w.cell? ⟨d, 2, none⟩ = some vw := by
  rw [cell_of_row w d 2 _ 71 (0, 0) hd.here]; rfl
theorem own_slice {w : World} {e : TypeId} {size : Nat} {v : Value} {n : Nat} {xs : List Value} (h : w.ownsRow 0 e size v n xs) : ∃ A c, v = .slice A n c := by
  rcases h.2 with ⟨rfl, rfl⟩ | ⟨g, cap, cur, rfl, q, hg, r⟩
  · exact ⟨_, _, rfl⟩
  · exact ⟨_, _, rfl⟩
def NewDev (w : World) (k : Nat) (l : List UInt8) (v : Value) (w' : World) : Prop := ∃ d F, v = .pointer (some ⟨d, 0, none⟩) ∧ DV w' F d k l l [] ∧ Below w.heap.size w w' ∧ ∀ b, F b → w.heap.size ≤ b
theorem newdev_of {w w1 w2 : World} {k : Nat} (hk : k ≤ 1024) {l : List UInt8} (hl : l.length = 64 * k) {b1 c1 b2 c2 : Nat} (h1 : w.heap.size ≤ b1) (hc1 : 64 * k ≤ c1) (hb1 : BY w1 b1 l c1) (hw1 : Below w.heap.size w w1)
    (h2 : w1.heap.size ≤ b2) (hc2 : 64 * k ≤ c2) (hb2 : BY w2 b2 l c2) (hw2 : Below w1.heap.size w1 w2) :
    NewDev w k l (.pointer (some ⟨w2.heap.size, 0, none⟩)) (w2.alloc (.cells #[.slice (some ⟨b1, 0, none⟩) (64 * k) c1, .slice (some ⟨b2, 0, none⟩) (64 * k) c2, .slice none 0 0] 71)) := by
  have s1 := hw1.size
  have s2 := hw2.size
  have l1 := hb1.lt
  have l2 := hb2.lt
  refine ⟨w2.heap.size, fun b => w.heap.size ≤ b ∧ b ≤ w2.heap.size, rfl, ⟨b1, c1, b2, c2, .slice none 0 0, [], ?_⟩, ?_, fun b h => h.1⟩
  · refine ⟨?_, heap_alloc_new _ _, ⟨by omega, Nat.le_refl _⟩, ⟨h1, by omega⟩, ⟨by omega, by omega⟩, by omega, by omega, by omega, hk, hl, hl, ?_, ?_, hc1, hc2, World.ownsRow_nil _ _ _ _, ?_, trivial⟩
    · intro b hb; simp; omega
    · exact (hb1.congr (hw2.block b1 l1)).congr (Below.heap_alloc _ _ _ (by omega))
    · exact hb2.congr (Below.heap_alloc _ _ _ (by omega))
    · intro b hb; simp [vblk] at hb
  · exact (hw1.trans (hw2.mono s1)).alloc (by omega) _
theorem Try.of (A : Addr) (k m : Nat) (hk : k ≤ 1024) (w : World) (l : List UInt8) (hl : l.length = 64 * k) (hc : ∀ j u, (l.map u8v)[j]? = some u → w.cell? (A.add j) = some u) :
    Calls Try.prog 36 #[.slice (some A) (64 * k) m] w fun e w' => ∃ v, e = .returned v ∧ NewDev w k l v w' := by
  have HL := Lib.hid hl
  clear hl
  go_enter Try.func36, Try.ntmps36
  go_wp2_with fail
  refine (Try.clone A (64 * k) m w (by omega) l HL.out hc).mono ?_
  rintro e w1 ⟨b1, c1, rfl, h1, hc1, hb1, hw1⟩
  have hc' := cells_below hc hw1
  clear hc
  go_wp2_with fail
  refine (Try.clone A (64 * k) m w1 (by omega) l HL.out hc').mono ?_
  rintro e w2 ⟨b2, c2, rfl, h2, hc2, hb2, hw2⟩
  have H := Lib.hid (newdev_of hk HL.out h1 hc1 hb1 hw1 h2 hc2 hb2 hw2)
  clear hc' hb1 hb2 hw1 hw2 hc1 hc2 h1 h2
  go_wp2
  go_ret
  exact ⟨_, rfl, H.out⟩
def NewGood (w : World) (k : Nat) (e : Ending) (w' : World) : Prop := ∃ v, e = .returned (.tuple #[v, .int .i64 0]) ∧ NewDev w k (List.replicate (64 * k) 0) v w'
theorem made_u8 (n : Nat) : (madeCells #[Value.int .u8 0] n).toList = (List.replicate n (0 : UInt8)).map u8v := by
  rw [toList_madeCells_one]
  simp [u8v]
theorem Try.new_good (k : Nat) (h4 : 4 ≤ k) (hk : k ≤ 1024) (w : World) : Calls Try.prog 11 #[.int .i64 k] w (NewGood w k) := by
  obtain ⟨i0, hi, hz0, hz1, hz2⟩ := info_parts Try.info5
  have h1 : decide ((k : Nat) < 4) = false := by simp; omega
  have h2 : decide (1024 < (k : Nat)) = false := by simp; omega
  have h3 : ¬ ((k : Nat) < 4) := by omega
  have h5 : ¬ (1024 < (k : Nat)) := by omega
  have hb2 : i0.bytes * (64 * k) ≤ 281474976710656 := by rw [hz2]; omega
  go_enter Try.func11, Try.ntmps11
  go_wp2_with (at_make; refine wpList_make_full w rfl _ _ 31 rfl w.heap.size 5 i0 (.int .u8 0) 1 Try.underlying31 hi hz0 hz1 _ _ _ _ (64 * k) rfl rfl (by omega) (by omega) hb2 (by unfold maxLen; omega) (Nat.le_refl _) ?_)
  intro w1 hown hg
  rw [made_u8] at hown
  obtain ⟨hl, b, c, he, hb, hc, hby⟩ := BY.own hown (by simp)
  obtain ⟨rfl, rfl⟩ : w.heap.size = b ∧ 64 * k = c := by simpa using he
  have hbel : Below w.heap.size w w1 := (Below.refl _ w).grown hg (Nat.le_refl _) (fun k hk => by simp at hk)
  have hby' := hby.all
  have HL := Lib.hid hl
  clear hg hown he hl hby hb hc
  go_wp2_with fail
  refine (Try.of _ k _ hk _ _ HL.out hby').mono ?_
  rintro e w2 ⟨v, rfl, d, F, rfl, h2, h3, h4⟩
  have H : Hid (NewGood w k (.returned (.tuple #[.pointer (some ⟨d, 0, none⟩), .int .i64 0])) w2) := ⟨_, rfl, d, F, rfl, h2, hbel.trans (h3.mono hbel.size), fun b hb => Nat.le_trans hbel.size (h4 b hb)⟩
  clear h2 h3 h4 hbel hby'
  go_wp2
  go_ret2
  exact H.out
def ReadGood (w : World) (l : List UInt8) (e : Ending) (w' : World) : Prop := ∃ b c, e = .returned (.tuple #[.slice (some ⟨b, 0, none⟩) 64 c, .int .i64 0]) ∧ w.heap.size ≤ b ∧ 64 ≤ c ∧ BY w' b l c ∧ Below w.heap.size w w'
theorem Try.read_good {w : World} {F : Nat → Prop} {d k lb cl tb ct : Nat} {vw : Value} {ds : List (Nat × Nat)} {L T : List UInt8} {Q : List (Nat × List UInt8)} (hd : DW w F d k lb cl tb ct vw ds L T Q) (i : Nat) (hi : i < k) :
    Calls Try.prog 21 #[.pointer (some ⟨d, 0, none⟩), .int .i64 i] w (ReadGood w ((T.drop (i * 64)).take 64)) := by
  have c1 := hd.c1
  have hk := hd.hk
  have hct := hd.ct'
  have h16 : 64 * k ≤ 65536 := by omega
  have hik : (i : Int) < (64 * k : Nat) / 64 := by omega
  have hin : i < 64 * k / 64 := by omega
  have hTl := hd.Tl
  have hw := hd.bt.win (i * 64) 64 (by omega)
  have hl : ((T.drop (i * 64)).take 64).length = 64 := by simp; omega
  have HL := Lib.hid hl
  clear hl hTl
  go_enter Try.func21, Try.ntmps21
  go_wp2_with (first
    | (go_at_call 37; refine (Try.has_yes _ _ _ _ _ h16 (by omega) hik _ c1).mono ?_; rintro e w' ⟨rfl, rfl⟩)
    | (go_at_call 38; refine (Try.at _ _ _ _ _ h16 hin hct _).mono ?_; rintro e w' ⟨rfl, rfl⟩))
  refine (Try.clone _ 64 _ w (by omega) _ HL.out (by simpa using hw)).mono ?_
  rintro e w1 ⟨b1, c1', rfl, h1, hc1, hb1, hw1⟩
  have H : Hid (ReadGood w ((T.drop (i * 64)).take 64) (.returned (.tuple #[.slice (some ⟨b1, 0, none⟩) 64 c1', .int .i64 0])) w1) := ⟨b1, c1', rfl, h1, hc1, hb1, hw1⟩
  clear h1 hc1 hb1 hw1
  go_wp2
  go_ret2
  exact H.out
theorem Try.bytes {w : World} {F : Nat → Prop} {d k lb cl tb ct : Nat} {vw : Value} {ds : List (Nat × Nat)} {L T : List UInt8} {Q : List (Nat × List UInt8)} (hd : DW w F d k lb cl tb ct vw ds L T Q) :
    Calls Try.prog 26 #[.pointer (some ⟨d, 0, none⟩)] w (Cloned w (64 * k) T) := by
  have c1 := hd.c1
  have hk := hd.hk
  have hw := hd.bt.all
  have HL := Lib.hid hd.Tl
  go_enter Try.func26, Try.ntmps26
  go_wp2_with fail
  refine (Try.clone _ (64 * k) _ w (by omega) _ HL.out hw).mono ?_
  rintro e w1 ⟨b1, c1', rfl, h1, hc1, hb1, hw1⟩
  have H : Hid (Cloned w (64 * k) T (.returned (.slice (some ⟨b1, 0, none⟩) (64 * k) c1')) w1) := ⟨b1, c1', rfl, h1, hc1, hb1, hw1⟩
  clear h1 hc1 hb1 hw1
  go_wp2
  go_ret
  exact H.out
end Go.Proofs
end

section
namespace Go.Proofs
open Go.RowKit
set_option maxRecDepth 100000
theorem BY.set {w : World} {b : Nat} {l : List UInt8} {c : Nat} (h : BY w b l c) (j : Nat) (hj : j < l.length) (x : UInt8) : BY (w.setCell ⟨b, j, none⟩ (u8v x)) b (l.set j x) c := by
  obtain ⟨pad, g1, g2, g3⟩ := h
  refine ⟨pad, ?_, by simpa using g2, g3⟩
  rw [heap_setCell_same w b j _ 5 (u8v x) g1]
  congr 2
  apply Array.ext'
  simp [List.set_append, hj, List.map_set]
def FullRel (w : World) (x : UInt8) (j : Nat) (wr : World) : Prop := BY wr w.heap.size (List.replicate j x ++ List.replicate (64 - j) 0) 64 ∧ Below w.heap.size w wr
theorem AllW.get {w : World} {F : Nat → Prop} {ns : List Nat} {k : Nat} : ∀ (Q : List (Nat × List UInt8)) (ds : List (Nat × Nat)), AllW w F ns k Q ds → ∀ j (h : j < Q.length), ∃ x, ds[j]? = some x ∧ OneW w F ns k (Q[j]) x ∧ (wCells Q ds)[2 * j]? = some (.int .i64 ((Q[j]).1 : Int)) ∧ (wCells Q ds)[2 * j + 1]? = some (.slice (some ⟨x.1, 0, none⟩) 64 x.2)
  | q :: Q, x :: ds, h, 0, _ => ⟨x, rfl, h.1, rfl, rfl⟩
  | q :: Q, x :: ds, h, j + 1, hj => by
    obtain ⟨y, h1, h2, h3, h4⟩ := AllW.get Q ds h.2 j (by simpa using hj)
    exact ⟨y, by simpa using h1, by simpa using h2, by simpa [wCells, Nat.mul_add] using h3, by simpa [wCells, Nat.mul_add] using h4⟩
  | [], _, _, j, hj => by simp at hj
  | q :: Q, [], h, j, hj => h.elim
end Go.Proofs
end
