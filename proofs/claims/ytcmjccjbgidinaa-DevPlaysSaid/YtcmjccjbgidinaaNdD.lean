/-
  Texts of a proof over the translated program: NdD.
-/
import Derived.Test.YtcmjccjbgidinaaNdC
set_option linter.unusedVariables false
set_option linter.unnecessarySimpa false
set_option linter.unusedSimpArgs false
namespace Go.Proofs
open Go.RowKit
set_option maxRecDepth 100000
theorem BY.set {w : World} {b : Nat} {l : List UInt8} {c : Nat} (h : BY w b l c) (j : Nat) (hj : j < l.length) (x : UInt8) : BY (w.setCell ⟨b, j, none⟩ (u8v x)) b (l.set j x) c := by
  obtain ⟨pad, g1, g2, g3⟩ := h
  refine ⟨pad, ?_, by simpa using g2, g3⟩
  rw [heap_setCell_same w b j _ 5 (u8v x) g1]
  congr 2
  apply Array.ext'
  simp [List.set_append, hj, List.map_set]
theorem BY.unfrozen {w : World} {b : Nat} {l : List UInt8} {c : Nat} (h : BY w b l c) (j : Nat) : w.frozen? ⟨b, j, none⟩ = false := by
  obtain ⟨pad, g1, g2, g3⟩ := h
  exact frozen_of_row w b j _ 5 g1
theorem rep_set (n j : Nat) (h : j < n) (x : UInt8) : (List.replicate j x ++ List.replicate (n - j) 0).set j x = List.replicate (j + 1) x ++ List.replicate (n - (j + 1)) 0 := by
  apply List.ext_getElem?
  intro i
  simp only [List.getElem?_set, List.getElem?_append, List.length_append, List.length_replicate, List.getElem?_replicate]
  by_cases h1 : i < j
  · have : ¬ j = i := by omega
    have h3 : i < j + 1 := by omega
    simp [h1, this, h3]
  · by_cases h2 : j = i
    · subst h2
      have h3 : j < j + (n - j) := by omega
      simp [h3]
    · have h3 : ¬ i < j + 1 := by omega
      simp only [h1, h2, h3, if_false]
      by_cases h4 : i - j < n - j
      · have h5 : i - (j + 1) < n - (j + 1) := by omega
        simp [h4, h5]
      · have h5 : ¬ i - (j + 1) < n - (j + 1) := by omega
        simp [h4, h5]
def FullRel (w : World) (x : UInt8) (j : Nat) (wr : World) : Prop := BY wr w.heap.size (List.replicate j x ++ List.replicate (64 - j) 0) 64 ∧ Below w.heap.size w wr
theorem Try.full (x : UInt8) (w : World) : Calls Try.prog 20 #[u8v x] w (Cloned w 64 (List.replicate 64 x)) := by
  obtain ⟨i0, hi, hz0, hz1, hz2⟩ := info_parts Try.info5
  have hb2 : i0.bytes * 64 ≤ 281474976710656 := by rw [hz2]; omega
  unfold u8v
  have hx0 : 0 ≤ (x.toNat : Int) := by omega
  have hx1 : (x.toNat : Int) ≤ 255 := by have := x.toNat_lt; omega
  go_enter Try.func20, Try.ntmps20
  go_wp2_with (at_make; refine wpList_make_full w rfl _ _ 31 rfl w.heap.size 5 i0 (.int .u8 0) 1 Try.underlying31 hi hz0 hz1 _ _ _ _ 64 rfl rfl (by omega) (by omega) hb2 (by unfold maxLen; omega) (Nat.le_refl _) ?_)
  intro w1 hown hg
  rw [made_u8] at hown
  obtain ⟨hl, b, c, he, hb, hc, hby⟩ := BY.own hown (by simp)
  obtain ⟨rfl, rfl⟩ : w.heap.size = b ∧ 64 = c := by simpa using he
  have hbel : Below w.heap.size w w1 := (Below.refl _ w).grown hg (Nat.le_refl _) (fun k hk => by simp at hk)
  have H0 : Hid (FullRel w x 0 w1) := ⟨by simpa using hby, hbel⟩
  clear hg hown he hl hby hb hc hbel
  go_wp2
  go_loopw [4] (fun t wr => ∃ j : Nat, j ≤ 64 ∧ t = .int .i64 j ∧ FullRel w x j wr) (fun t _ => 64 - (intOf t).toNat)
  case atStart => exact ⟨0, by omega, rfl, H0.out⟩
  case round =>
    obtain ⟨j, hj, rfl, hR⟩ := hrel
    by_cases hlt : j < 64
    · have hlt' : (j : Int) < 64 := by omega
      have hq := hR.1.cell j (by simp; omega)
      have hf := hR.1.unfrozen j
      have hlen : j < (List.replicate j x ++ List.replicate (64 - j) (0 : UInt8)).length := by simp; omega
      have H1 : Hid (FullRel w x (j + 1) (wr.setCell ⟨w.heap.size, j, none⟩ (u8v x))) := by
        refine ⟨?_, hR.2.setCell (Nat.le_refl _) _⟩
        have := hR.1.set j hlen x
        rwa [rep_set 64 j hlt x] at this
      unfold u8v at H1
      clear hR hlen
      go_wp2
      go_roundw
      case rel => exact ⟨j + 1, by omega, by go_num, H1.out⟩
      case measure => simp [intOf]; omega
    · obtain rfl : j = 64 := by omega
      have H1 : Hid (Cloned w 64 (List.replicate 64 x) (.returned (.slice (some ⟨w.heap.size, 0, none⟩) 64 64)) wr) := ⟨w.heap.size, 64, rfl, Nat.le_refl _, Nat.le_refl _, by simpa using hR.1, hR.2⟩
      clear hR
      go_wp2
      go_ret
      exact H1.out
theorem AllW.get {w : World} {F : Nat → Prop} {ns : List Nat} {k : Nat} : ∀ (Q : List (Nat × List UInt8)) (ds : List (Nat × Nat)), AllW w F ns k Q ds → ∀ j (h : j < Q.length), ∃ x, ds[j]? = some x ∧ OneW w F ns k (Q[j]) x ∧ (wCells Q ds)[2 * j]? = some (.int .i64 ((Q[j]).1 : Int)) ∧ (wCells Q ds)[2 * j + 1]? = some (.slice (some ⟨x.1, 0, none⟩) 64 x.2)
  | q :: Q, x :: ds, h, 0, _ => ⟨x, rfl, h.1, rfl, rfl⟩
  | q :: Q, x :: ds, h, j + 1, hj => by
    obtain ⟨y, h1, h2, h3, h4⟩ := AllW.get Q ds h.2 j (by simpa using hj)
    exact ⟨y, by simpa using h1, by simpa using h2, by simpa [wCells, Nat.mul_add] using h3, by simpa [wCells, Nat.mul_add] using h4⟩
  | [], _, _, j, hj => by simp at hj
  | q :: Q, [], h, j, hj => h.elim
end Go.Proofs
