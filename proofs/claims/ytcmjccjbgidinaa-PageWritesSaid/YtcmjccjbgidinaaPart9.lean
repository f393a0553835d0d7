/-
  Texts of a proof over the translated program: proved evaluators and walks, part 9 of 17.
-/
import Derived.Test.YtcmjccjbgidinaaPart8
import Derived.Below
import Derived.Deep.RegionWith
import Derived.Handy
import Derived.IntWalk
import Derived.Laws.CopyOwn
import Derived.Laws.MakeOwn
import Derived.Lib.Hide
import Derived.Outline
import Derived.OwnWalk
import Derived.Scope
import Derived.Test.YtcmjccjbgidinaaProg
import Derived.WalkKit
import Derived.WalkSpells
set_option linter.unusedVariables false
set_option linter.unusedSimpArgs false
set_option linter.unusedSectionVars false
set_option linter.unnecessarySimpa false
section
namespace Go.Proofs
open Go.RowKit
set_option maxRecDepth 100000
theorem Try.info5 : (Try.prog.info? 5).map (fun i => (i.zero, i.size, i.bytes)) = some (some (.int .u8 0), 1, 1) := by kernel_rfl
def u8v (x : UInt8) : Value := .int .u8 (x.toNat : Int)
def BY (w : World) (b : Nat) (l : List UInt8) (c : Nat) : Prop := ∃ pad : List Value, w.heap[b]? = some (.cells (l.map u8v ++ pad).toArray 5 (0, 0)) ∧ l.length + pad.length = c ∧ c ≤ maxLen
theorem u8v_one (l : List UInt8) : ∀ u ∈ l.map u8v, u.oneCell' = true := by
  intro u hu
  obtain ⟨x, _, rfl⟩ := List.mem_map.1 hu
  rfl
theorem BY.congr {w w' : World} {b : Nat} {l : List UInt8} {c : Nat} (h : BY w b l c) (e : w'.heap[b]? = w.heap[b]?) : BY w' b l c := by
  obtain ⟨pad, h1, h2⟩ := h
  exact ⟨pad, e.trans h1, h2⟩
theorem BY.lt {w : World} {b : Nat} {l : List UInt8} {c : Nat} (h : BY w b l c) : b < w.heap.size := by
  obtain ⟨pad, h1, h2⟩ := h
  exact (Array.getElem?_eq_some_iff.1 h1).1
theorem BY.cell {w : World} {b : Nat} {l : List UInt8} {c : Nat} (h : BY w b l c) (i : Nat) (hi : i < l.length) : w.cell? ⟨b, i, none⟩ = some (u8v l[i]) := by
  obtain ⟨pad, h1, h2⟩ := h
  rw [cell_of_row w b i _ 5 (0, 0) h1]
  simp [List.getElem?_append, hi]
theorem add_none (b o i : Nat) : (⟨b, o, none⟩ : Addr).add i = ⟨b, o + i, none⟩ := by unfold Addr.add; split <;> simp_all
theorem BY.win {w : World} {b : Nat} {l : List UInt8} {c : Nat} (h : BY w b l c) (o n : Nat) (hn : o + n ≤ l.length) : ∀ j u, (((l.drop o).take n).map u8v)[j]? = some u → w.cell? ((⟨b, o, none⟩ : Addr).add j) = some u := by
  intro j u hu
  rw [add_none]
  rw [List.getElem?_map, List.getElem?_take] at hu
  split at hu
  · rename_i hj
    rw [List.getElem?_drop] at hu
    have hlt : o + j < l.length := by omega
    rw [List.getElem?_eq_getElem hlt] at hu
    rw [h.cell (o + j) hlt]
    simpa using hu
  · simp at hu
theorem BY.all {w : World} {b : Nat} {l : List UInt8} {c : Nat} (h : BY w b l c) : ∀ j u, (l.map u8v)[j]? = some u → w.cell? ((⟨b, 0, none⟩ : Addr).add j) = some u := by
  have := h.win 0 l.length (by omega)
  simpa using this
theorem BY.own {w : World} {B : Nat} {v : Value} {n : Nat} {l : List UInt8} (h : w.ownsRow B 5 1 v n (l.map u8v)) (hv : v ≠ .slice none 0 0) : l.length = n ∧ ∃ b c, v = .slice (some ⟨b, 0, none⟩) n c ∧ B ≤ b ∧ n ≤ c ∧ BY w b l c := by
  obtain ⟨h1, h2⟩ := h
  have hl : l.length = n := by simpa using h1
  refine ⟨hl, ?_⟩
  clear h1
  rcases h2 with ⟨rfl, _⟩ | ⟨g, cap, cur, rfl, hb, hg, hn, hc, hs, ht⟩
  · exact absurd rfl hv
  · refine ⟨g, cap, rfl, hb, hn, cur.toList.drop n, ?_, ?_, hc⟩
    · rw [hg, ← ht]
      simp
    · rw [List.length_drop, Array.length_toList (xs := cur)]; simp only [Nat.mul_one] at hs; omega
theorem Try.blocks (d n m : Nat) (a : Option Addr) (hn : n ≤ 65536) (w : World) (hc : w.cell? ⟨d, 1, none⟩ = some (.slice a n m)) :
    Calls Try.prog 28 #[.pointer (some ⟨d, 0, none⟩)] w fun e w' => e = .returned (.int .i64 ((n / 64 : Nat) : Int)) ∧ w = w' := by
  go_enter Try.func28, Try.ntmps28
  go_wp2
  go_ret
  exact ⟨rfl, rfl⟩
theorem Try.waits (d n m : Nat) (a : Option Addr) (w : World) (hc : w.cell? ⟨d, 2, none⟩ = some (.slice a n m)) :
    Calls Try.prog 27 #[.pointer (some ⟨d, 0, none⟩)] w fun e w' => e = .returned (.int .i64 (n : Int)) ∧ w = w' := by
  go_enter Try.func27, Try.ntmps27
  go_wp2
  go_ret
  exact ⟨rfl, rfl⟩
theorem ret_bool {a b : Bool} (h : a = b) : Ending.returned (.bool a) = .returned (.bool b) := by rw [h]
theorem Try.has_yes (d n m : Nat) (a : Option Addr) (i : Int) (hn : n ≤ 65536) (h0 : 0 ≤ i) (hi : i < n / 64) (w : World) (hc : w.cell? ⟨d, 1, none⟩ = some (.slice a n m)) :
    Calls Try.prog 37 #[.pointer (some ⟨d, 0, none⟩), .int .i64 i] w fun e w' => e = .returned (.bool true) ∧ w = w' := by
  have h1 : decide (0 ≤ i) = true := by simpa using h0
  go_enter Try.func37, Try.ntmps37
  go_wp2_with (go_at_call 28; refine (Try.blocks _ _ _ _ hn _ hc).mono ?_; rintro e w' ⟨rfl, rfl⟩)
  go_ret
  exact ⟨ret_bool (by simpa using hi), rfl⟩
theorem ret_slice {a : Option Addr} {n n' m : Nat} (h : n = n') : Ending.returned (.slice a n m) = .returned (.slice a n' m) := by rw [h]
theorem Try.at (g o n m : Nat) (i : Nat) (hn : n ≤ 65536) (hi : i < n / 64) (hm : n ≤ m) (w : World) :
    Calls Try.prog 38 #[.slice (some ⟨g, o, none⟩) n m, .int .i64 i] w fun e w' => e = .returned (.slice (some ⟨g, o + i * 64, none⟩) 64 (m - i * 64)) ∧ w = w' := by
  go_enter Try.func38, Try.ntmps38
  go_wp2
  go_ret
  exact ⟨ret_slice (by omega), rfl⟩
def Cloned (w : World) (n : Nat) (l : List UInt8) (e : Ending) (w' : World) : Prop := ∃ b c, e = .returned (.slice (some ⟨b, 0, none⟩) n c) ∧ w.heap.size ≤ b ∧ n ≤ c ∧ BY w' b l c ∧ Below w.heap.size w w'
theorem cloned_of {w w' : World} {n : Nat} {l : List UInt8} {v : Value} (h : w'.ownsRow w.heap.size 5 1 v n (l.map u8v)) (hv : v ≠ .slice none 0 0) (hb : Below w.heap.size w w') : Cloned w n l (.returned v) w' := by
  obtain ⟨_, b, c, rfl, h2, h3, h4⟩ := BY.own h hv
  exact ⟨b, c, rfl, h2, h3, h4, hb⟩
theorem cells_alloc {w : World} {A : Addr} {xs : List Value} (o : Obj) (h : ∀ j u, xs[j]? = some u → w.cell? (A.add j) = some u) : ∀ j u, xs[j]? = some u → (w.alloc o).cell? (A.add j) = some u := by
  intro j u hu
  have h1 := h j u hu
  have h2 := block_lt_of_cell h1
  exact (World.cell?_of_block (w := w) (Below.heap_alloc w o _ h2)).trans h1
theorem Try.clone (A : Addr) (n m : Nat) (w : World) (hn : n ≤ 65536) (l : List UInt8) (hl : l.length = n) (hc : ∀ j u, (l.map u8v)[j]? = some u → w.cell? (A.add j) = some u) :
    Calls Try.prog 39 #[.slice (some A) n m] w (Cloned w n l) := by
  obtain ⟨i0, hi, hz0, hz1, hz2⟩ := info_parts Try.info5
  have hnil := Lib.run_eql_slice_nil w 31 5 (some A) n m 0 0 Try.underlying31
  have hown := World.ownsRow_made (base := w.heap.size) (e := 5) (size := 1) w #[] 0 (Nat.le_refl _) (Nat.zero_le _) rfl
  have hc' := cells_alloc (.cells #[] 5) hc
  have HL := Lib.hid hl
  have h63 : 0 + n ≤ maxLen := by unfold maxLen; omega
  clear hl hc
  go_enter Try.func39, Try.ntmps39
  go_wp2_with (at_builtin; refine wpList_append_own _ rfl (.tmp 5) (.tmp 6) 31 rfl w.heap.size 5 i0 (.int .u8 0) 1 1 Try.underlying31 hi hz0 hz1 hz2 rfl (by decide) _ _ _ rfl hown A n m (l.map u8v) rfl ?c1 hc' (u8v_one l) h63 ?c2 ?c3 ?c4)
  case c1 => simp [HL.out]
  case c2 => omega
  case c3 => simp
  case c4 =>
    intro v w1 hown1 hg hne
    have hv : v ≠ .slice none 0 0 := by simpa using hne
    have hb : Below w.heap.size w w1 := ((Below.refl _ w).alloc (Nat.le_refl _) _).grown hg (by simp) (fun k hk => by simp [Value.ownBlock] at hk; omega)
    try simp only [Nat.zero_add, List.nil_append] at hown1
    have H := Lib.hid (cloned_of hown1 hv hb)
    clear hown1 hg hne hb hown hc' hnil
    go_wp2
    go_ret
    exact H.out
end Go.Proofs
end
