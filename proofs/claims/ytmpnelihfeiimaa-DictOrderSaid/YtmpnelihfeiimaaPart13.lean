/-
  Texts of a proof over the translated program: proved evaluators and walks, part 13 of 13.
-/
import Derived.Test.YtmpnelihfeiimaaPart12
import Derived.Below
import Derived.Deep.Cut
import Derived.Deep.RegionHeld3
import Derived.Deep.RegionLaw
import Derived.Deep.RegionLawGrows
import Derived.Deep.RegionWith
import Derived.Deep.Strs
import Derived.Great.BuildSlice
import Derived.Handy
import Derived.IntWalk
import Derived.Laws.AppendOwn
import Derived.Laws.CopyRow
import Derived.Laws.IdiomStrings
import Derived.Laws.MakeOwn
import Derived.Lib.Hide
import Derived.LoopTactic
import Derived.MapKept
import Derived.Orders
import Derived.Outline
import Derived.OwnWalk
import Derived.Scope
import Derived.ScopeJumps
import Derived.Shelf.Slices.CompactS
import Derived.Shelf.Spec.SearchS
import Derived.Sort.EncStr
import Derived.Sort.Walk0
import Derived.Test.YtmpnelihfeiimaaProg
import Derived.WalkKit
import Derived.WalkMore
import Derived.WalkSpells
set_option linter.unusedVariables false
set_option linter.unusedSimpArgs false
set_option linter.unusedSectionVars false
set_option linter.unnecessarySimpa false
section
namespace Go.Proofs
open Go.RowKit NT Go.Shelf Go.Lib Go.Sort Go.ChangeShapes Go.WideShapes
set_option maxRecDepth 100000
theorem Try.order (a : Option Addr) (n m : Nat) (w : World) (l : List Str) (hl : l.length = n) (ha : RW w a l) (hm : a = none → m = 0) :
    Calls Try.prog 4 #[.slice a n m] w fun e w' => e = .returned (.bool true) ∧ Below w.heap.size w w' := by
  by_cases hn : n ≤ 100
  · by_cases hs : ∀ x ∈ l, x.length ≤ 400
    · by_cases h0 : n = 0
      · subst h0; exact Try.order0 a m w hm
      · obtain ⟨x, hx⟩ : ∃ x, l[0]? = some x := ⟨_, List.getElem?_eq_getElem (by omega)⟩
        obtain ⟨A, rfl, _⟩ := ha 0 x hx
        exact Try.order1 A n m w l hl ha (by omega) hn hs
    · have HS : Hid (decide (∀ x ∈ l, x.length ≤ 400) = false) := Lib.hid (decide_eq_false hs)
      have HA := Lib.hid ha
      have HL := Lib.hid hl
      clear hs ha hl
      go_enter Try.func4, Try.ntmps4
      go_wp2_with fail
      refine (Try.known6 w).mono ?_
      rintro e1 w1 ⟨rfl, hb1⟩
      have HB1 := Lib.hid hb1
      clear hb1
      go_wp2_with fail
      refine (Try.few a n m w1 hn l HL.out (HA.out.below HB1.out)).mono ?_
      rintro e2 w2 ⟨rfl, rfl⟩
      rw [HS.out]
      go_wp2_with fail
      go_ret
      exact ⟨rfl, HB1.out⟩
  · go_enter Try.func4, Try.ntmps4
    go_wp2_with fail
    refine (Try.known6 w).mono ?_
    rintro e1 w1 ⟨rfl, hb1⟩
    have HB1 := Lib.hid hb1
    clear hb1
    go_wp2_with fail
    refine (Try.few_no a n m w1 (by omega)).mono ?_
    rintro e2 w2 ⟨rfl, rfl⟩
    go_wp2_with fail
    go_ret
    exact ⟨rfl, HB1.out⟩
def IsStrs (w : World) (a : Option Addr) (n m : Nat) : Prop := ∃ l : List Str, l.length = n ∧ RW w a l ∧ (a = none → m = 0)
theorem strs_of {H : Type} {enc : TypeId × Value → H} {w : World} {base : Nat} {spare : Nat → Bool} {held : Bool} {fuel : Nat} {a : Option Addr} {n m : Nat} {x : DataW H × List MemPlace}
    (h : DataW.trod enc Try.prog w base spare held fuel 22 [.slice a n m] = some x) : IsStrs w a n m := by
  rcases Go.Deep.open_strs Try.underlying22 Try.underlying9 (by kernel_rfl) h with ⟨hcs, _⟩ | ⟨A, len, cap, k, Sx, hcs, _, hl, hm, hk, _, hcell⟩
  · simp at hcs
    obtain ⟨rfl, rfl, rfl⟩ := hcs
    exact ⟨[], rfl, fun j x h => by simp at h, fun _ => rfl⟩
  · simp at hcs
    obtain ⟨rfl, rfl, rfl⟩ := hcs
    refine ⟨(List.range n).map fun i => (Sx i).data.toList, by simp, fun j x hx => ⟨A, rfl, ?_⟩, fun e => by cases e⟩
    rw [List.getElem?_map] at hx
    obtain ⟨i, hi, rfl⟩ := Option.map_eq_some_iff.1 hx
    have hj := (List.getElem?_eq_some_iff.1 hi).1
    have hij : j = i := by
      have := (List.getElem?_eq_some_iff.1 hi).2
      simpa using this
    subst hij
    have hjn : j < n := by simpa using hj
    rw [(hcell j (by rw [hk]; split <;> omega)).1]
end Go.Proofs
end
