/-
  Texts of a proof over the translated program: proved evaluators and walks, part 19 of 19.
-/
import Derived.Test.YtmpnelihfeiimaaPartP18
import Derived.Below
import Derived.Deep.Cut
import Derived.Deep.RegionHeld3
import Derived.Deep.RegionLaw
import Derived.Deep.RegionLawGrows
import Derived.Deep.RegionWith
import Derived.Deep.Strs
import Derived.Handy
import Derived.IntWalk
import Derived.Laws.AppendOwn
import Derived.Laws.MakeOwn
import Derived.Lib.Hide
import Derived.LoopTactic
import Derived.Outline
import Derived.OwnWalk
import Derived.Scope
import Derived.ScopeJumps
import Derived.Shelf.Slices.CompactS
import Derived.Shelf.Spec.SearchS
import Derived.Sort.EncStr
import Derived.Sort.Walk0
import Derived.Test.YtmpnelihfeiimaaProg
import Derived.WalkKit
import Derived.WalkMore
import Derived.WalkSpells
import Derived.Great.BuildSlice
import Derived.KernelRfl
import Derived.Laws.AppendOwnNone
import Derived.Laws.BitsLemmas
import Derived.Laws.BytesArg
import Derived.Laws.BytesString
import Derived.Laws.Closers25b
import Derived.Laws.CopyOwn
import Derived.Laws.IdiomStrings
import Derived.Lib.AppendStr
import Derived.Lib.SlBytesRow
import Derived.Orders
set_option linter.unusedVariables false
set_option linter.unusedSimpArgs false
set_option linter.unusedSectionVars false
set_option linter.unnecessarySimpa false
section
namespace Go.Proofs
open Go.RowKit NT Go.Shelf Go.Lib Go.Sort Go.ChangeShapes Go.WideShapes
set_option maxRecDepth 100000
def IsStrs (w : World) (a : Option Addr) (n m : Nat) : Prop := ∃ l : List Str, l.length = n ∧ RW w a l ∧ (a = none → m = 0)
theorem strs_of {H : Type} {enc : TypeId × Value → H} {w : World} {base : Nat} {spare : Nat → Bool} {held : Bool} {fuel : Nat} {a : Option Addr} {n m : Nat} {x : DataW H × List MemPlace}
    (h : DataW.trod enc Try.prog w base spare held fuel 22 [.slice a n m] = some x) : IsStrs w a n m := by
  rcases Go.Deep.open_strs Try.underlying22 Try.underlying9 (by kernel_rfl) h with ⟨hcs, _⟩ | ⟨A, len, cap, k, Sx, hcs, _, hl, hm, hk, _, hcell⟩
  · simp at hcs
    obtain ⟨rfl, rfl, rfl⟩ := hcs
    exact ⟨[], rfl, fun j x h => by simp at h, fun _ => rfl⟩
  · simp at hcs
    obtain ⟨rfl, rfl, rfl⟩ := hcs
    refine ⟨(List.range n).map fun i => (Sx i).data.toList, by simp, fun j x hx => ⟨A, rfl, ?_⟩, fun e => by cases e⟩
    rw [List.getElem?_map] at hx
    obtain ⟨i, hi, rfl⟩ := Option.map_eq_some_iff.1 hx
    have hj := (List.getElem?_eq_some_iff.1 hi).1
    have hij : j = i := by
      have := (List.getElem?_eq_some_iff.1 hi).2
      simpa using this
    subst hij
    have hjn : j < n := by simpa using hj
    rw [(hcell j (by rw [hk]; split <;> omega)).1]
end Go.Proofs
end

section
namespace Go.Proofs
open Go.RowKit NT Go.Shelf Go.Lib Go.Sort
set_option maxRecDepth 100000
theorem DI.conv {w : World} {A : Addr} {n c : Nat} {l : List UInt8} (h : DI w (some A) n c l) : (convert 28 9 (.slice (some A) n c)).run Try.prog w = .ok (.string (strOf l)) w :=
  str_arg (fun j u hu => by
    rw [List.getElem?_map] at hu
    obtain ⟨y, hy, rfl⟩ := Option.map_eq_some_iff.1 hu
    obtain ⟨Y, hY, hc⟩ := h.at' j y hy
    cases hY
    exact hc) n c h.len
set_option maxHeartbeats 8000000 in
theorem Try.puts1 (a : Option Addr) (n m : Nat) (w : World) (l : List Str) (hl : l.length = n) (ha : RW w a l) (hm : a = none → m = 0) (hn : n ≤ 100) (hs : ∀ x ∈ l, x.length ≤ 400) :
    Calls Try.prog 3 #[.slice a n m] w fun e w' => e = .returned (.bool true) ∧ Below w.heap.size w w' := by
  have HA := Lib.hid ha
  have HL := Lib.hid hl
  have HSS := Lib.hid hs
  have HS : Hid (decide (∀ x ∈ l, x.length ≤ 400) = true) := Lib.hid (decide_eq_true hs)
  clear ha hl hs
  go_enter Try.func3, Try.ntmps3
  go_wp2_with fail
  refine (Try.knownW w).mono ?_
  rintro x1 w1 ⟨rfl, hb1⟩
  have B1 := Lib.hid hb1
  have A1 := Lib.hid (HA.out.below hb1)
  clear hb1
  go_wp2_with fail
  refine (Try.few a n m w1 hn l HL.out A1.out).mono ?_
  rintro x2 w2 ⟨rfl, hw2⟩
  rw [hw2, HS.out]
  clear hw2 w2
  go_wp2_with fail
  obtain ⟨S, hS⟩ := wds_ex l
  have HW := Lib.hid hS
  clear hS
  refine (Try.buildU a n m w1 (by omega) hm l S HL.out A1.out HW.out).mono ?_
  rintro x3 w3 ⟨k, A, B, c, c', rfl, hB⟩
  have B3 := Lib.hid (B1.out.trans (hB.bel.mono B1.out.size))
  have A3 := Lib.hid (A1.out.below hB.bel)
  have R3 := Lib.hid hB.rw
  have D3 := Lib.hid hB.du
  have HK := Lib.hid hB.kl
  have hkn := hB.kn
  clear hB
  go_wp2_with fail
  refine (Try.rbuild a n m w3 l HL.out A3.out hn).mono ?_
  rintro x4 w4 ⟨W, A', B', k', q, q', rfl, hk', hW, hrw, hdu, hb4⟩
  have hWS : W = S := sup_unique hW.up HW.out.up fun x => (hW.mem x).trans (HW.out.mem x).symm
  subst hWS
  have hkk : k' = k := hk'.symm.trans HK.out
  subst hkk
  have B4 := Lib.hid (B3.out.trans (hb4.mono B3.out.size))
  have A4 := Lib.hid (A3.out.below hb4)
  have R4 := Lib.hid (R3.out.below hb4)
  have D4 := Lib.hid (D3.out.below hb4)
  have R4' := Lib.hid hrw
  have D4' := Lib.hid hdu
  clear hk' hW hrw hdu hb4
  go_wp2_with fail
  refine (Try.dput a n m w4 hm l W HL.out A4.out HW.out (by omega)).mono ?_
  rintro x5 w5 ⟨hb5, hc5⟩
  have B5 := Lib.hid (B4.out.trans (hb5.mono B4.out.size))
  have A5 := Lib.hid (A4.out.below hb5)
  have R5 := Lib.hid (R4.out.below hb5)
  have D5 := Lib.hid (D4.out.below hb5)
  have R5' := Lib.hid (R4'.out.below hb5)
  have D5' := Lib.hid (D4'.out.below hb5)
  by_cases hok : ∀ x ∈ W, x.length ≤ 255
  · have hex : ∃ v, x5 = .returned (.tuple #[v, .int .i64 0]) ∧ OB w5 w4.heap.size v (dk l W) := by
      rcases hc5 with ⟨_, _, q⟩ | ⟨q, _⟩
      · exact q
      · exact absurd ⟨by have := HL.out; omega, hok⟩ q
    obtain ⟨v, rfl, ho⟩ := hex
    obtain ⟨g, c5, rfl, hd5⟩ := ho.lit (dk_pos l W)
    obtain ⟨L, hL⟩ : ∃ L, (dk l W).length = L := ⟨_, rfl⟩
    rw [hL] at hd5 ⊢
    have HD5 := Lib.hid hd5
    have HLL := Lib.hid hL
    have HOK := Lib.hid hok
    clear hc5 ho hd5 hb5 hL hok
    go_wp2_with fail
    refine (Try.rputw a n m w5 l W HL.out A5.out HW.out hn HSS.out).mono ?_
    rintro x6 w6 ⟨hb6, hc6⟩
    have hex : ∃ v, x6 = .returned (.tuple #[v, .int .i64 0]) ∧ OB w6 w5.heap.size v (dk l W) := by
      rcases hc6 with ⟨_, _, q⟩ | ⟨q, _⟩
      · exact q
      · exact absurd ⟨by have := HL.out; omega, HOK.out⟩ q
    obtain ⟨v, rfl, ho⟩ := hex
    obtain ⟨g', c6, rfl, hd6⟩ := ho.lit (dk_pos l W)
    rw [HLL.out] at hd6 ⊢
    have HD6' := Lib.hid hd6
    have HD6 := Lib.hid (HD5.out.below hb6)
    have B6 := Lib.hid (B5.out.trans (hb6.mono B5.out.size))
    have A6 := Lib.hid (A5.out.below hb6)
    have R6 := Lib.hid (R5.out.below hb6)
    have D6 := Lib.hid (D5.out.below hb6)
    have R6' := Lib.hid (R5'.out.below hb6)
    have D6' := Lib.hid (D5'.out.below hb6)
    clear hc6 ho hd6 hb6
    go_wp2_with fail
    refine (Try.words _ _ _ _ _ w6 W HK.out (by omega) R6.out R6'.out).mono ?_
    rintro x7 w7 ⟨rfl, hb7⟩
    have B7 := Lib.hid (B6.out.trans (hb7.mono B6.out.size))
    have A7 := Lib.hid (A6.out.below hb7)
    have D7 := Lib.hid (D6.out.below hb7)
    have D7' := Lib.hid (D6'.out.below hb7)
    have HD7 := Lib.hid (HD6.out.below hb7)
    have HD7' := Lib.hid (HD6'.out.below hb7)
    clear hb7
    go_wp2_with fail
    refine (Try.same _ _ _ _ _ w7 _ D7.out D7'.out (by omega)).mono ?_
    rintro x8 w8 ⟨rfl, hb8⟩
    have B8 := Lib.hid (B7.out.trans (hb8.mono B7.out.size))
    have A8 := Lib.hid (A7.out.below hb8)
    have HD8 := Lib.hid (HD7.out.below hb8)
    have st1 := (HD7.out.below hb8).conv
    have st2 := (HD7'.out.below hb8).conv
    clear hb8
    go_wp2_with fail
    refine (Try.dget w8 l W HD8.out HW.out HOK.out n HL.out (by omega) (by rw [HK.out]; exact hkn)).mono ?_
    rintro x9 w9 ⟨b9, rfl, hr9, hb9⟩
    have HR9 := Lib.hid hr9
    have B9 := Lib.hid (B8.out.trans (hb9.mono B8.out.size))
    have A9 := Lib.hid (A8.out.below hb9)
    clear hr9 hb9 st1 st2
    go_wp2_with fail
    refine (Try.words _ _ _ _ _ w9 l HL.out (by omega) HR9.out A9.out).mono ?_
    rintro x10 w10 ⟨rfl, hb10⟩
    have B10 := Lib.hid (B9.out.trans (hb10.mono B9.out.size))
    clear hb10
    go_wp2_with fail
    go_ret
    exact ⟨rfl, B10.out⟩
  · have he5 : x5 = .returned (.tuple #[.slice none 0 0, .int .i64 4]) := by
      rcases hc5 with ⟨_, q, _⟩ | ⟨_, q⟩
      · exact absurd q hok
      · exact q
    subst he5
    have HNO := Lib.hid hok
    clear hc5 hb5 hok
    go_wp2_with fail
    refine (Try.rputw a n m w5 l W HL.out A5.out HW.out hn HSS.out).mono ?_
    rintro x6 w6 ⟨hb6, hc6⟩
    have he6 : x6 = .returned (.tuple #[.slice none 0 0, .int .i64 4]) := by
      rcases hc6 with ⟨_, q, _⟩ | ⟨_, q⟩
      · exact absurd q HNO.out
      · exact q
    subst he6
    have B6 := Lib.hid (B5.out.trans (hb6.mono B5.out.size))
    have R6 := Lib.hid (R5.out.below hb6)
    have D6 := Lib.hid (D5.out.below hb6)
    have R6' := Lib.hid (R5'.out.below hb6)
    have D6' := Lib.hid (D5'.out.below hb6)
    clear hc6 hb6
    go_wp2_with fail
    refine (Try.words _ _ _ _ _ w6 W HK.out (by omega) R6.out R6'.out).mono ?_
    rintro x7 w7 ⟨rfl, hb7⟩
    have B7 := Lib.hid (B6.out.trans (hb7.mono B6.out.size))
    have D7 := Lib.hid (D6.out.below hb7)
    have D7' := Lib.hid (D6'.out.below hb7)
    clear hb7
    go_wp2_with fail
    refine (Try.same _ _ _ _ _ w7 _ D7.out D7'.out (by omega)).mono ?_
    rintro x8 w8 ⟨rfl, hb8⟩
    have B8 := Lib.hid (B7.out.trans (hb8.mono B7.out.size))
    have st1 := str_sl0 w8 none 0
    clear hb8
    go_wp2_with fail
    go_ret
    exact ⟨rfl, B8.out⟩
theorem Try.puts (a : Option Addr) (n m : Nat) (w : World) (l : List Str) (hl : l.length = n) (ha : RW w a l) (hm : a = none → m = 0) :
    Calls Try.prog 3 #[.slice a n m] w fun e w' => e = .returned (.bool true) ∧ Below w.heap.size w w' := by
  by_cases hn : n ≤ 100
  · by_cases hs : ∀ x ∈ l, x.length ≤ 400
    · exact Try.puts1 a n m w l hl ha hm hn hs
    · have HS : Hid (decide (∀ x ∈ l, x.length ≤ 400) = false) := Lib.hid (decide_eq_false hs)
      have HA := Lib.hid ha
      have HL := Lib.hid hl
      clear hs ha hl
      go_enter Try.func3, Try.ntmps3
      go_wp2_with fail
      refine (Try.knownW w).mono ?_
      rintro e1 w1 ⟨rfl, hb1⟩
      have HB1 := Lib.hid hb1
      clear hb1
      go_wp2_with fail
      refine (Try.few a n m w1 hn l HL.out (HA.out.below HB1.out)).mono ?_
      rintro e2 w2 ⟨rfl, rfl⟩
      rw [HS.out]
      go_wp2_with fail
      go_ret
      exact ⟨rfl, HB1.out⟩
  · go_enter Try.func3, Try.ntmps3
    go_wp2_with fail
    refine (Try.knownW w).mono ?_
    rintro e1 w1 ⟨rfl, hb1⟩
    have HB1 := Lib.hid hb1
    clear hb1
    go_wp2_with fail
    refine (Try.few_no a n m w1 (by omega)).mono ?_
    rintro e2 w2 ⟨rfl, rfl⟩
    go_wp2_with fail
    go_ret
    exact ⟨rfl, HB1.out⟩
end Go.Proofs
end
