/-
  Texts of a proof over the translated program: proved evaluators and walks, part 16 of 23.
-/
import Derived.Test.YtcogajgikmcfpaaGreatDoorPartQ15
import Derived.Below
import Derived.Deep.RegionHeld3
import Derived.Deep.RegionWith
import Derived.Handy
import Derived.IntWalk
import Derived.Laws.Strings
import Derived.Laws.Strings2
import Derived.Laws.Strings3
import Derived.Laws.StructEq
import Derived.Lib.Hide
import Derived.LoopTactic
import Derived.Outline
import Derived.OwnWalk
import Derived.Scope
import Derived.ScopeJumps
import Derived.Test.YtcogajgikmcfpaaGreatDoorProg
import Derived.WalkKit
import Derived.WalkMore
import Derived.WalkSpells
set_option linter.unusedVariables false
set_option linter.unusedSimpArgs false
set_option linter.unusedSectionVars false
set_option linter.unnecessarySimpa false
section
namespace Go.Proofs.YtcogajgikmcfpaaGreatDoor
open Go.RowKit
set_option maxRecDepth 100000
def bs (l : List UInt8) : ByteArray := ⟨l.toArray⟩
theorem bs_size (l : List UInt8) : (bs l).size = l.length := by simp [bs, ByteArray.size]
theorem bs_list (l : List UInt8) : (bs l).toList = l := ByteArray.toList_mk l
theorem bs_ext (l : List UInt8) (a b : Nat) : (bs l).extract a b = bs ((l.drop a).take (b - a)) := ByteArray.extract_mk l a b
theorem Tryz.pre34 (l : List UInt8) (c : UInt8) (hl : l.length < 2 ^ 62) (w : World) : Calls Tryz.prog 117 #[.string (bs l), .string (bs [c])] w fun e w' => e = .returned (.bool (l.head? == some c)) ∧ w = w' := by
  cases l with
  | nil =>
    go_enter Tryz.func117, Tryz.ntmps117
    go_wp2_with fail
    go_ret
    exact ⟨rfl, rfl⟩
  | cons x r =>
    have h1 : (bs (x :: r)).size = r.length + 1 := by rw [bs_size]; rfl
    have h2 : (bs [c]).size = 1 := by rw [bs_size]; rfl
    have h3 : decide ((r.length : Int) + 1 ≥ 1) = true := by simp; omega
    have h4 : (((bs (x :: r)).extract 0 1).toList == (bs [c]).toList) = (x == c) := by
      rw [bs_ext, bs_list, bs_list]
      simp
    have H4 := Lib.hid h4
    clear h4
    go_enter Tryz.func117, Tryz.ntmps117
    go_wp2_with fail
    rw [H4.out]
    go_ret
    exact ⟨by simp, rfl⟩
theorem Tryz.pre (l : List UInt8) (c : UInt8) (hl : l.length < 2 ^ 62) (w : World) : Calls Tryz.prog 96 #[.string (bs l), .string (bs [c])] w fun e w' => e = .returned (.bool (l.head? == some c)) ∧ w = w' := by
  have hc := Tryz.pre34 l c hl
  go_enter Tryz.func96, Tryz.ntmps96
  go_wp2_with (go_at_call 117; refine (hc _).mono ?_; rintro e w1 ⟨rfl, rfl⟩)
  go_ret
  exact ⟨rfl, rfl⟩
theorem Tryz.suf35 (l : List UInt8) (c : UInt8) (hl : l.length < 2 ^ 62) (w : World) : Calls Tryz.prog 118 #[.string (bs l), .string (bs [c])] w fun e w' => e = .returned (.bool (l.getLast? == some c)) ∧ w = w' := by
  rcases List.eq_nil_or_concat l with rfl | ⟨r, x, rfl⟩
  · go_enter Tryz.func118, Tryz.ntmps118
    go_wp2_with fail
    go_ret
    exact ⟨rfl, rfl⟩
  · have h1 : (bs (r ++ [x])).size = r.length + 1 := by rw [bs_size]; simp
    have h2 : (bs [c]).size = 1 := by rw [bs_size]; rfl
    have h3 : decide ((r.length : Int) + 1 ≥ 1) = true := by simp; omega
    have h4 : (((bs (r ++ [x])).extract r.length (r.length + 1)).toList == (bs [c]).toList) = (x == c) := by
      rw [bs_ext, bs_list, bs_list]
      simp
    have H4 := Lib.hid h4
    have hr : r.length + 1 < 2 ^ 62 := by simpa using hl
    clear h4 hl
    go_enter Tryz.func118, Tryz.ntmps118
    go_wp2_with fail
    rw [H4.out]
    go_ret
    exact ⟨by simp, rfl⟩
theorem Tryz.trim62 (l : List UInt8) (c : UInt8) (hl : l.length < 2 ^ 62) (w : World) : Calls Tryz.prog 135 #[.string (bs l), .string (bs [c])] w fun e w' => e = .returned (.string (bs (if l.head? = some c then l.tail else l))) ∧ w = w' := by
  have hc := Tryz.pre34 l c hl
  by_cases h : l.head? = some c
  · rw [if_pos h]
    rw [h] at hc
    obtain ⟨r, rfl⟩ : ∃ r, l = c :: r := by
      cases l with
      | nil => cases h
      | cons x r => simp at h; exact ⟨r, by rw [h]⟩
    have h1 : (bs (c :: r)).size = r.length + 1 := by rw [bs_size]; rfl
    have h2 : (bs [c]).size = 1 := by rw [bs_size]; rfl
    have hb : (some c == some c) = true := by simp
    rw [hb] at hc
    have h4 : (bs (c :: r)).extract 1 (r.length + 1) = bs r := by rw [bs_ext]; simp
    have H4 := Lib.hid h4
    have hr : r.length + 1 < 2 ^ 62 := by simpa using hl
    clear h4 hl hb h
    go_enter Tryz.func135, Tryz.ntmps135
    go_wp2_with (go_at_call 117; refine (hc _).mono ?_; rintro e w1 ⟨rfl, rfl⟩)
    rw [H4.out]
    go_ret
    exact ⟨rfl, rfl⟩
  · rw [if_neg h]
    have hb : (l.head? == some c) = false := by simpa using h
    rw [hb] at hc
    clear hb h
    go_enter Tryz.func135, Tryz.ntmps135
    go_wp2_with (go_at_call 117; refine (hc _).mono ?_; rintro e w1 ⟨rfl, rfl⟩)
    go_ret
    exact ⟨rfl, rfl⟩
theorem Tryz.trim (l : List UInt8) (c : UInt8) (hl : l.length < 2 ^ 62) (w : World) : Calls Tryz.prog 131 #[.string (bs l), .string (bs [c])] w fun e w' => e = .returned (.string (bs (if l.head? = some c then l.tail else l))) ∧ w = w' := by
  have hc := Tryz.trim62 l c hl
  generalize (if l.head? = some c then l.tail else l) = q at hc ⊢
  go_enter Tryz.func131, Tryz.ntmps131
  go_wp2_with (go_at_call 135; refine (hc _).mono ?_; rintro e w1 ⟨rfl, rfl⟩)
  go_ret
  exact ⟨rfl, rfl⟩
theorem Tryz.suf (l : List UInt8) (c : UInt8) (hl : l.length < 2 ^ 62) (w : World) : Calls Tryz.prog 97 #[.string (bs l), .string (bs [c])] w fun e w' => e = .returned (.bool (l.getLast? == some c)) ∧ w = w' := by
  have hc := Tryz.suf35 l c hl
  go_enter Tryz.func97, Tryz.ntmps97
  go_wp2_with (go_at_call 118; refine (hc _).mono ?_; rintro e w1 ⟨rfl, rfl⟩)
  go_ret
  exact ⟨rfl, rfl⟩
end Go.Proofs.YtcogajgikmcfpaaGreatDoor
end

section
namespace Go.Proofs.YtcogajgikmcfpaaGreatDoor
open Go.RowKit
set_option maxRecDepth 100000
def intO (v : Value) : Int := match v with | .int _ q => q | _ => 0
def dig (c : UInt8) : Bool := decide (48 ≤ c.toNat) && decide (c.toNat ≤ 57)
def bare (l : List UInt8) : List UInt8 := if l.head? = some 45 then l.tail else l
def decB (l : List UInt8) : Bool := match bare l with | [] => false | c :: r => !(c == 48 && !(l == [48])) && (c :: r).all dig
theorem bare_len (l : List UInt8) : (bare l).length ≤ l.length := by
  unfold bare
  split
  · rw [List.length_tail]; omega
  · exact Nat.le_refl _
theorem bs_get (l : List UInt8) (i : Nat) (h : i < (bs l).size) : (bs l)[i]'h = l[i]'(by rw [← bs_size l]; exact h) := by
  rfl
theorem Tryz.decimal (l : List UInt8) (hl : l.length < 2 ^ 62) (w : World) : Calls Tryz.prog 119 #[.string (bs l)] w fun e w' => e = .returned (.bool (decB l)) ∧ w = w' := by
  have ht := Tryz.trim l 45 hl
  have hbl := bare_len l
  have hD : decB l = match bare l with | [] => false | c :: r => !(c == 48 && !(l == [48])) && (c :: r).all dig := rfl
  rw [show (if l.head? = some 45 then l.tail else l) = bare l from rfl] at ht
  rw [hD]
  generalize bare l = b at ht hbl ⊢
  have HT := Lib.hid ht
  clear ht hD
  cases b with
  | nil =>
    have hB := bs_list
    go_enter Tryz.func119, Tryz.ntmps119
    go_wp2_with (go_at_call 131; refine (HT.out _).mono ?_; rintro e w1 ⟨rfl, rfl⟩)
    go_ret
    exact ⟨rfl, rfl⟩
  | cons c r =>
    have hB := bs_list
    have hS := bs_size
    have hG := bs_get
    by_cases hz : c = 48 ∧ ¬ l = [48]
    · obtain ⟨rfl, hl48⟩ := hz
      have hl0 : (l == [48]) = false := by simpa using hl48
      clear hl48
      go_enter Tryz.func119, Tryz.ntmps119
      go_wp2_with (go_at_call 131; refine (HT.out _).mono ?_; rintro e w1 ⟨rfl, rfl⟩)
      go_ret
      exact ⟨by rw [hl0]; simp, rfl⟩
    · have hloop : ∀ (a : Act) (Q : Exit → Act → World → Prop), True := fun _ _ => trivial
      have hDD : (!(c == 48 && !(l == [48])) && (c :: r).all dig) = (c :: r).all dig := by
        have : (c == 48 && !(l == [48])) = false := by
          by_cases h1 : c = 48
          · have h2 : l = [48] := Classical.byContradiction fun h => hz ⟨h1, h⟩
            simp [h2]
          · simp [h1]
        rw [this]
        simp
      have hlen : (c :: r).length < 2 ^ 62 := Nat.lt_of_le_of_lt hbl hl
      obtain ⟨b, hb⟩ : ∃ b, b = c :: r := ⟨_, rfl⟩
      have hne : b.isEmpty = false := by rw [hb]; rfl
      have hb0 : ∀ h, b[0]'h = c := by subst hb; intro h; rfl
      have hb1 : 0 < b.length := by rw [hb]; simp
      dsimp only
      rw [hDD]
      rw [← hb] at hlen HT ⊢
      obtain ⟨m, hm⟩ : ∃ m, m = b.length := ⟨_, rfl⟩
      rw [← hm] at hlen hb1
      have hS1 : (bs b).size = m := by rw [bs_size, hm]
      have hz1 : ((c.toNat : Int) == 48) = true → (l == [48]) = true := fun h => by
        have h1 : c = 48 := by
          have h' : (c.toNat : Int) = 48 := by simpa using h
          refine UInt8.toNat_inj.1 ?_
          show c.toNat = 48
          omega
        have h2 : l = [48] := Classical.byContradiction fun h => hz ⟨h1, h⟩
        simp [h2]
      have HM := Lib.hid hm
      clear hm hb hDD hz hS hloop hbl
      cases hc8 : ((c.toNat : Int) == 48) with
      | false =>
        have hc9 : decide ((c.toNat : Int) = 48) = false := by simpa using hc8
        clear hz1
        go_enter Tryz.func119, Tryz.ntmps119
        go_wp2_with (go_at_call 131; refine (HT.out _).mono ?_; rintro e w1 ⟨rfl, rfl⟩)
        go_loopw [20] (fun t20 W => ∃ i : Nat, W = w ∧ i ≤ m ∧ t20 = .int .i64 i ∧ Hid ((b.take i).all dig = true)) (fun t20 _ => m - (intO t20).toNat)
        case atStart => exact ⟨0, rfl, Nat.zero_le _, rfl, Lib.hid (by simp)⟩
        case round =>
          obtain ⟨i, rfl, him, rfl, HA⟩ := hrel
          by_cases hlt : i < m
          · have t1 : decide ((i : Int) < m) = true := decide_eq_true (by omega)
            have t2 : decide (i < m) = true := decide_eq_true hlt
            obtain ⟨y, hy⟩ : ∃ y, b[i]'(by rw [← HM.out]; exact hlt) = y := ⟨_, rfl⟩
            have hnext : (b.take (i + 1)).all dig = ((b.take i).all dig && dig y) := by
              rw [List.take_add_one, List.getElem?_eq_getElem (by rw [← HM.out]; exact hlt), hy, List.all_append]
              simp
            have hgo : ∀ k, (b.take k).all dig = false → b.all dig = false := fun k h => by
              rw [← List.take_append_drop k b, List.all_append, h, Bool.false_and]
            rw [HA.out, Bool.true_and] at hnext
            have HN := Lib.hid hnext
            have HG := Lib.hid (hgo (i + 1))
            have hdy : dig y = (decide (48 ≤ y.toNat) && decide (y.toNat ≤ 57)) := rfl
            by_cases h1 : y.toNat < 48
            · have u1 : decide ((y.toNat : Int) < 48) = true := decide_eq_true (by omega)
              have hall : b.all dig = false := HG.out (by rw [HN.out, hdy, decide_eq_false (by omega)]; rfl)
              have HALL := Lib.hid hall
              clear hnext hgo hdy hall hc9 hc8 hb0
              go_wp2_with fail
              rw [HALL.out]
              go_ret
              exact ⟨rfl, rfl⟩
            · have u1 : decide ((y.toNat : Int) < 48) = false := decide_eq_false (by omega)
              by_cases h2 : 57 < y.toNat
              · have u2 : decide ((y.toNat : Int) > 57) = true := decide_eq_true (by omega)
                have hall : b.all dig = false := HG.out (by rw [HN.out, hdy, decide_eq_false (p := y.toNat ≤ 57) (by omega), Bool.and_false])
                have HALL := Lib.hid hall
                clear hnext hgo hdy hall hc9 hc8 hb0
                go_wp2_with fail
                rw [HALL.out]
                go_ret
                exact ⟨rfl, rfl⟩
              · have u2 : decide ((y.toNat : Int) > 57) = false := decide_eq_false (by omega)
                have hn : (b.take (i + 1)).all dig = true := by rw [HN.out, hdy, decide_eq_true (by omega), decide_eq_true (by omega)]; rfl
                have HA2 := Lib.hid hn
                clear hnext hgo hdy hn hc9 hc8 hb0
                go_wp2_with fail
                exact ⟨⟨i + 1, by first | rfl | trivial, by omega, rfl, HA2⟩, by simp [intO]; omega⟩
          · obtain rfl : i = m := by omega
            have t1 : decide ((i : Int) < i) = false := decide_eq_false (by omega)
            have t2 : decide (i < i) = false := decide_eq_false (by omega)
            have hall : b.all dig = true := by
              have := HA.out
              rw [HM.out, List.take_length] at this
              exact this
            have HALL := Lib.hid hall
            clear hall hc9 hc8 hb0
            go_wp2_with fail
            rw [HALL.out]
            go_ret
            exact ⟨rfl, rfl⟩
      | true =>
        have hc9 : decide ((c.toNat : Int) = 48) = true := by simpa using hc8
        have hl0 := hz1 hc8
        clear hz1
        go_enter Tryz.func119, Tryz.ntmps119
        go_wp2_with (go_at_call 131; refine (HT.out _).mono ?_; rintro e w1 ⟨rfl, rfl⟩)
        go_loopw [20] (fun t20 W => ∃ i : Nat, W = w ∧ i ≤ m ∧ t20 = .int .i64 i ∧ Hid ((b.take i).all dig = true)) (fun t20 _ => m - (intO t20).toNat)
        case atStart => exact ⟨0, rfl, Nat.zero_le _, rfl, Lib.hid (by simp)⟩
        case round =>
          obtain ⟨i, rfl, him, rfl, HA⟩ := hrel
          by_cases hlt : i < m
          · have t1 : decide ((i : Int) < m) = true := decide_eq_true (by omega)
            have t2 : decide (i < m) = true := decide_eq_true hlt
            obtain ⟨y, hy⟩ : ∃ y, b[i]'(by rw [← HM.out]; exact hlt) = y := ⟨_, rfl⟩
            have hnext : (b.take (i + 1)).all dig = ((b.take i).all dig && dig y) := by
              rw [List.take_add_one, List.getElem?_eq_getElem (by rw [← HM.out]; exact hlt), hy, List.all_append]
              simp
            have hgo : ∀ k, (b.take k).all dig = false → b.all dig = false := fun k h => by
              rw [← List.take_append_drop k b, List.all_append, h, Bool.false_and]
            rw [HA.out, Bool.true_and] at hnext
            have HN := Lib.hid hnext
            have HG := Lib.hid (hgo (i + 1))
            have hdy : dig y = (decide (48 ≤ y.toNat) && decide (y.toNat ≤ 57)) := rfl
            by_cases h1 : y.toNat < 48
            · have u1 : decide ((y.toNat : Int) < 48) = true := decide_eq_true (by omega)
              have hall : b.all dig = false := HG.out (by rw [HN.out, hdy, decide_eq_false (by omega)]; rfl)
              have HALL := Lib.hid hall
              clear hnext hgo hdy hall hc9 hc8 hb0
              go_wp2_with fail
              rw [HALL.out]
              go_ret
              exact ⟨rfl, rfl⟩
            · have u1 : decide ((y.toNat : Int) < 48) = false := decide_eq_false (by omega)
              by_cases h2 : 57 < y.toNat
              · have u2 : decide ((y.toNat : Int) > 57) = true := decide_eq_true (by omega)
                have hall : b.all dig = false := HG.out (by rw [HN.out, hdy, decide_eq_false (p := y.toNat ≤ 57) (by omega), Bool.and_false])
                have HALL := Lib.hid hall
                clear hnext hgo hdy hall hc9 hc8 hb0
                go_wp2_with fail
                rw [HALL.out]
                go_ret
                exact ⟨rfl, rfl⟩
              · have u2 : decide ((y.toNat : Int) > 57) = false := decide_eq_false (by omega)
                have hn : (b.take (i + 1)).all dig = true := by rw [HN.out, hdy, decide_eq_true (by omega), decide_eq_true (by omega)]; rfl
                have HA2 := Lib.hid hn
                clear hnext hgo hdy hn hc9 hc8 hb0
                go_wp2_with fail
                exact ⟨⟨i + 1, by first | rfl | trivial, by omega, rfl, HA2⟩, by simp [intO]; omega⟩
          · obtain rfl : i = m := by omega
            have t1 : decide ((i : Int) < i) = false := decide_eq_false (by omega)
            have t2 : decide (i < i) = false := decide_eq_false (by omega)
            have hall : b.all dig = true := by
              have := HA.out
              rw [HM.out, List.take_length] at this
              exact this
            have HALL := Lib.hid hall
            clear hall hc9 hc8 hb0
            go_wp2_with fail
            rw [HALL.out]
            go_ret
            exact ⟨rfl, rfl⟩
end Go.Proofs.YtcogajgikmcfpaaGreatDoor
end
