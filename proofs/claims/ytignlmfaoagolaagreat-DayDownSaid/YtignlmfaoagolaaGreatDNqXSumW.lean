/-
  Texts of a proof over the translated program: NqXSumW.
-/
import Derived.Test.YtignlmfaoagolaaGreatProg
import Derived.WalkKit
import Derived.IntWalk
import Derived.Below
import Derived.Scope
import Derived.ScopeJumps
import Derived.Laws.BitsLemmas
import Derived.Lib.Hide
import Derived.Test.YtignlmfaoagolaaGreatDFnSumW
set_option linter.unusedVariables false
set_option linter.unusedSimpArgs false
set_option linter.unusedSectionVars false
namespace Go.Proofs
open Go.RowKit Go.FM
def vInt : Value → Int
  | .int _ q => q
  | _ => 0
theorem bitsU (a b : Nat) (ha : a < 4294967296) (hb : b < 4294967296) : bits .and .u32 (a : Int) (b : Int) = ((a &&& b : Nat) : Int) ∧ bits .or .u32 (a : Int) (b : Int) = ((a ||| b : Nat) : Int) ∧ bits .xor .u32 (a : Int) (b : Int) = ((a ^^^ b : Nat) : Int) := by
  have ha' : a % 2 ^ IntKind.u32.bits = a := Nat.mod_eq_of_lt ha
  have hb' : b % 2 ^ IntKind.u32.bits = b := Nat.mod_eq_of_lt hb
  have hk : ∀ n : Nat, n < 4294967296 → IntKind.u32.wrap (n : Int) = n := fun n h => by rw [IntKind.wrap_u32]; omega
  have h1 : a &&& b < 2 ^ 32 := Nat.and_lt_two_pow _ hb
  have h2 : a ||| b < 2 ^ 32 := Nat.or_lt_two_pow ha hb
  have h3 : a ^^^ b < 2 ^ 32 := Nat.xor_lt_two_pow ha hb
  refine ⟨?_, ?_, ?_⟩
  · simp only [bits, BitVec.ofInt_natCast, BitVec.toNat_and, BitVec.toNat_ofNat, ha', hb']
    exact hk _ h1
  · simp only [bits, BitVec.ofInt_natCast, BitVec.toNat_or, BitVec.toNat_ofNat, ha', hb']
    exact hk _ h2
  · simp only [bits, BitVec.ofInt_natCast, BitVec.toNat_xor, BitVec.toNat_ofNat, ha', hb']
    exact hk _ h3
theorem step_bits (x : Nat) (h : x < 4294967296) : bits .xor .u32 ((x : Int) / 2) (bits .and .u32 3988292384 (-bits .and .u32 (x : Int) 1 % 4294967296)) = (cstepN x : Nat) := by
  have e1 : bits .and .u32 (x : Int) 1 = ((x % 2 : Nat) : Int) := by
    have := (bitsU x 1 h (by decide)).1
    rw [Nat.and_one_is_mod] at this
    exact this
  rw [e1]
  have e2 : (x : Int) / 2 = ((x / 2 : Nat) : Int) := by omega
  rw [e2]
  unfold cstepN
  by_cases hx : x % 2 = 1
  · rw [hx, if_pos rfl]
    have e3 : -((1 : Nat) : Int) % 4294967296 = ((4294967295 : Nat) : Int) := by decide
    have e4 : (3988292384 : Int) = ((3988292384 : Nat) : Int) := rfl
    rw [e3, e4, (bitsU 3988292384 4294967295 (by decide) (by decide)).1]
    have e5 : (3988292384 &&& 4294967295 : Nat) = 3988292384 := by decide
    rw [e5, (bitsU (x / 2) 3988292384 (by omega) (by decide)).2.2]
    rfl
  · have h0 : x % 2 = 0 := by omega
    rw [h0, if_neg (by decide)]
    have e3 : -((0 : Nat) : Int) % 4294967296 = ((0 : Nat) : Int) := by decide
    have e4 : (3988292384 : Int) = ((3988292384 : Nat) : Int) := rfl
    rw [e3, e4, (bitsU 3988292384 0 (by decide) (by decide)).1]
    have e5 : (3988292384 &&& 0 : Nat) = 0 := by decide
    rw [e5, (bitsU (x / 2) 0 (by omega) (by decide)).2.2, Nat.xor_zero]
set_option maxHeartbeats 1000000 in
theorem Tryz.eight (s : Nat) (hs : s < 4294967296) (w : World) :
    Calls Tryz.prog 249 #[.int .u32 (s : Nat)] w fun e w' => e = .returned (.int .u32 (citerN 8 s : Nat)) ∧ w' = w := by
  go_enter Tryz.func249, Tryz.ntmps249
  go_wp2
  go_loop [0, 3] (fun t0 t3 => ∃ k : Nat, k ≤ 8 ∧ t3 = .int .i64 k ∧ t0 = .int .u32 (citerN k s : Nat)) (fun _ t3 => 8 - (vInt t3).toNat)
  case atStart => exact ⟨0, by omega, rfl, rfl⟩
  case round =>
    obtain ⟨k, hk, rfl, rfl⟩ := hrel
    have hlt := citerN_lt k s hs
    have hst := step_bits _ hlt
    by_cases h8 : k < 8
    · have HS : Hid (bits .xor .u32 ((citerN k s : Nat) / 2 : Int) (bits .and .u32 3988292384 (-bits .and .u32 ((citerN k s : Nat) : Int) 1 % 4294967296)) = (citerN (k + 1) s : Nat)) := Lib.hid (by rw [citer_succ]; exact hst)
      clear hst
      go_wp2
      go_round
      case rel => exact ⟨k + 1, by omega, by go_num, by rw [HS.out]⟩
      case measure => simp [vInt]; omega
    · obtain rfl : k = 8 := by omega
      clear hst
      go_wp2
      go_ret
      exact ⟨rfl, rfl⟩
theorem Tryz.eightZ (z : Int) (s : Nat) (hz : Hid (z = (s : Nat))) (hs : s < 4294967296) (w : World) :
    Calls Tryz.prog 249 #[.int .u32 z] w fun e w' => e = .returned (.int .u32 (citerN 8 s : Nat)) ∧ w' = w := by
  rw [hz.out]; exact Tryz.eight s hs w
theorem inv32 (s : Nat) (h : s < 4294967296) : bits .xor .u32 IntKind.u32.max (s : Int) = 4294967295 - (s : Int) := by
  have e : IntKind.u32.max = ((4294967295 : Nat) : Int) := rfl
  rw [e, (bitsU 4294967295 s (by decide) h).2.2]
  have key : 4294967295 ^^^ s = 4294967295 - s := by
    have e := congrArg BitVec.toNat (BitVec.allOnes_xor (x := BitVec.ofNat 32 s))
    rw [BitVec.toNat_xor, BitVec.toNat_not] at e
    simp only [BitVec.toNat_allOnes, BitVec.toNat_ofNat] at e
    rw [Nat.mod_eq_of_lt (show s < 2 ^ 32 from h)] at e
    exact e
  rw [key]; omega
set_option maxHeartbeats 2000000 in
theorem Tryz.sum : SumSpec Tryz.prog 193 := by
  intro A n m l hl hb hn w hc
  go_enter Tryz.func193, Tryz.ntmps193
  go_wp2
  refine wp_scope_jumps 0 (fun a' w' => w' = w ∧ ∃ (i : Nat) (u5 u6 u7 u8 u9 u10 u11 u12 u13 u14 u15 u16 u17 u18 u19 u20 : Value), a' = { tmps := #[.slice (some A) n m, undef, .int .u32 0, .int .u32 (sumAt l i : Nat), .int .i64 i, u5, u6, u7, u8, u9, u10, u11, u12, u13, u14, u15, u16, u17, u18, u19, u20], defers := [] } ∧ i ≤ n) (fun a' _ => n - (vInt (a'.tmps.getD 4 undef)).toNat) rfl ?_ ?_
  · go_wp2
    go_step3
    have hs0 : sumAt l 0 = 4294967295 := rfl
    by_cases hin : 0 < n
    · have hx := hc 0 hin
      have hA : A.add 0 = A := by cases A; rfl
      rw [hA] at hx
      clear hA
      have hxb := hb (l.getD 0 0) (by rw [List.getD_eq_getElem?_getD, List.getElem?_eq_getElem (by omega)]; exact List.getElem_mem _)
      have hsl := sumAt_lt hb 0
      have hss := sumAt_succ l 0 (by omega)
      have hz := (bitsU (sumAt l 0) (l.getD 0 0).toNat hsl (by omega)).2.2
      rw [Int.toNat_of_nonneg hxb.1, hs0] at hz
      rw [hs0] at hss
      have HZ : Hid (bits .xor .u32 4294967295 (l.getD 0 0) = ((4294967295 ^^^ (l.getD 0 0).toNat : Nat) : Int)) := Lib.hid hz
      have hlt : 4294967295 ^^^ (l.getD 0 0).toNat < 4294967296 := Nat.xor_lt_two_pow (n := 32) (by decide) (by omega)
      have HS : Hid (citerN 8 (4294967295 ^^^ (l.getD 0 0).toNat) = sumAt l 1) := Lib.hid hss.symm
      have hD : decide ((0 : Int) = n) = false := by simp; omega
      have hD2 : ((0 : Int) == n) = false := by simp; omega
      clear hc hss hz hs0 hsl
      generalize l.getD 0 0 = x at hx hxb HZ hlt HS
      go_wp2_with (go_at_call 249; refine (Tryz.eightZ _ _ HZ hlt _).mono ?_; rintro e w' ⟨rfl, rfl⟩)
      go_step3
      rw [HS.out]
      exact ⟨rfl, rfl, 1, _, _, _, _, _, _, _, _, _, _, _, _, _, _, _, _, ⟨rfl, by omega⟩⟩
    · obtain rfl : n = 0 := by omega
      obtain rfl : l = [] := List.eq_nil_of_length_eq_zero hl
      clear hc hs0
      go_wp2
      simp only [Exit.jump]
      go_ret
      exact ⟨rfl, rfl⟩
  · rintro a' w' ⟨rfl, i, u5, u6, u7, u8, u9, u10, u11, u12, u13, u14, u15, u16, u17, u18, u19, u20, rfl, hi⟩
    by_cases hin : i < n
    · have hx := hc i hin
      have hxb := hb (l.getD i 0) (by rw [List.getD_eq_getElem?_getD, List.getElem?_eq_getElem (by omega)]; exact List.getElem_mem _)
      have hsl := sumAt_lt hb i
      have hss := sumAt_succ l i (by omega)
      have hz := (bitsU (sumAt l i) (l.getD i 0).toNat hsl (by omega)).2.2
      rw [Int.toNat_of_nonneg hxb.1] at hz
      have HZ : Hid (bits .xor .u32 ((sumAt l i : Nat) : Int) (l.getD i 0) = ((sumAt l i ^^^ (l.getD i 0).toNat : Nat) : Int)) := Lib.hid hz
      have hlt : sumAt l i ^^^ (l.getD i 0).toNat < 4294967296 := Nat.xor_lt_two_pow (n := 32) hsl (by omega)
      have HS : Hid (citerN 8 (sumAt l i ^^^ (l.getD i 0).toNat) = sumAt l (i + 1)) := Lib.hid hss.symm
      have hD : decide ((i : Int) = n) = false := by simp; omega
      clear hc hss hz
      generalize l.getD i 0 = x at hx hxb HZ hlt HS
      go_wp2_with (go_at_call 249; refine (Tryz.eightZ _ _ HZ hlt _).mono ?_; rintro e w' ⟨rfl, rfl⟩)
      go_step3
      rw [HS.out]
      refine ⟨rfl, ⟨rfl, i + 1, _, _, _, _, _, _, _, _, _, _, _, _, _, _, _, _, ⟨rfl, by omega⟩⟩, ?_⟩
      simp [vInt]; omega
    · obtain rfl : i = n := by omega
      have hD : decide ((i : Int) = i) = true := by simp
      clear hc
      go_wp2
      simp only [Exit.jump]
      go_ret
      refine ⟨?_, rfl⟩
      have hs2 : sumAt l i = crcN 4294967295 l := by unfold sumAt; rw [← hl, List.take_length]
      show Ending.returned (Value.int .u32 (bits .xor .u32 IntKind.u32.max ((sumAt l i : Nat) : Int))) = _
      rw [inv32 _ (sumAt_lt hb i), hs2]
      rfl
end Go.Proofs
