/-
  Texts of a proof over the translated program: N1Sp5.
-/
import Derived.Test.YtignlmfaoagolaaGreatN1Sp4
import Derived.Test.YtignlmfaoagolaaGreatN1Zig
set_option linter.unusedVariables false
set_option linter.unusedSimpArgs false
set_option linter.unusedSectionVars false
namespace Sp
open Go Go.AbsM
def kc : Nat := 3988292384
def cstepN (s : Nat) : Nat := if s % 2 = 1 then (s / 2) ^^^ kc else s / 2
def citerN : Nat → Nat → Nat
  | 0, s => s
  | n + 1, s => citerN n (cstepN s)
def crcN (s : Nat) : List Int → Nat
  | [] => s
  | x :: r => crcN (citerN 8 (s ^^^ x.toNat)) r
def cstep (s : Int) : Int := (cstepN s.toNat : Nat)
def citer (n : Nat) (s : Int) : Int := (citerN n s.toNat : Nat)
def crc (s : Int) (l : List Int) : Int := (crcN s.toNat l : Nat)
def sum (l : List Int) : Int := 4294967295 - crc 4294967295 l
theorem cstepN_lt {s : Nat} (h : s < 4294967296) : cstepN s < 4294967296 := by
  unfold cstepN
  split
  · exact Nat.xor_lt_two_pow (n := 32) (by omega) (by decide)
  · omega
theorem citerN_lt : ∀ (n s : Nat), s < 4294967296 → citerN n s < 4294967296
  | 0, s, h => h
  | n + 1, s, h => citerN_lt n _ (cstepN_lt h)
theorem xor_lt {s x : Nat} (hs : s < 4294967296) (hx : x < 256) : s ^^^ x < 4294967296 := Nat.xor_lt_two_pow (n := 32) hs (by omega)
theorem crcN_lt : ∀ (l : List Int) (s : Nat), bytes l → s < 4294967296 → crcN s l < 4294967296
  | [], s, _, h => h
  | x :: r, s, hb, h => crcN_lt r _ (fun y hy => hb y (List.mem_cons_of_mem _ hy)) (citerN_lt _ _ (xor_lt h (by have := hb x List.mem_cons_self; omega)))
theorem and1_u32 {s : Int} (h0 : 0 ≤ s) (h1 : s < 4294967296) : W.and .u32 s 1 = s % 2 := by
  rw [W.and_pos rfl h0 (by exact h1) (by decide) (by decide)]
  have : s.toNat &&& (1 : Int).toNat = s.toNat % 2 := Nat.and_one_is_mod _
  rw [this]; omega
theorem shr1_u32 {s : Int} : W.shr .u32 s 1 = s / 2 := W.shr_lit (k := .u32) (a := s) 1 (by decide)
theorem cstep_prog {s : Int} (h0 : 0 ≤ s) (h1 : s < 4294967296) : W.xor .u32 (W.shr .u32 s 1) (W.and .u32 3988292384 (W.neg .u32 (W.and .u32 s 1))) = cstep s := by
  rw [and1_u32 h0 h1, shr1_u32]
  unfold cstep cstepN
  by_cases h : s % 2 = 1
  · rw [h]
    have e : W.and .u32 3988292384 (W.neg .u32 1) = 3988292384 := by decide +kernel
    rw [e, W.xor_pos rfl (by omega) (by show s / 2 < 4294967296; omega) (by decide) (by decide), if_pos (by omega)]
    have : (s / 2).toNat = s.toNat / 2 := by omega
    rw [this]; rfl
  · have h2 : s % 2 = 0 := by omega
    rw [h2]
    have e : W.and .u32 3988292384 (W.neg .u32 0) = 0 := by decide +kernel
    rw [e, W.xor_pos rfl (by omega) (by show s / 2 < 4294967296; omega) (by decide) (by decide), if_neg (by omega)]
    have : (s / 2).toNat = s.toNat / 2 := by omega
    rw [this]; simp
theorem cstep_in {s : Int} (h0 : 0 ≤ s) (h1 : s < 4294967296) : 0 ≤ cstep s ∧ cstep s < 4294967296 := by
  have := cstepN_lt (s := s.toNat) (by omega)
  unfold cstep; omega
theorem citer_succ {n : Nat} {s : Int} (h0 : 0 ≤ s) : citer (n + 1) s = citer n (cstep s) := by
  unfold citer cstep; rw [Int.toNat_natCast]; rfl
theorem citer_in {n : Nat} {s : Int} (h0 : 0 ≤ s) (h1 : s < 4294967296) : 0 ≤ citer n s ∧ citer n s < 4294967296 := by
  have := citerN_lt n s.toNat (by omega)
  unfold citer; omega
theorem xor_u32 {s x : Int} (h0 : 0 ≤ s) (h1 : s < 4294967296) (x0 : 0 ≤ x) (x1 : x < 256) : W.xor .u32 s (W.wrap .u32 x) = ((s.toNat ^^^ x.toNat : Nat) : Int) := by
  rw [W.wu32_in x0 (by omega), W.xor_pos rfl h0 (by exact h1) x0 (by show x < 4294967296; omega)]
theorem xor_in {s x : Int} (h0 : 0 ≤ s) (h1 : s < 4294967296) (x0 : 0 ≤ x) (x1 : x < 256) : 0 ≤ W.xor .u32 s (W.wrap .u32 x) ∧ W.xor .u32 s (W.wrap .u32 x) < 4294967296 := by
  rw [xor_u32 h0 h1 x0 x1]
  have := xor_lt (s := s.toNat) (x := x.toNat) (by omega) (by omega)
  omega
theorem crc_drop {l : List Int} {i : Nat} {s : Int} (hb : bytes l) (h0 : 0 ≤ s) (h1 : s < 4294967296) (hi : i < l.length) : crc s (l.drop i) = crc (citer 8 (W.xor .u32 s (W.wrap .u32 (l.getD i 0)))) (l.drop (i + 1)) := by
  obtain ⟨x0, x1⟩ := bytes_get hb i
  rw [xor_u32 h0 h1 x0 x1, List.drop_eq_getElem_cons hi]
  have : l.getD i 0 = l[i] := by simp [List.getD_eq_getElem?_getD, hi]
  rw [this]
  unfold crc citer
  rw [Int.toNat_natCast, Int.toNat_natCast]; rfl
theorem inv_u32 {a : Int} (h0 : 0 ≤ a) (h1 : a < 4294967296) : W.inv .u32 a = 4294967295 - a := by
  show IntKind.u32.wrap (BitVec.ofInt 32 4294967295 ^^^ BitVec.ofInt 32 a).toNat = _
  have : BitVec.ofInt 32 4294967295 = BitVec.allOnes 32 := by decide
  rw [this, BitVec.xor_comm, BitVec.xor_allOnes, BitVec.toNat_not, BitVec.toNat_ofInt, wrap_u32]
  omega
end Sp
namespace Sp
open Go Go.AbsM
def four (n : Int) : List Int := [n % 256, n / 256 % 256, n / 65536 % 256, n / 16777216 % 256]
end Sp
namespace Sp
open Go Go.AbsM
end Sp
