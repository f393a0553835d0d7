/-
  The sum of bytes.
-/
import Derived.Test.YtignlmfaoagolaaGreatN1Sp4
import Derived.Test.YtignlmfaoagolaaGreatN1Zig
set_option linter.unusedVariables false
namespace Sp
open Go Go.AbsM
def kc : Nat := 3988292384
def cstepN (s : Nat) : Nat := if s % 2 = 1 then (s / 2) ^^^ kc else s / 2
def citerN : Nat → Nat → Nat
  | 0, s => s
  | n + 1, s => citerN n (cstepN s)
def crcN (s : Nat) : List Int → Nat
  | [] => s
  | x :: r => crcN (citerN 8 (s ^^^ x.toNat)) r
def cstep (s : Int) : Int := (cstepN s.toNat : Nat)
def citer (n : Nat) (s : Int) : Int := (citerN n s.toNat : Nat)
def crc (s : Int) (l : List Int) : Int := (crcN s.toNat l : Nat)
def sum (l : List Int) : Int := 4294967295 - crc 4294967295 l

theorem cstepN_lt {s : Nat} (h : s < 4294967296) : cstepN s < 4294967296 := by
  unfold cstepN
  split
  · exact Nat.xor_lt_two_pow (n := 32) (by omega) (by decide)
  · omega
theorem citerN_lt : ∀ (n s : Nat), s < 4294967296 → citerN n s < 4294967296
  | 0, s, h => h
  | n + 1, s, h => citerN_lt n _ (cstepN_lt h)
theorem xor_inj {a b c : Nat} (h : a ^^^ c = b ^^^ c) : a = b := by
  have : (a ^^^ c) ^^^ c = (b ^^^ c) ^^^ c := by rw [h]
  simpa [Nat.xor_assoc] using this
theorem cstepN_inj {s t : Nat} (hs : s < 4294967296) (ht : t < 4294967296) (h : cstepN s = cstepN t) : s = t := by
  have top : ∀ a : Nat, a < 2147483648 → 2147483648 ≤ a ^^^ kc := by
    intro a ha
    have : (a ^^^ kc).testBit 31 = true := by
      rw [Nat.testBit_xor]
      have h1 : a.testBit 31 = false := Nat.testBit_lt_two_pow (by omega)
      have h2 : kc.testBit 31 = true := by decide
      rw [h1, h2]; rfl
    have := Nat.ge_two_pow_of_testBit this
    omega
  unfold cstepN at h
  split at h <;> split at h
  · have := xor_inj h
    omega
  · have := top (s / 2) (by omega); omega
  · have := top (t / 2) (by omega); omega
  · omega
theorem citerN_inj : ∀ (n : Nat) {s t : Nat}, s < 4294967296 → t < 4294967296 → citerN n s = citerN n t → s = t
  | 0, s, t, _, _, h => h
  | n + 1, s, t, hs, ht, h => cstepN_inj hs ht (citerN_inj n (cstepN_lt hs) (cstepN_lt ht) h)
theorem xor_lt {s x : Nat} (hs : s < 4294967296) (hx : x < 256) : s ^^^ x < 4294967296 := Nat.xor_lt_two_pow (n := 32) hs (by omega)
theorem crcN_lt : ∀ (l : List Int) (s : Nat), bytes l → s < 4294967296 → crcN s l < 4294967296
  | [], s, _, h => h
  | x :: r, s, hb, h => crcN_lt r _ (fun y hy => hb y (List.mem_cons_of_mem _ hy)) (citerN_lt _ _ (xor_lt h (by have := hb x List.mem_cons_self; omega)))
theorem crcN_inj : ∀ (l : List Int) {s t : Nat}, bytes l → s < 4294967296 → t < 4294967296 → crcN s l = crcN t l → s = t
  | [], s, t, _, _, _, h => h
  | x :: r, s, t, hb, hs, ht, h => by
    have hx : x.toNat < 256 := by have := hb x List.mem_cons_self; omega
    exact xor_inj (citerN_inj 8 (xor_lt hs hx) (xor_lt ht hx) (crcN_inj r (fun y hy => hb y (List.mem_cons_of_mem _ hy)) (citerN_lt _ _ (xor_lt hs hx)) (citerN_lt _ _ (xor_lt ht hx)) h))
theorem crcN_set : ∀ (l : List Int) (i : Nat) (y : Int) (s : Nat), bytes l → 0 ≤ y → y < 256 → s < 4294967296 → i < l.length → y ≠ l.getD i 0 → crcN s (l.set i y) ≠ crcN s l
  | [], i, y, s, _, _, _, _, h, _ => by simp at h
  | x :: r, 0, y, s, hb, h0, h1, hs, _, hne => by
    intro h
    have hx := hb x List.mem_cons_self
    have hr : bytes r := fun y hy => hb y (List.mem_cons_of_mem _ hy)
    have e1 := crcN_inj r hr (citerN_lt _ _ (xor_lt hs (by omega))) (citerN_lt _ _ (xor_lt hs (by omega))) h
    have e2 := citerN_inj 8 (xor_lt hs (by omega)) (xor_lt hs (by omega)) e1
    rw [Nat.xor_comm s, Nat.xor_comm s] at e2
    have e3 := xor_inj e2
    exact hne (by show y = x; omega)
  | x :: r, i + 1, y, s, hb, h0, h1, hs, hi, hne => by
    have hx := hb x List.mem_cons_self
    exact crcN_set r i y _ (fun y hy => hb y (List.mem_cons_of_mem _ hy)) h0 h1 (citerN_lt _ _ (xor_lt hs (by omega))) (by simpa using hi) (by simpa using hne)

theorem and1_u32 {s : Int} (h0 : 0 ≤ s) (h1 : s < 4294967296) : W.and .u32 s 1 = s % 2 := by
  rw [W.and_pos rfl h0 (by exact h1) (by decide) (by decide)]
  have : s.toNat &&& (1 : Int).toNat = s.toNat % 2 := Nat.and_one_is_mod _
  rw [this]; omega
theorem shr1_u32 {s : Int} : W.shr .u32 s 1 = s / 2 := W.shr_lit (k := .u32) (a := s) 1 (by decide)
theorem cstep_prog {s : Int} (h0 : 0 ≤ s) (h1 : s < 4294967296) : W.xor .u32 (W.shr .u32 s 1) (W.and .u32 3988292384 (W.neg .u32 (W.and .u32 s 1))) = cstep s := by
  rw [and1_u32 h0 h1, shr1_u32]
  unfold cstep cstepN
  by_cases h : s % 2 = 1
  · rw [h]
    have e : W.and .u32 3988292384 (W.neg .u32 1) = 3988292384 := by decide +kernel
    rw [e, W.xor_pos rfl (by omega) (by show s / 2 < 4294967296; omega) (by decide) (by decide), if_pos (by omega)]
    have : (s / 2).toNat = s.toNat / 2 := by omega
    rw [this]; rfl
  · have h2 : s % 2 = 0 := by omega
    rw [h2]
    have e : W.and .u32 3988292384 (W.neg .u32 0) = 0 := by decide +kernel
    rw [e, W.xor_pos rfl (by omega) (by show s / 2 < 4294967296; omega) (by decide) (by decide), if_neg (by omega)]
    have : (s / 2).toNat = s.toNat / 2 := by omega
    rw [this]; simp
theorem cstep_ref {s : Int} (h0 : 0 ≤ s) (h1 : s < 4294967296) (h : s % 2 = 1) : W.xor .u32 (W.shr .u32 s 1) 3988292384 = cstep s := by
  rw [shr1_u32, W.xor_pos rfl (by omega) (by show s / 2 < 4294967296; omega) (by decide) (by decide)]
  unfold cstep cstepN
  rw [if_pos (by omega)]
  have : (s / 2).toNat = s.toNat / 2 := by omega
  rw [this]; rfl
theorem cstep_ref0 {s : Int} (h0 : 0 ≤ s) (h : s % 2 ≠ 1) : W.shr .u32 s 1 = cstep s := by
  rw [shr1_u32]
  unfold cstep cstepN
  rw [if_neg (by omega)]; omega
theorem cstep_in {s : Int} (h0 : 0 ≤ s) (h1 : s < 4294967296) : 0 ≤ cstep s ∧ cstep s < 4294967296 := by
  have := cstepN_lt (s := s.toNat) (by omega)
  unfold cstep; omega
theorem citer_succ {n : Nat} {s : Int} (h0 : 0 ≤ s) : citer (n + 1) s = citer n (cstep s) := by
  unfold citer cstep; rw [Int.toNat_natCast]; rfl
theorem citer_in {n : Nat} {s : Int} (h0 : 0 ≤ s) (h1 : s < 4294967296) : 0 ≤ citer n s ∧ citer n s < 4294967296 := by
  have := citerN_lt n s.toNat (by omega)
  unfold citer; omega
theorem xor_u32 {s x : Int} (h0 : 0 ≤ s) (h1 : s < 4294967296) (x0 : 0 ≤ x) (x1 : x < 256) : W.xor .u32 s (W.wrap .u32 x) = ((s.toNat ^^^ x.toNat : Nat) : Int) := by
  rw [W.wu32_in x0 (by omega), W.xor_pos rfl h0 (by exact h1) x0 (by show x < 4294967296; omega)]
theorem xor_in {s x : Int} (h0 : 0 ≤ s) (h1 : s < 4294967296) (x0 : 0 ≤ x) (x1 : x < 256) : 0 ≤ W.xor .u32 s (W.wrap .u32 x) ∧ W.xor .u32 s (W.wrap .u32 x) < 4294967296 := by
  rw [xor_u32 h0 h1 x0 x1]
  have := xor_lt (s := s.toNat) (x := x.toNat) (by omega) (by omega)
  omega
/-- One byte more. -/
theorem crc_drop {l : List Int} {i : Nat} {s : Int} (hb : bytes l) (h0 : 0 ≤ s) (h1 : s < 4294967296) (hi : i < l.length) : crc s (l.drop i) = crc (citer 8 (W.xor .u32 s (W.wrap .u32 (l.getD i 0)))) (l.drop (i + 1)) := by
  obtain ⟨x0, x1⟩ := bytes_get hb i
  rw [xor_u32 h0 h1 x0 x1, List.drop_eq_getElem_cons hi]
  have : l.getD i 0 = l[i] := by simp [List.getD_eq_getElem?_getD, hi]
  rw [this]
  unfold crc citer
  rw [Int.toNat_natCast, Int.toNat_natCast]; rfl
theorem inv_u32 {a : Int} (h0 : 0 ≤ a) (h1 : a < 4294967296) : W.inv .u32 a = 4294967295 - a := by
  show IntKind.u32.wrap (BitVec.ofInt 32 4294967295 ^^^ BitVec.ofInt 32 a).toNat = _
  have : BitVec.ofInt 32 4294967295 = BitVec.allOnes 32 := by decide
  rw [this, BitVec.xor_comm, BitVec.xor_allOnes, BitVec.toNat_not, BitVec.toNat_ofInt, wrap_u32]
  omega
theorem crc_in {l : List Int} {s : Int} (hb : bytes l) (h0 : 0 ≤ s) (h1 : s < 4294967296) : 0 ≤ crc s l ∧ crc s l < 4294967296 := by
  have := crcN_lt l s.toNat hb (by omega)
  unfold crc; omega
theorem sum_set {l : List Int} {i : Nat} {y : Int} (hb : bytes l) (h0 : 0 ≤ y) (h1 : y < 256) (hi : i < l.length) (hne : y ≠ l.getD i 0) : sum (l.set i y) ≠ sum l := by
  have := crcN_set l i y 4294967295 hb h0 h1 (by omega) hi hne
  unfold sum crc
  have e : (4294967295 : Int).toNat = 4294967295 := rfl
  rw [e]; omega
theorem sum_in {l : List Int} (hb : bytes l) : 0 ≤ sum l ∧ sum l < 4294967296 := by
  have := crc_in (s := 4294967295) hb (by omega) (by omega)
  unfold sum; omega
end Sp
namespace Sp
open Go Go.AbsM
def four (n : Int) : List Int := [n % 256, n / 256 % 256, n / 65536 % 256, n / 16777216 % 256]
end Sp
namespace Sp
open Go Go.AbsM
theorem four_prog {n : Int} (h0 : 0 ≤ n) : [W.wrap .u8 n, W.wrap .u8 (W.shr .u32 n 8), W.wrap .u8 (W.shr .u32 n 16), W.wrap .u8 (W.shr .u32 n 24)] = four n := by
  have e1 : W.shr .u32 n 8 = n / 256 := W.shr_lit (k := .u32) (a := n) 8 (by decide)
  have e2 : W.shr .u32 n 16 = n / 65536 := W.shr_lit (k := .u32) (a := n) 16 (by decide)
  have e3 : W.shr .u32 n 24 = n / 16777216 := W.shr_lit (k := .u32) (a := n) 24 (by decide)
  rw [e1, e2, e3, W.wu8, W.wu8, W.wu8, W.wu8]; rfl
theorem four_bytes (n : Int) : bytes (four n) := by
  intro x hx
  simp only [four, List.mem_cons, List.not_mem_nil, or_false] at hx
  rcases hx with rfl | rfl | rfl | rfl <;> omega
theorem orshift {a x : Nat} (i : Nat) (ha : a < 2 ^ i) : a ||| (x * 2 ^ i) = a + x * 2 ^ i := by
  have h := Nat.two_pow_add_eq_or_of_lt (i := i) (b := a) ha x
  rw [Nat.or_comm, Nat.mul_comm x, ← h, Nat.add_comm]
theorem or_u32 {a x : Int} (i : Nat) (ha0 : 0 ≤ a) (ha : a < 2 ^ i) (x0 : 0 ≤ x) (hx : x * 2 ^ i < 4294967296) (hi : a < 4294967296) (m : Int) (hm : m = i) (hi32 : i ≤ 32) : W.or .u32 a (W.shl .u32 x m) = a + x * 2 ^ i := by
  have hp : (0 : Int) < 2 ^ i := Int.pow_pos (by decide)
  have hs : W.shl .u32 x m = x * 2 ^ i := by
    unfold W.shl
    have hm2 : min m.toNat IntKind.u32.bits = i := by
      show min m.toNat 32 = i
      omega
    rw [hm2, wrap_u32]
    have : 0 ≤ x * 2 ^ i := Int.mul_nonneg x0 (by omega)
    omega
  have hx0 : 0 ≤ x * 2 ^ i := Int.mul_nonneg x0 (by omega)
  rw [hs, W.or_pos rfl ha0 (by exact hi) hx0 (by exact hx)]
  have e : (x * 2 ^ i).toNat = x.toNat * 2 ^ i := by
    have hx : (x.toNat : Int) = x := Int.toNat_of_nonneg x0
    have : ((x.toNat * 2 ^ i : Nat) : Int) = x * 2 ^ i := by push_cast; rw [hx]
    omega
  rw [e, orshift i (by
    have h1 : (a.toNat : Int) = a := Int.toNat_of_nonneg ha0
    have h2 : (a.toNat : Int) < ((2 ^ i : Nat) : Int) := by rw [h1]; push_cast; exact ha
    exact_mod_cast h2)]
  have hy : (a.toNat : Int) = a := Int.toNat_of_nonneg ha0
  have hz : (x.toNat : Int) = x := Int.toNat_of_nonneg x0
  push_cast
  rw [hy, hz]
theorem get4_four {b : List Int} {n : Int} (h0 : 0 ≤ n) (h1 : n < 4294967296) : get4 (b ++ four n) b.length = (n, 4, 0) := by
  have hl : (b ++ four n).length = b.length + 4 := by simp [four]
  rw [get4_in (by omega) (by omega)]
  have g : ∀ (j : Nat) (x : Int), (four n)[j]? = some x → ∀ m : Int, m = b.length + j → (b ++ four n).getD m.toNat 0 = x := by
    intro j x hx m hm
    have : m.toNat = b.length + j := by omega
    rw [this, List.getD_eq_getElem?_getD, List.getElem?_append_right (by omega)]
    have : b.length + j - b.length = j := by omega
    rw [this, hx]; rfl
  unfold e4
  rw [g 0 (n % 256) rfl _ (by omega), g 1 (n / 256 % 256) rfl _ (by omega), g 2 (n / 65536 % 256) rfl _ (by omega), g 3 (n / 16777216 % 256) rfl _ (by omega)]
  rw [W.wu32_in (by omega) (by omega), W.wu32_in (by omega) (by omega), W.wu32_in (by omega) (by omega), W.wu32_in (by omega) (by omega)]
  rw [or_u32 8 (by omega) (by omega) (by omega) (by omega) (by omega) 8 rfl (by decide)]
  rw [or_u32 16 (by omega) (by omega) (by omega) (by omega) (by omega) 16 rfl (by decide)]
  rw [or_u32 24 (by omega) (by omega) (by omega) (by omega) (by omega) 24 rfl (by decide)]
  congr 1
  omega
theorem shl_u8 {m : Int} (h0 : 0 ≤ m) (h1 : m < 8) : 0 < W.shl .u8 1 m ∧ W.shl .u8 1 m < 256 := by
  have : ∀ k : Fin 8, 0 < W.shl .u8 1 ((k.val : Nat) : Int) ∧ W.shl .u8 1 ((k.val : Nat) : Int) < 256 := by decide +kernel
  have h := this ⟨m.toNat, by omega⟩
  have e : ((m.toNat : Nat) : Int) = m := Int.toNat_of_nonneg h0
  simp only [e] at h
  exact h
theorem xor_u8 {x y : Int} (x0 : 0 ≤ x) (x1 : x < 256) (y0 : 0 < y) (y1 : y < 256) : 0 ≤ W.xor .u8 x y ∧ W.xor .u8 x y < 256 ∧ W.xor .u8 x y ≠ x := by
  rw [W.xor_pos rfl x0 (by exact x1) (by omega) (by exact y1)]
  have h := Nat.xor_lt_two_pow (n := 8) (x := x.toNat) (y := y.toNat) (by omega) (by omega)
  refine ⟨by omega, by omega, fun h => ?_⟩
  have h1 : x.toNat ^^^ y.toNat = x.toNat := by omega
  have h2 : x.toNat ^^^ (x.toNat ^^^ y.toNat) = x.toNat ^^^ x.toNat := by rw [h1]
  rw [← Nat.xor_assoc, Nat.xor_self, Nat.zero_xor] at h2
  omega
theorem bytes_set {l : List Int} {i : Nat} {y : Int} (hb : bytes l) (h0 : 0 ≤ y) (h1 : y < 256) : bytes (l.set i y) := fun x hx => by
  rcases List.mem_or_eq_of_mem_set hx with h | rfl
  · exact hb x h
  · exact ⟨h0, h1⟩
end Sp
