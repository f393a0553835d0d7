/-
  Texts of a proof over the translated program: proved evaluators and walks, part 2 of 14.
-/
import Derived.Test.YtfblhcphbcghpaaPartM1
import Derived.Below
import Derived.IntWalk
import Derived.Laws.BitsLemmas
import Derived.Laws.Closers25b
import Derived.WalkKit
set_option linter.unusedVariables false
set_option linter.unusedSimpArgs false
set_option linter.unusedSectionVars false
set_option linter.unnecessarySimpa false
section
namespace Go.Proofs.Ytfblhcphbcghpaa
open Go.RowKit
def encF : Nat → Nat → List UInt8
  | 0, _ => []
  | f + 1, u => if u < 128 then [UInt8.ofNat u] else UInt8.ofNat (u % 128 + 128) :: encF f (u / 128)
def encN (u : Nat) : List UInt8 := encF 10 u
theorem encF_more (f u : Nat) (h : ¬ u < 128) : encF (f + 1) u = UInt8.ofNat (u % 128 + 128) :: encF f (u / 128) := by rw [encF, if_neg h]
theorem encF_last (f u : Nat) (h : u < 128) : encF (f + 1) u = [UInt8.ofNat u] := by rw [encF, if_pos h]
theorem encF_len : ∀ f u, (encF f u).length ≤ f
  | 0, u => Nat.le_refl _
  | f + 1, u => by
    by_cases h : u < 128
    · rw [encF_last f u h]; simp
    · rw [encF_more f u h, List.length_cons]; have := encF_len f (u / 128); omega
theorem encF_len2 (f u k : Nat) (h : u < 128 ^ k) (hk : 1 ≤ k) : (encF f u).length ≤ k := by
  induction k generalizing f u with
  | zero => omega
  | succ k ih =>
    cases f with
    | zero => simp [encF]
    | succ f =>
      by_cases hu : u < 128
      · rw [encF_last f u hu]; simp
      · rw [encF_more f u hu, List.length_cons]
        have hk1 : 1 ≤ k := by
          rcases Nat.eq_zero_or_pos k with rfl | hp
          · simp at h; omega
          · exact hp
        have : u / 128 < 128 ^ k := by
          rw [Nat.div_lt_iff_lt_mul (by omega)]
          rw [Nat.pow_succ] at h
          exact h
        have := ih f (u / 128) this hk1
        omega
theorem wr64 : ∀ n : Int, 0 ≤ n → n < 2 ^ 64 → IntKind.u64.wrap n = n := fun n h0 h1 => by rw [IntKind.wrap_u64]; omega
theorem or_comm' (a b : Int) : bits .or .u64 a b = bits .or .u64 b a := by
  simp only [bits, BitVec.or_comm]
theorem gadd_sum (k c a : Nat) (ha : a < 2 ^ (7 * k)) (hz : a < 18446744073709551616) (h : c % 128 * 2 ^ (7 * k) < 18446744073709551616) : gadd k c (a : Int) = ((a + c % 128 * 2 ^ (7 * k) : Nat) : Int) := by
  have e : ((c : Int) % 128 * 2 ^ (7 * k)) = ((c % 128 * 2 ^ (7 * k) : Nat) : Int) := by
    rw [Int.natCast_mul, Int.natCast_emod, Int.natCast_pow]; rfl
  have hw : IntKind.u64.wrap ((c % 128 * 2 ^ (7 * k) : Nat) : Int) = ((c % 128 * 2 ^ (7 * k) : Nat) : Int) := by
    rw [IntKind.wrap_u64]; omega
  unfold gadd
  rw [e, hw, or_comm']
  by_cases h0 : c % 128 = 0
  · rw [h0, Nat.zero_mul, Nat.add_zero]
    have := bits_join .u64 64 (by decide) wr64 64 0 (a : Int) (by omega) (by simp) (by decide) (by omega) (by exact_mod_cast hz) (by exact_mod_cast hz)
    simpa using this
  · have hp : 2 ^ (7 * k) ≤ c % 128 * 2 ^ (7 * k) := Nat.le_mul_of_pos_left _ (by omega)
    have hx : ((c % 128 * 2 ^ (7 * k) : Nat) : Int) % 2 ^ (7 * k) = 0 := by
      have : (2 : Int) ^ (7 * k) = ((2 ^ (7 * k) : Nat) : Int) := by rw [Int.natCast_pow]; rfl
      rw [this, ← Int.natCast_emod, Nat.mul_mod_left]
      rfl
    have := bits_join .u64 64 (by decide) wr64 (7 * k) ((c % 128 * 2 ^ (7 * k) : Nat) : Int) (a : Int) (by omega) hx (by exact_mod_cast h) (by omega) (by exact_mod_cast ha) (by
      exact_mod_cast hz)
    rw [this]
    omega
end Go.Proofs.Ytfblhcphbcghpaa
end

section
namespace Go.FM
noncomputable section
open Go.RowKit (Below)
def kcW : Nat := 3988292384
def cstepN (s : Nat) : Nat := if s % 2 = 1 then (s / 2) ^^^ kcW else s / 2
def citerN : Nat → Nat → Nat
  | 0, s => s
  | n + 1, s => citerN n (cstepN s)
def crcN (s : Nat) : List Int → Nat
  | [] => s
  | x :: r => crcN (citerN 8 (s ^^^ x.toNat)) r
def isBytes (l : List Int) : Prop := ∀ x ∈ l, 0 ≤ x ∧ x < 256
theorem cstepN_lt {s : Nat} (h : s < 4294967296) : cstepN s < 4294967296 := by
  unfold cstepN
  split
  · exact Nat.xor_lt_two_pow (n := 32) (by omega) (by decide)
  · omega
theorem citerN_lt : ∀ (n s : Nat), s < 4294967296 → citerN n s < 4294967296
  | 0, s, h => h
  | n + 1, s, h => citerN_lt n _ (cstepN_lt h)
theorem crcN_lt : ∀ (l : List Int) (s : Nat), isBytes l → s < 4294967296 → crcN s l < 4294967296
  | [], s, _, h => h
  | x :: r, s, hb, h => crcN_lt r _ (fun y hy => hb y (List.mem_cons_of_mem _ hy)) (citerN_lt _ _ (Nat.xor_lt_two_pow (n := 32) h (by have := hb x List.mem_cons_self; omega)))
theorem citer_succ : ∀ (k s : Nat), citerN (k + 1) s = cstepN (citerN k s)
  | 0, s => rfl
  | k + 1, s => by
    show citerN (k + 1) (cstepN s) = _
    rw [citer_succ k]; rfl
theorem crcN_snoc : ∀ (l : List Int) (x : Int) (s : Nat), crcN s (l ++ [x]) = citerN 8 (crcN s l ^^^ x.toNat)
  | [], _, _ => rfl
  | y :: r, x, s => by
    show crcN (citerN 8 (s ^^^ y.toNat)) (r ++ [x]) = _
    rw [crcN_snoc r]; rfl
def sumAt (l : List Int) (i : Nat) : Nat := crcN 4294967295 (l.take i)
theorem sumAt_succ (l : List Int) (i : Nat) (h : i < l.length) : sumAt l (i + 1) = citerN 8 (sumAt l i ^^^ (l.getD i 0).toNat) := by
  unfold sumAt
  rw [List.take_succ_eq_append_getElem h, crcN_snoc]
  simp [List.getD_eq_getElem?_getD, h]
theorem sumAt_lt {l : List Int} (hb : isBytes l) (i : Nat) : sumAt l i < 4294967296 := crcN_lt _ _ (fun x hx => hb x (List.mem_of_mem_take hx)) (by decide)
def sumI (l : List Int) : Int := 4294967295 - (crcN 4294967295 l : Nat)
def SumSpec (P : Program) (f : FuncId) : Prop := ∀ (A : Addr) (n m : Nat) (l : List Int), l.length = n → isBytes l → n < 1000000 → ∀ w : World, (∀ i, i < n → w.cell? (A.add i) = some (.int .u8 (l.getD i 0))) →
  Calls P f #[.slice (some A) n m] w fun e w' => e = .returned (.int .u32 (sumI l)) ∧ w' = w
end
end Go.FM
end
