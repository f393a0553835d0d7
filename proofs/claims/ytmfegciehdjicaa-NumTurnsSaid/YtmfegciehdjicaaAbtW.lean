/-
  The typed machine: its words reckoned.
-/
import Derived.Test.YtmfegciehdjicaaAbtCtr
set_option linter.unusedVariables false
set_option linter.unusedSimpArgs false
namespace Go.AbsM

section
variable {a b : Int} {m n : Nat} {A B : Prop}
theorem grd_ile (h : a ≤ b) (k : A) : grd (W.ile a b) A := grd_iff.2 ⟨decide_eq_true h, k⟩
theorem grd_ilt (h : a < b) (k : A) : grd (W.ilt a b) A := grd_iff.2 ⟨decide_eq_true h, k⟩
theorem grd_nlt (h : m < n) (k : A) : grd (W.nlt m n) A := grd_iff.2 ⟨decide_eq_true h, k⟩
theorem grd_nle (h : m ≤ n) (k : A) : grd (W.nle m n) A := grd_iff.2 ⟨decide_eq_true h, k⟩
theorem grd_neq (h : m = n) (k : A) : grd (W.neq m n) A := grd_iff.2 ⟨decide_eq_true h, k⟩
theorem grd_true {t : Bool} (h : t = true) (k : A) : grd t A := grd_iff.2 ⟨h, k⟩
theorem brc_of {t : Bool} (h : t = true → A) (k : t = false → B) : brc t A B := brc_iff.2 ⟨h, k⟩
theorem brc_yes {t : Bool} (h : t = true) (k : A) : brc t A B := brc_iff.2 ⟨fun _ => k, fun e => (by rw [h] at e; cases e)⟩
theorem brc_no {t : Bool} (h : t = false) (k : B) : brc t A B := brc_iff.2 ⟨fun e => (by rw [h] at e; cases e), fun _ => k⟩
theorem brc_ilt (h : a < b → A) (k : b ≤ a → B) : brc (W.ilt a b) A B := brc_of (fun t => h (of_decide_eq_true t)) (fun t => k (by have := of_decide_eq_false t; omega))
theorem brc_ile (h : a ≤ b → A) (k : b < a → B) : brc (W.ile a b) A B := brc_of (fun t => h (of_decide_eq_true t)) (fun t => k (by have := of_decide_eq_false t; omega))
theorem brc_igt (h : b < a → A) (k : a ≤ b → B) : brc (W.igt a b) A B := brc_of (fun t => h (of_decide_eq_true t)) (fun t => k (by have := of_decide_eq_false t; omega))
theorem brc_ige (h : b ≤ a → A) (k : a < b → B) : brc (W.ige a b) A B := brc_of (fun t => h (of_decide_eq_true t)) (fun t => k (by have := of_decide_eq_false t; omega))
theorem brc_ieq (h : a = b → A) (k : a ≠ b → B) : brc (W.ieq a b) A B := brc_of (fun t => h (by simpa [W.ieq] using t)) (fun t => k (by simpa [W.ieq] using t))
theorem brc_ine (h : a ≠ b → A) (k : a = b → B) : brc (W.ine a b) A B := brc_of (fun t => h (by simpa [W.ine] using t)) (fun t => k (by simpa [W.ine] using t))
theorem brc_none {α : Type} {l : List α} (h : l = [] → A) (k : l ≠ [] → B) : brc (W.none l) A B := brc_of (fun t => h (by simpa [W.none] using t)) (fun t => k (by intro e; subst e; simp [W.none] at t))
theorem brc_bnot {t : Bool} (h : t = false → A) (k : t = true → B) : brc (W.bnot t) A B := by
  cases t
  · exact brc_yes rfl (h rfl)
  · exact brc_no rfl (k rfl)
end

/-! ### Kinds -/
theorem wrap_u8 (n : Int) : IntKind.u8.wrap n = n % 256 := by simp [IntKind.wrap, IntKind.bits, IntKind.signed]
theorem wrap_u16 (n : Int) : IntKind.u16.wrap n = n % 65536 := by simp [IntKind.wrap, IntKind.bits, IntKind.signed]
theorem wrap_u32 (n : Int) : IntKind.u32.wrap n = n % 4294967296 := by simp [IntKind.wrap, IntKind.bits, IntKind.signed]
theorem wrap_u64 (n : Int) : IntKind.u64.wrap n = n % 18446744073709551616 := by simp [IntKind.wrap, IntKind.bits, IntKind.signed]
theorem wrap_i64 (n : Int) : IntKind.i64.wrap n = (n + 9223372036854775808) % 18446744073709551616 - 9223372036854775808 := by
  simp [IntKind.wrap, IntKind.bits, IntKind.signed]
  split <;> omega

namespace W
variable {a b : Int}
theorem wu8 : W.wrap .u8 a = a % 256 := wrap_u8 a
theorem wu16 : W.wrap .u16 a = a % 65536 := wrap_u16 a
theorem wu32 : W.wrap .u32 a = a % 4294967296 := wrap_u32 a
theorem wu64 : W.wrap .u64 a = a % 18446744073709551616 := wrap_u64 a
theorem wi64 : W.wrap .i64 a = (a + 9223372036854775808) % 18446744073709551616 - 9223372036854775808 := wrap_i64 a
theorem wu8_in (h : 0 ≤ a) (k : a < 256) : W.wrap .u8 a = a := by rw [wu8]; omega
theorem wu32_in (h : 0 ≤ a) (k : a < 4294967296) : W.wrap .u32 a = a := by rw [wu32]; omega
theorem wu64_in (h : 0 ≤ a) (k : a < 18446744073709551616) : W.wrap .u64 a = a := by rw [wu64]; omega
theorem wi64_in (h : -9223372036854775808 ≤ a) (k : a < 9223372036854775808) : W.wrap .i64 a = a := by rw [wi64]; omega
theorem add_i64 (h : -9223372036854775808 ≤ a + b) (k : a + b < 9223372036854775808) : W.add .i64 a b = a + b := by
  show IntKind.i64.wrap (a + b) = _; rw [wrap_i64]; omega
theorem sub_i64 (h : -9223372036854775808 ≤ a - b) (k : a - b < 9223372036854775808) : W.sub .i64 a b = a - b := by
  show IntKind.i64.wrap (a - b) = _; rw [wrap_i64]; omega
theorem mul_i64 (h : -9223372036854775808 ≤ a * b) (k : a * b < 9223372036854775808) : W.mul .i64 a b = a * b := by
  show IntKind.i64.wrap (a * b) = _; rw [wrap_i64]; omega
theorem quo_i64 (h : 0 ≤ a) (k : 0 < b) (m : a < 9223372036854775808) : W.quo .i64 a b = a / b := by
  show IntKind.i64.wrap (a.tdiv b) = _
  rw [Int.tdiv_eq_ediv_of_nonneg h, wrap_i64]
  have h1 : 0 ≤ a / b := Int.ediv_nonneg h (by omega)
  have h2 : a / b ≤ a := Int.ediv_le_self b h
  omega
theorem rem_pos (h : 0 ≤ a) : W.rem a b = a % b := Int.tmod_eq_emod_of_nonneg h
theorem bit_toNat {n : Nat} (h : 0 ≤ a) (k : a < 2 ^ n) : (BitVec.ofInt n a).toNat = a.toNat := by
  rw [BitVec.toNat_ofInt]
  rw [Int.emod_eq_of_lt h (by exact_mod_cast k)]
theorem toNat_lt2 {n : Nat} (h : 0 ≤ a) (k : a < 2 ^ n) : a.toNat < 2 ^ n := by
  have h1 : (a.toNat : Int) = a := Int.toNat_of_nonneg h
  have h2 : (a.toNat : Int) < ((2 ^ n : Nat) : Int) := by rw [h1]; push_cast; exact k
  exact_mod_cast h2
theorem or_pos {k : IntKind} (hk : k.signed = false) (h1 : 0 ≤ a) (h2 : a < 2 ^ k.bits) (h3 : 0 ≤ b) (h4 : b < 2 ^ k.bits) : W.or k a b = ((a.toNat ||| b.toNat : Nat) : Int) := by
  unfold W.or
  rw [BitVec.toNat_or, bit_toNat h1 h2, bit_toNat h3 h4]
  have hlt : a.toNat ||| b.toNat < 2 ^ k.bits := Nat.or_lt_two_pow (toNat_lt2 h1 h2) (toNat_lt2 h3 h4)
  simp only [IntKind.wrap, hk]
  rw [Int.emod_eq_of_lt (by omega) (by exact_mod_cast hlt)]
  simp
theorem and_pos {k : IntKind} (hk : k.signed = false) (h1 : 0 ≤ a) (h2 : a < 2 ^ k.bits) (h3 : 0 ≤ b) (h4 : b < 2 ^ k.bits) : W.and k a b = ((a.toNat &&& b.toNat : Nat) : Int) := by
  unfold W.and
  rw [BitVec.toNat_and, bit_toNat h1 h2, bit_toNat h3 h4]
  have hlt : a.toNat &&& b.toNat < 2 ^ k.bits := Nat.lt_of_le_of_lt Nat.and_le_left (toNat_lt2 h1 h2)
  simp only [IntKind.wrap, hk]
  rw [Int.emod_eq_of_lt (by omega) (by exact_mod_cast hlt)]
  simp
theorem xor_pos {k : IntKind} (hk : k.signed = false) (h1 : 0 ≤ a) (h2 : a < 2 ^ k.bits) (h3 : 0 ≤ b) (h4 : b < 2 ^ k.bits) : W.xor k a b = ((a.toNat ^^^ b.toNat : Nat) : Int) := by
  unfold W.xor
  rw [BitVec.toNat_xor, bit_toNat h1 h2, bit_toNat h3 h4]
  have hlt : a.toNat ^^^ b.toNat < 2 ^ k.bits := Nat.xor_lt_two_pow (toNat_lt2 h1 h2) (toNat_lt2 h3 h4)
  simp only [IntKind.wrap, hk]
  rw [Int.emod_eq_of_lt (by omega) (by exact_mod_cast hlt)]
  simp
theorem shr_lit {k : IntKind} (n : Nat) (hn : n ≤ k.bits) : W.shr k a n = a / 2 ^ n := by
  unfold W.shr
  have : min ((n : Int).toNat) k.bits = n := by simp; omega
  rw [this, Int.fdiv_eq_ediv_of_nonneg _ (by exact Int.le_of_lt (Int.pow_pos (by decide)))]
/-- A copy into as much room. -/
theorem copied {α : Type} (l : List α) (x : α) : W.app (W.take (W.nmin (W.len l) (W.len (W.rep (W.toNat (W.ofNat (W.len l))) x))) l) (W.drop (W.nmin (W.len l) (W.len (W.rep (W.toNat (W.ofNat (W.len l))) x))) (W.rep (W.toNat (W.ofNat (W.len l))) x)) = l := by
  simp [W.app, W.take, W.nmin, W.len, W.rep, W.toNat, W.ofNat, W.drop]
end W
end Go.AbsM
