/-
  Texts of a proof over the translated program: N1Sp3.
-/
import Derived.Test.YtignlmfaoagolaaGreatN1Sp2
set_option linter.unusedVariables false
set_option linter.unusedSimpArgs false
set_option linter.unusedSectionVars false
namespace Sp
open Go Go.AbsM
theorem encN_low {v : Nat} (h : v < 128) : encN v = [(v : Int)] := by rw [encN, dif_pos h]
theorem encN_high {v : Nat} (h : 128 ≤ v) : encN v = ((v % 128 + 128 : Nat) : Int) :: encN (v / 128) := by rw [encN, dif_neg (by omega)]
theorem getF_enc (L : List Int) (p : Nat) : ∀ (v : Nat) (n u : Nat), n ≤ 9 → u < 128 ^ n → (0 < n → 0 < v) → u + v * 128 ^ n < 18446744073709551616 → p + n ≤ L.length →
    (∀ i, p + n + i < L.length → i < (encN v).length → L.getD (p + n + i) 0 = (encN v).getD i 0) →
    getF L p ((9 - n) + 1) n u = if p + n + (encN v).length ≤ L.length then (((u + v * 128 ^ n : Nat) : Int), ((n + (encN v).length : Nat) : Int), 0) else (0, 0, 5) := by
  intro v
  induction v using Nat.strongRecOn with
  | _ v ih =>
    intro n u hn hu hv hb hp hm
    have hpos : 0 < 128 ^ n := Nat.pow_pos (by decide)
    have hl1 := (encN_len v).1
    by_cases he : p + n = L.length
    · rw [getF_short (by omega), if_neg (by omega)]
    have hne : (p : Int) + n ≠ L.length := by omega
    have h9 : n = 9 → v ≤ 1 := by
      intro h; subst h
      have e : (128 : Nat) ^ 9 = 9223372036854775808 := by decide
      rw [e] at hb
      omega
    by_cases h : v < 128
    · have hc : L.getD (p + n) 0 = (v : Int) := by
        have := hm 0 (by omega) (by omega)
        rw [encN_low h] at this; simpa using this
      have hno : ¬ (((n : Int) = 9 ∧ 1 < L.getD (p + (n : Int).toNat) 0) ∨ (0 < (n : Int) ∧ L.getD (p + (n : Int).toNat) 0 = 0)) := by
        rw [Int.toNat_natCast, hc]
        rintro (⟨a, b⟩ | ⟨a, b⟩)
        · have := h9 (by omega); omega
        · have := hv (by omega); omega
      rw [getF_done hne hno (by rw [Int.toNat_natCast, hc]; omega), Int.toNat_natCast, hc]
      have hlen : (encN v).length = 1 := by rw [encN_low h]; rfl
      rw [hlen, if_pos (by omega)]
      have : (v : Int) % 128 = v := by omega
      rw [this]; push_cast; rfl
    · have hc : L.getD (p + n) 0 = ((v % 128 + 128 : Nat) : Int) := by
        have := hm 0 (by omega) (by omega)
        rw [encN_high (by omega)] at this; simpa using this
      have hn8 : n ≤ 8 := by
        by_cases hh : n = 9
        · have := h9 hh; omega
        · omega
      have hno : ¬ (((n : Int) = 9 ∧ 1 < L.getD (p + (n : Int).toNat) 0) ∨ (0 < (n : Int) ∧ L.getD (p + (n : Int).toNat) 0 = 0)) := by
        rw [Int.toNat_natCast, hc]
        rintro (⟨a, b⟩ | ⟨a, b⟩) <;> omega
      rw [getF_more hne hno (by rw [Int.toNat_natCast, hc]; omega), Int.toNat_natCast, hc]
      have hk : 9 - n = (9 - (n + 1)) + 1 := by omega
      have hlen : (encN v).length = 1 + (encN (v / 128)).length := by rw [encN_high (by omega)]; simp; omega
      have hmod : ((v % 128 + 128 : Nat) : Int) % 128 = ((v % 128 : Nat) : Int) := by omega
      have hsplit : u + v * 128 ^ n = u + (v % 128) * 128 ^ n + v / 128 * 128 ^ (n + 1) := by
        have h1 : v = v % 128 + 128 * (v / 128) := by omega
        have h2 : v * 128 ^ n = (v % 128) * 128 ^ n + 128 * (v / 128) * 128 ^ n := by
          rw [← Nat.add_mul, ← h1]
        rw [Nat.pow_succ, h2]
        have h3 : 128 * (v / 128) * 128 ^ n = v / 128 * (128 ^ n * 128) := by
          rw [Nat.mul_comm (128 ^ n) 128, ← Nat.mul_assoc, Nat.mul_comm 128 (v / 128)]
        omega
      have hu2 : u + (v % 128) * 128 ^ n < 128 ^ (n + 1) := by
        have h1 : (v % 128) * 128 ^ n ≤ 127 * 128 ^ n := Nat.mul_le_mul_right _ (by omega)
        rw [Nat.pow_succ]; omega
      have := ih (v / 128) (by omega) (n + 1) (u + (v % 128) * 128 ^ n) (by omega) hu2 (fun _ => by omega) (by omega) (by omega) (fun i hi1 hi2 => by
        have := hm (i + 1) (by omega) (by omega)
        rw [encN_high (by omega)] at this
        simp only [List.getD_cons_succ] at this
        rw [← this]; congr 1; omega)
      rw [hk, hmod]
      have e1 : (u : Int) + ((v % 128 : Nat) : Int) * 128 ^ n = ((u + (v % 128) * 128 ^ n : Nat) : Int) := by push_cast; rfl
      have e2 : (n : Int) + 1 = ((n + 1 : Nat) : Int) := by push_cast; rfl
      rw [e1, e2, this, hlen, ← hsplit]
      have e3 : n + 1 + (encN (v / 128)).length = n + (1 + (encN (v / 128)).length) := by omega
      have e4 : p + (n + 1) + (encN (v / 128)).length = p + n + (1 + (encN (v / 128)).length) := by omega
      rw [e3, e4]
theorem get_put {b : List Int} {u : Int} (h0 : 0 ≤ u) (h1 : u < 18446744073709551616) : get (b ++ enc u) b.length = (u, ((enc u).length : Int), 0) := by
  rw [get_in (by omega) (by simp; omega), Int.toNat_natCast]
  have := getF_enc (b ++ enc u) b.length u.toNat 0 0 (by omega) (by decide) (fun h => by omega) (by simp; omega) (by simp) (fun i hi1 hi2 => by
    simp only [Nat.add_zero, List.getD_eq_getElem?_getD]
    rw [List.getElem?_append_right (by omega)]
    unfold enc
    congr 2; omega)
  rw [if_pos (by simp [enc])] at this
  simp only [Nat.pow_zero, Nat.mul_one, Nat.zero_add] at this
  have e : ((u.toNat : Nat) : Int) = u := Int.toNat_of_nonneg h0
  rw [e] at this
  exact this
end Sp
