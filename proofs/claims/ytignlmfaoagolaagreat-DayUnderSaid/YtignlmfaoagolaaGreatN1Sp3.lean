/-
  Numbers in bytes: what is put is read again; what is read is put so again.
-/
import Derived.Test.YtignlmfaoagolaaGreatN1Sp2
set_option linter.unusedVariables false
namespace Sp
open Go Go.AbsM

theorem encN_low {v : Nat} (h : v < 128) : encN v = [(v : Int)] := by rw [encN, dif_pos h]
theorem encN_high {v : Nat} (h : 128 ≤ v) : encN v = ((v % 128 + 128 : Nat) : Int) :: encN (v / 128) := by rw [encN, dif_neg (by omega)]
theorem encN_bytes (v : Nat) : bytes (encN v) := by
  induction v using Nat.strongRecOn with
  | _ v ih =>
    by_cases h : v < 128
    · rw [encN_low h]; intro x hx; simp at hx; omega
    · rw [encN_high (by omega)]
      intro x hx
      rcases List.mem_cons.1 hx with rfl | hx
      · omega
      · exact ih (v / 128) (by omega) x hx
theorem enc_bytes (u : Int) : bytes (enc u) := encN_bytes _
theorem bytes_app {a b : List Int} (h : bytes a) (k : bytes b) : bytes (a ++ b) := fun x hx => by
  rcases List.mem_append.1 hx with h' | h'
  · exact h x h'
  · exact k x h'
theorem bytes_nil : bytes [] := fun x hx => by cases hx

/-- What stands at p is read, if it is whole. -/
theorem getF_enc (L : List Int) (p : Nat) : ∀ (v : Nat) (n u : Nat), n ≤ 9 → u < 128 ^ n → (0 < n → 0 < v) → u + v * 128 ^ n < 18446744073709551616 → p + n ≤ L.length →
    (∀ i, p + n + i < L.length → i < (encN v).length → L.getD (p + n + i) 0 = (encN v).getD i 0) →
    getF L p ((9 - n) + 1) n u = if p + n + (encN v).length ≤ L.length then (((u + v * 128 ^ n : Nat) : Int), ((n + (encN v).length : Nat) : Int), 0) else (0, 0, 5) := by
  intro v
  induction v using Nat.strongRecOn with
  | _ v ih =>
    intro n u hn hu hv hb hp hm
    have hpos : 0 < 128 ^ n := Nat.pow_pos (by decide)
    have hl1 := (encN_len v).1
    by_cases he : p + n = L.length
    · rw [getF_short (by omega), if_neg (by omega)]
    have hne : (p : Int) + n ≠ L.length := by omega
    have h9 : n = 9 → v ≤ 1 := by
      intro h; subst h
      have e : (128 : Nat) ^ 9 = 9223372036854775808 := by decide
      rw [e] at hb
      omega
    by_cases h : v < 128
    · have hc : L.getD (p + n) 0 = (v : Int) := by
        have := hm 0 (by omega) (by omega)
        rw [encN_low h] at this; simpa using this
      have hno : ¬ (((n : Int) = 9 ∧ 1 < L.getD (p + (n : Int).toNat) 0) ∨ (0 < (n : Int) ∧ L.getD (p + (n : Int).toNat) 0 = 0)) := by
        rw [Int.toNat_natCast, hc]
        rintro (⟨a, b⟩ | ⟨a, b⟩)
        · have := h9 (by omega); omega
        · have := hv (by omega); omega
      rw [getF_done hne hno (by rw [Int.toNat_natCast, hc]; omega), Int.toNat_natCast, hc]
      have hlen : (encN v).length = 1 := by rw [encN_low h]; rfl
      rw [hlen, if_pos (by omega)]
      have : (v : Int) % 128 = v := by omega
      rw [this]; push_cast; rfl
    · have hc : L.getD (p + n) 0 = ((v % 128 + 128 : Nat) : Int) := by
        have := hm 0 (by omega) (by omega)
        rw [encN_high (by omega)] at this; simpa using this
      have hn8 : n ≤ 8 := by
        by_cases hh : n = 9
        · have := h9 hh; omega
        · omega
      have hno : ¬ (((n : Int) = 9 ∧ 1 < L.getD (p + (n : Int).toNat) 0) ∨ (0 < (n : Int) ∧ L.getD (p + (n : Int).toNat) 0 = 0)) := by
        rw [Int.toNat_natCast, hc]
        rintro (⟨a, b⟩ | ⟨a, b⟩) <;> omega
      rw [getF_more hne hno (by rw [Int.toNat_natCast, hc]; omega), Int.toNat_natCast, hc]
      have hk : 9 - n = (9 - (n + 1)) + 1 := by omega
      have hlen : (encN v).length = 1 + (encN (v / 128)).length := by rw [encN_high (by omega)]; simp; omega
      have hmod : ((v % 128 + 128 : Nat) : Int) % 128 = ((v % 128 : Nat) : Int) := by omega
      have hsplit : u + v * 128 ^ n = u + (v % 128) * 128 ^ n + v / 128 * 128 ^ (n + 1) := by
        have h1 : v = v % 128 + 128 * (v / 128) := by omega
        have h2 : v * 128 ^ n = (v % 128) * 128 ^ n + 128 * (v / 128) * 128 ^ n := by
          rw [← Nat.add_mul, ← h1]
        rw [Nat.pow_succ, h2]
        have h3 : 128 * (v / 128) * 128 ^ n = v / 128 * (128 ^ n * 128) := by
          rw [Nat.mul_comm (128 ^ n) 128, ← Nat.mul_assoc, Nat.mul_comm 128 (v / 128)]
        omega
      have hu2 : u + (v % 128) * 128 ^ n < 128 ^ (n + 1) := by
        have h1 : (v % 128) * 128 ^ n ≤ 127 * 128 ^ n := Nat.mul_le_mul_right _ (by omega)
        rw [Nat.pow_succ]; omega
      have := ih (v / 128) (by omega) (n + 1) (u + (v % 128) * 128 ^ n) (by omega) hu2 (fun _ => by omega) (by omega) (by omega) (fun i hi1 hi2 => by
        have := hm (i + 1) (by omega) (by omega)
        rw [encN_high (by omega)] at this
        simp only [List.getD_cons_succ] at this
        rw [← this]; congr 1; omega)
      rw [hk, hmod]
      have e1 : (u : Int) + ((v % 128 : Nat) : Int) * 128 ^ n = ((u + (v % 128) * 128 ^ n : Nat) : Int) := by push_cast; rfl
      have e2 : (n : Int) + 1 = ((n + 1 : Nat) : Int) := by push_cast; rfl
      rw [e1, e2, this, hlen, ← hsplit]
      have e3 : n + 1 + (encN (v / 128)).length = n + (1 + (encN (v / 128)).length) := by omega
      have e4 : p + (n + 1) + (encN (v / 128)).length = p + n + (1 + (encN (v / 128)).length) := by omega
      rw [e3, e4]

/-- What is read is put so again. -/
theorem getF_ok (L : List Int) (hL : bytes L) (p : Nat) : ∀ (k n u : Nat) (x m : Int), n + k = 10 → u < 128 ^ n → p + n ≤ L.length → getF L p k n u = (x, m, 0) →
    ∃ v M : Nat, x = ((u + v * 128 ^ n : Nat) : Int) ∧ m = ((n + M : Nat) : Int) ∧ p + n + M ≤ L.length ∧ encN v = (L.drop (p + n)).take M ∧ (0 < n → 0 < v) ∧ u + v * 128 ^ n < 18446744073709551616 := by
  intro k
  induction k with
  | zero => intro n u x m hk hu hp h; simp [getF] at h
  | succ k ih =>
    intro n u x m hk hu hp h
    by_cases he : (p : Int) + n = L.length
    · rw [getF_short he] at h; cases h
    by_cases hf : ((n : Int) = 9 ∧ 1 < L.getD (p + (n : Int).toNat) 0) ∨ (0 < (n : Int) ∧ L.getD (p + (n : Int).toNat) 0 = 0)
    · rw [getF_form he hf] at h; cases h
    have hc := bytes_get hL (p + n)
    have hlt : p + n < L.length := by omega
    obtain ⟨c, hcc⟩ : ∃ c : Nat, L.getD (p + n) 0 = c := ⟨(L.getD (p + n) 0).toNat, by omega⟩
    have hdrop : L.drop (p + n) = (c : Int) :: L.drop (p + n + 1) := by
      rw [List.drop_eq_getElem_cons hlt]
      congr 1
      rw [← hcc, List.getD_eq_getElem?_getD, List.getElem?_eq_getElem hlt]; rfl
    have hf' := hf
    rw [Int.toNat_natCast, hcc] at hf'
    simp only [not_or, not_and] at hf'
    have hb : c ≤ 1 ∨ n ≤ 8 := by
      by_cases h9 : n = 9
      · left; have := hf'.1 (by omega); omega
      · right; omega
    by_cases h3 : 128 ≤ L.getD (p + (n : Int).toNat) 0
    · rw [getF_more he hf h3, Int.toNat_natCast, hcc] at h
      rw [Int.toNat_natCast, hcc] at h3
      have e1 : (u : Int) + (c : Int) % 128 * 128 ^ n = ((u + (c % 128) * 128 ^ n : Nat) : Int) := by push_cast; rfl
      have e2 : (n : Int) + 1 = ((n + 1 : Nat) : Int) := by push_cast; rfl
      rw [e1, e2] at h
      have hu2 : u + (c % 128) * 128 ^ n < 128 ^ (n + 1) := by
        have h1 : (c % 128) * 128 ^ n ≤ 127 * 128 ^ n := Nat.mul_le_mul_right _ (by omega)
        rw [Nat.pow_succ]; omega
      obtain ⟨v, M, q1, q2, q3, q4, q5, q6⟩ := ih (n + 1) _ x m (by omega) hu2 (by omega) h
      have hv := q5 (by omega)
      have hsum : u + (c % 128 + 128 * v) * 128 ^ n = u + (c % 128) * 128 ^ n + v * 128 ^ (n + 1) := by
        rw [Nat.pow_succ, Nat.add_mul]
        have h3 : 128 * v * 128 ^ n = v * (128 ^ n * 128) := by
          rw [Nat.mul_comm (128 ^ n) 128, ← Nat.mul_assoc, Nat.mul_comm 128 v]
        omega
      refine ⟨c % 128 + 128 * v, M + 1, by rw [hsum]; exact q1, by rw [q2]; congr 1; omega, by omega, ?_, fun _ => by omega, by rw [hsum]; exact q6⟩
      rw [encN_high (by omega), hdrop, List.take_succ_cons]
      have h1 : (c % 128 + 128 * v) / 128 = v := by omega
      have h2 : (c % 128 + 128 * v) % 128 + 128 = c := by omega
      rw [h1, h2, q4]
      rfl
    · rw [getF_done he hf (by omega), Int.toNat_natCast, hcc] at h
      rw [Int.toNat_natCast, hcc] at h3
      simp only [Prod.mk.injEq] at h
      obtain ⟨h1, h2, _⟩ := h
      have hc128 : (c : Int) % 128 = c := by omega
      rw [hc128] at h1
      refine ⟨c, 1, by rw [← h1]; push_cast; rfl, by rw [← h2]; push_cast; rfl, by omega, ?_, fun hn => ?_, ?_⟩
      · rw [encN_low (by omega), hdrop]; rfl
      · have := hf'.2 (by omega); omega
      · rcases hb with hb | hb
        · have h9 : 128 ^ n ≤ 9223372036854775808 := pow_le9 (by omega)
          have : c * 128 ^ n ≤ 1 * 128 ^ n := Nat.mul_le_mul_right _ hb
          omega
        · have h8 : 128 ^ n ≤ 72057594037927936 := pow_le8 hb
          have : c * 128 ^ n ≤ 127 * 128 ^ n := Nat.mul_le_mul_right _ (by omega)
          omega

/-- Put, then read. -/
theorem get_put {b : List Int} {u : Int} (h0 : 0 ≤ u) (h1 : u < 18446744073709551616) : get (b ++ enc u) b.length = (u, ((enc u).length : Int), 0) := by
  rw [get_in (by omega) (by simp; omega), Int.toNat_natCast]
  have := getF_enc (b ++ enc u) b.length u.toNat 0 0 (by omega) (by decide) (fun h => by omega) (by simp; omega) (by simp) (fun i hi1 hi2 => by
    simp only [Nat.add_zero, List.getD_eq_getElem?_getD]
    rw [List.getElem?_append_right (by omega)]
    unfold enc
    congr 2; omega)
  rw [if_pos (by simp [enc])] at this
  simp only [Nat.pow_zero, Nat.mul_one, Nat.zero_add] at this
  have e : ((u.toNat : Nat) : Int) = u := Int.toNat_of_nonneg h0
  rw [e] at this
  exact this

theorem get_ok {b : List Int} (hb : bytes b) {a u m : Int} (h : get b a = (u, m, 0)) : 0 ≤ u ∧ u < 18446744073709551616 ∧ 0 ≤ a ∧ 0 ≤ m ∧ a + m ≤ b.length ∧ enc u = (b.drop a.toNat).take m.toNat := by
  by_cases ha : a < 0 ∨ (b.length : Int) < a
  · rw [get_arg ha] at h; cases h
  rw [get_in (by omega) (by omega)] at h
  obtain ⟨v, M, q1, q2, q3, q4, _, q6⟩ := getF_ok b hb a.toNat 10 0 0 u m (by omega) (by decide) (by omega) h
  simp only [Nat.pow_zero, Nat.mul_one, Nat.zero_add, Nat.add_zero] at q1 q2 q3 q4 q6
  subst q1; subst q2
  refine ⟨by omega, by omega, by omega, by omega, by omega, ?_⟩
  unfold enc
  rw [Int.toNat_natCast, Int.toNat_natCast]; exact q4
end Sp
