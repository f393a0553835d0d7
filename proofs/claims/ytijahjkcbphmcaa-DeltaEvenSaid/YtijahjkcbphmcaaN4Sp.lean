/-
  Texts of a proof over the translated program: N4Sp.
-/
import Derived.Test.YtijahjkcbphmcaaN6Sp
import Derived.Test.YtijahjkcbphmcaaN1Sp4
import Derived.Test.YtijahjkcbphmcaaLib4
set_option linter.unusedVariables false
namespace Sp
open Go Go.AbsM
/-- A row of L bytes, by the number that it is, the lowest one first. -/
def ofVal (L v : Nat) : List Int := (List.range L).map fun j => ((v >>> (8 * j) % 256 : Nat) : Int)
def valOf : List Int → Nat
  | [] => 0
  | x :: r => x.toNat % 256 ||| valOf r <<< 8
theorem ofVal_len (L v : Nat) : (ofVal L v).length = L := by simp [ofVal]
theorem ofVal_get {L v j : Nat} (h : j < L) : (ofVal L v).getD j 0 = ((v >>> (8 * j) % 256 : Nat) : Int) := by
  rw [List.getD_eq_getElem?_getD]; simp [ofVal, h]
theorem p256 : (256 : Nat) = 2 ^ 8 := rfl
theorem tb_mod (x i : Nat) : (x % 256).testBit i = (decide (i < 8) && x.testBit i) := by rw [p256, Nat.testBit_mod_two_pow]
theorem ofVal_zero (L : Nat) : ofVal L 0 = List.replicate L 0 := by
  apply List.ext_getElem?
  intro i
  simp only [ofVal, List.getElem?_map, List.getElem?_replicate]
  by_cases h : i < L
  · simp [h]
  · simp [h]
/-- A byte is laid over. -/
theorem ofVal_or {L v j x : Nat} (h : j < L) (hx : x < 256) : (ofVal L v).set j (((v >>> (8 * j) % 256 ||| x : Nat)) : Int) = ofVal L (v ||| x <<< (8 * j)) := by
  apply List.ext_getElem?
  intro i
  simp only [ofVal, List.getElem?_set, List.length_map, List.length_range, List.getElem?_map]
  have key : ∀ i, ((v ||| x <<< (8 * j)) >>> (8 * i)) % 256 = if i = j then (v >>> (8 * j) % 256 ||| x) else v >>> (8 * i) % 256 := by
    intro i
    have hx8 : ∀ b, 8 ≤ b → x.testBit b = false := fun b hb => Nat.testBit_lt_two_pow (Nat.lt_of_lt_of_le hx (by rw [p256]; exact Nat.pow_le_pow_right (by decide) hb))
    split
    · rename_i e; subst e
      apply Nat.eq_of_testBit_eq
      intro b
      simp only [tb_mod, Nat.testBit_or, Nat.testBit_shiftRight, Nat.testBit_shiftLeft]
      by_cases hb : b < 8
      · simp [hb]
      · simp [hb, hx8 b (by omega)]
    · rename_i e
      apply Nat.eq_of_testBit_eq
      intro b
      simp only [tb_mod, Nat.testBit_or, Nat.testBit_shiftRight, Nat.testBit_shiftLeft]
      by_cases hb : b < 8
      · by_cases hg : 8 * j ≤ 8 * i + b
        · rw [hx8 (8 * i + b - 8 * j) (by omega)]; simp
        · simp [hg]
      · simp [hb]
  by_cases hi : i < L
  · by_cases e : i = j
    · subst e; simp [hi, key]
    · rw [if_neg (Ne.symm e)]; simp [hi, key, e]
  · have e : i ≠ j := by omega
    rw [if_neg (Ne.symm e)]; simp [hi]
theorem ofVal_bytes (L v : Nat) : bytes (ofVal L v) := fun x hx => by
  simp only [ofVal, List.mem_map] at hx
  obtain ⟨j, _, rfl⟩ := hx
  have := Nat.mod_lt (v >>> (8 * j)) (show 0 < 256 by decide)
  omega
theorem valOf_lt (b : List Int) : valOf b < 2 ^ (8 * b.length) := by
  induction b with
  | nil => exact Nat.one_pos
  | cons x r ih =>
    rw [valOf, List.length_cons]
    apply Nat.or_lt_two_pow
    · exact Nat.lt_of_lt_of_le (Nat.mod_lt _ (by decide)) (by rw [p256]; exact Nat.pow_le_pow_right (by decide) (by omega))
    · rw [Nat.shiftLeft_eq]
      calc valOf r * 2 ^ 8 < 2 ^ (8 * r.length) * 2 ^ 8 := Nat.mul_lt_mul_of_pos_right ih (by decide)
        _ = 2 ^ (8 * (r.length + 1)) := by rw [← Nat.pow_add]; rfl
theorem ofVal_valOf : ∀ (b : List Int), bytes b → ofVal b.length (valOf b) = b
  | [], _ => rfl
  | x :: r, h => by
    have ih := ofVal_valOf r (fun y hy => h y (List.mem_cons_of_mem _ hy))
    have hx := h x List.mem_cons_self
    rw [ofVal, List.length_cons, List.range_succ_eq_map, List.map_cons, List.map_map]
    congr 1
    · have e : (valOf (x :: r) >>> (8 * 0)) % 256 = x.toNat := by
        apply Nat.eq_of_testBit_eq
        intro b
        have hlt : x.toNat < 256 := by omega
        simp only [valOf, tb_mod, Nat.testBit_or, Nat.testBit_shiftRight, Nat.testBit_shiftLeft, Nat.mul_zero, Nat.zero_add]
        by_cases hb : b < 8
        · have : ¬ (8 ≤ b) := by omega
          simp [hb, this]
        · have : x.toNat.testBit b = false := Nat.testBit_lt_two_pow (Nat.lt_of_lt_of_le hlt (by rw [p256]; exact Nat.pow_le_pow_right (by decide) (by omega)))
          simp [hb, this]
      rw [e]; omega
    · conv => rhs; rw [← ih]
      simp only [ofVal]
      apply List.map_congr_left
      intro j _
      simp only [Function.comp]
      have e : (valOf (x :: r) >>> (8 * (j + 1))) % 256 = (valOf r >>> (8 * j)) % 256 := by
        apply Nat.eq_of_testBit_eq
        intro b
        simp only [valOf, tb_mod, Nat.testBit_or, Nat.testBit_shiftRight, Nat.testBit_shiftLeft]
        by_cases hb : b < 8
        · have h1 : ¬ (8 * (j + 1) + b < 8) := by omega
          have h2 : 8 ≤ 8 * (j + 1) + b := by omega
          have h3 : 8 * (j + 1) + b - 8 = 8 * j + b := by omega
          simp [h1, h2, h3]
        · simp [hb]
      rw [e]
theorem ofVal_inj {L v u : Nat} (hv : v < 2 ^ (8 * L)) (hu : u < 2 ^ (8 * L)) (h : ofVal L v = ofVal L u) : v = u := by
  apply Nat.eq_of_testBit_eq
  intro b
  by_cases hb : b < 8 * L
  · have hj : b / 8 < L := by omega
    have h1 := congrArg (fun l => l.getD (b / 8) 0) h
    simp only [ofVal_get hj] at h1
    have h2 : (v >>> (8 * (b / 8))) % 256 = (u >>> (8 * (b / 8))) % 256 := by exact_mod_cast h1
    have h3 := congrArg (fun n => n.testBit (b % 8)) h2
    simp only [tb_mod, Nat.testBit_shiftRight] at h3
    have h4 : 8 * (b / 8) + b % 8 = b := Nat.div_add_mod b 8
    rw [h4] at h3
    have h5 : b % 8 < 8 := Nat.mod_lt _ (by decide)
    simpa [h5] using h3
  · rw [Nat.testBit_lt_two_pow (Nat.lt_of_lt_of_le hv (Nat.pow_le_pow_right (by decide) (by omega))), Nat.testBit_lt_two_pow (Nat.lt_of_lt_of_le hu (Nat.pow_le_pow_right (by decide) (by omega)))]

/-- One step of laying bits: the byte's part, the rest. -/
theorem put_step {u at' n s : Nat} (hu : u < 2 ^ n) (hs : s = min n (8 - at' % 8)) : ((u <<< (at' % 8)) % 256) <<< (8 * (at' / 8)) ||| (u >>> s) <<< (at' + s) = u <<< at' := by
  apply Nat.eq_of_testBit_eq
  intro b
  simp only [Nat.testBit_or, Nat.testBit_shiftLeft, Nat.testBit_shiftRight, tb_mod]
  have hm : at' % 8 < 8 := Nat.mod_lt _ (by decide)
  have hd : 8 * (at' / 8) + at' % 8 = at' := Nat.div_add_mod at' 8
  by_cases h1 : at' ≤ b
  · have a1 : 8 * (at' / 8) ≤ b := by omega
    have a2 : at' % 8 ≤ b - 8 * (at' / 8) := by omega
    have a3 : b - 8 * (at' / 8) - at' % 8 = b - at' := by omega
    simp only [a1, a2, a3, h1, decide_true, Bool.true_and]
    by_cases h2 : at' + s ≤ b
    · have a4 : s + (b - (at' + s)) = b - at' := by omega
      simp only [h2, decide_true, Bool.true_and, a4]
      cases (u.testBit (b - at')) <;> simp
    · simp only [h2, decide_false, Bool.false_and, Bool.or_false]
      have : b - 8 * (at' / 8) < 8 := by omega
      simp [this]
  · have a1 : ¬ (at' + s ≤ b) := by omega
    simp only [h1, a1, decide_false, Bool.false_and, Bool.or_false]
    by_cases h2 : 8 * (at' / 8) ≤ b
    · have : ¬ (at' % 8 ≤ b - 8 * (at' / 8)) := by omega
      simp [this]
    · simp [h2]
theorem shr_lt {u n s : Nat} (hu : u < 2 ^ n) (hs : s ≤ n) : u >>> s < 2 ^ (n - s) := by
  rw [Nat.shiftRight_eq_div_pow]
  apply Nat.div_lt_of_lt_mul
  rw [← Nat.pow_add]
  have : s + (n - s) = n := by omega
  rw [this]; exact hu
/-- One step of reading bits. -/
theorem get_step {v a at' h s : Nat} (hs : s ≤ 8 - at' % 8) (ha : at' = a + h) : (v >>> a) % 2 ^ h ||| ((((v >>> (8 * (at' / 8)) % 256) >>> (at' % 8)) % 2 ^ s) <<< h) = (v >>> a) % 2 ^ (h + s) := by
  apply Nat.eq_of_testBit_eq
  intro b
  simp only [Nat.testBit_or, Nat.testBit_shiftLeft, Nat.testBit_shiftRight, tb_mod, Nat.testBit_mod_two_pow]
  have hm : at' % 8 < 8 := Nat.mod_lt _ (by decide)
  have hd : 8 * (at' / 8) + at' % 8 = at' := Nat.div_add_mod at' 8
  by_cases h1 : b < h
  · have a1 : ¬ (h ≤ b) := by omega
    have a2 : b < h + s := by omega
    simp [h1, a1, a2]
  · have a1 : h ≤ b := by omega
    simp only [h1, a1, decide_false, decide_true, Bool.false_and, Bool.true_and, Bool.false_or]
    by_cases h2 : b < h + s
    · have a3 : b - h < s := by omega
      have a4 : at' % 8 + (b - h) < 8 := by omega
      have a5 : 8 * (at' / 8) + (at' % 8 + (b - h)) = a + b := by omega
      simp [h2, a3, a4, a5]
    · have a3 : ¬ (b - h < s) := by omega
      simp [h2, a3]

/-- Numbers of w bits, one behind the other. -/
def packN (w : Nat) : List Int → Nat
  | [] => 0
  | x :: r => x.toNat ||| packN w r <<< w
def unpackN (w v : Nat) : Nat → List Int
  | 0 => []
  | n + 1 => (((v % 2 ^ w : Nat) : Int)) :: unpackN w (v >>> w) n
theorem unpackN_len (w : Nat) : ∀ (n v : Nat), (unpackN w v n).length = n
  | 0, _ => rfl
  | n + 1, v => by rw [unpackN, List.length_cons, unpackN_len w n]
theorem unpackN_get (w : Nat) : ∀ (n v i : Nat), i < n → (unpackN w v n).getD i 0 = ((v >>> (i * w) % 2 ^ w : Nat) : Int)
  | 0, _, i, h => by omega
  | n + 1, v, 0, h => by simp [unpackN]
  | n + 1, v, i + 1, h => by
    have e : i * w + w = (i + 1) * w := by rw [Nat.add_mul, Nat.one_mul]
    rw [unpackN]
    show (unpackN w (v >>> w) n).getD i 0 = _
    rw [unpackN_get w n (v >>> w) i (by omega), ← Nat.shiftRight_add, Nat.add_comm w, e]
def fits (w : Nat) (l : List Int) : Prop := ∀ x, x ∈ l → 0 ≤ x ∧ x.toNat < 2 ^ w
theorem unpack_pack (w : Nat) : ∀ (l : List Int), fits w l → unpackN w (packN w l) l.length = l
  | [], _ => rfl
  | x :: r, h => by
    have hx := h x List.mem_cons_self
    have ih := unpack_pack w r fun y hy => h y (List.mem_cons_of_mem _ hy)
    rw [List.length_cons, unpackN]
    have e1 : (packN w (x :: r)) % 2 ^ w = x.toNat := by
      apply Nat.eq_of_testBit_eq
      intro b
      simp only [packN, Nat.testBit_mod_two_pow, Nat.testBit_or, Nat.testBit_shiftLeft]
      by_cases hb : b < w
      · have : ¬ (w ≤ b) := by omega
        simp [hb, this]
      · have := Nat.testBit_lt_two_pow (Nat.lt_of_lt_of_le hx.2 (Nat.pow_le_pow_right (by decide) (show w ≤ b by omega)))
        simp [hb, this]
    have e2 : (packN w (x :: r)) >>> w = packN w r := by
      apply Nat.eq_of_testBit_eq
      intro b
      have := Nat.testBit_lt_two_pow (Nat.lt_of_lt_of_le hx.2 (Nat.pow_le_pow_right (by decide) (show w ≤ w + b by omega)))
      simp [packN, Nat.testBit_or, Nat.testBit_shiftLeft, Nat.testBit_shiftRight, this]
    rw [e1, e2, ih, Int.toNat_of_nonneg hx.1]
theorem pack_unpack (w : Nat) : ∀ (n v : Nat), v < 2 ^ (n * w) → packN w (unpackN w v n) = v
  | 0, v, h => by
    have : v = 0 := by
      have : (2 : Nat) ^ (0 * w) = 1 := by rw [Nat.zero_mul]
      omega
    subst this; rfl
  | n + 1, v, h => by
    have e : (n + 1) * w = w + n * w := by rw [Nat.add_mul, Nat.one_mul, Nat.add_comm]
    have h2 : v >>> w < 2 ^ (n * w) := by
      rw [Nat.shiftRight_eq_div_pow]
      apply Nat.div_lt_of_lt_mul
      rw [← Nat.pow_add, ← e]; exact h
    rw [unpackN, packN, pack_unpack w n _ h2]
    apply Nat.eq_of_testBit_eq
    intro b
    simp only [Int.toNat_natCast, Nat.testBit_mod_two_pow, Nat.testBit_or, Nat.testBit_shiftLeft, Nat.testBit_shiftRight]
    by_cases hb : b < w
    · have : ¬ (w ≤ b) := by omega
      simp [hb, this]
    · have a1 : w ≤ b := by omega
      have a2 : w + (b - w) = b := by omega
      simp [hb, a1, a2]
theorem packN_lt {w : Nat} : ∀ {l : List Int}, fits w l → packN w l < 2 ^ (l.length * w)
  | [], _ => Nat.one_le_two_pow
  | x :: r, h => by
    have hx := (h x List.mem_cons_self).2
    have ih := packN_lt (w := w) (l := r) fun y hy => h y (List.mem_cons_of_mem _ hy)
    have e : (r.length + 1) * w = r.length * w + w := by rw [Nat.add_mul, Nat.one_mul]
    rw [packN, List.length_cons]
    apply Nat.or_lt_two_pow
    · exact Nat.lt_of_lt_of_le hx (Nat.pow_le_pow_right (by decide) (by rw [e]; omega))
    · rw [Nat.shiftLeft_eq, e, Nat.pow_add]
      exact Nat.mul_lt_mul_of_pos_right ih (Nat.two_pow_pos w)
theorem packN_app (w : Nat) : ∀ (a b : List Int), packN w (a ++ b) = packN w a ||| packN w b <<< (a.length * w)
  | [], b => by simp [packN]
  | x :: a, b => by
    have e : (a.length + 1) * w = a.length * w + w := by rw [Nat.add_mul, Nat.one_mul]
    rw [List.cons_append, packN, packN, packN_app w a b, Nat.or_assoc, List.length_cons, e, Nat.shiftLeft_add]
    congr 1
    apply Nat.eq_of_testBit_eq
    intro i
    simp only [Nat.testBit_or, Nat.testBit_shiftLeft]
    by_cases h : w ≤ i <;> simp [h]
theorem packN_take {w : Nat} {l : List Int} {i : Nat} (h : i < l.length) : packN w (l.take (i + 1)) = packN w (l.take i) ||| (l.getD i 0).toNat <<< (i * w) := by
  have e : l.take (i + 1) = l.take i ++ [l.getD i 0] := by
    rw [List.take_add_one, List.getElem?_eq_getElem h, List.getD_eq_getElem?_getD, List.getElem?_eq_getElem h]; rfl
  have e2 : (l.take i).length = i := by rw [List.length_take]; omega
  rw [e, packN_app, e2]
  simp [packN]
end Sp
namespace Sp
open Go Go.AbsM
theorem valOf_ofVal {L v : Nat} (h : v < 2 ^ (8 * L)) : valOf (ofVal L v) = v := by
  have h1 := ofVal_valOf (ofVal L v) (ofVal_bytes L v)
  have h2 := valOf_lt (ofVal L v)
  rw [ofVal_len] at h1 h2
  exact ofVal_inj h2 h h1
/-- Numbers and widths that may be. -/
def mayB (n w : Int) : Bool := decide (0 ≤ n ∧ n ≤ 65536 ∧ 0 ≤ w ∧ w ≤ 64)
def size (n w : Int) : Int := if mayB n w then (n * w + 7) / 8 else 0
def bitLen (n : Nat) : Nat := if n = 0 then 0 else n.log2 + 1
def blen (x : Int) : Int := (bitLen x.toNat : Nat)
def orAll : List Int → Nat
  | [] => 0
  | x :: r => x.toNat ||| orAll r
def width (l : List Int) : Int := (bitLen (orAll l) : Nat)
def putB (b : List Int) (a u : Int) : List Int := ofVal b.length (valOf b ||| u.toNat <<< a.toNat)
def getB (b : List Int) (a n : Int) : Int := ((valOf b >>> a.toNat) % 2 ^ n.toNat : Nat)
theorem bitLen_le {n w : Nat} : bitLen n ≤ w ↔ n < 2 ^ w := by
  unfold bitLen
  split
  · rename_i h; subst h; simp [Nat.two_pow_pos]
  · rename_i h
    rw [Nat.succ_le_iff, Nat.log2_lt h]
end Sp
