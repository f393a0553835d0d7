/-
  Texts of a proof over the translated program: N1Sp4.
-/
import Derived.Test.YtignlmfaoagolaaGreatN1Sp3
set_option linter.unusedVariables false
namespace Sp
open Go Go.AbsM
def e4 (b : List Int) (a : Int) : Int := W.or .u32 (W.or .u32 (W.or .u32 (W.wrap .u32 (b.getD a.toNat 0)) (W.shl .u32 (W.wrap .u32 (b.getD (a + 1).toNat 0)) 8)) (W.shl .u32 (W.wrap .u32 (b.getD (a + 2).toNat 0)) 16)) (W.shl .u32 (W.wrap .u32 (b.getD (a + 3).toNat 0)) 24)
def get4 (b : List Int) (a : Int) : Int × Int × Int := if a < 0 ∨ (b.length : Int) < a then (0, 0, 1) else if (b.length : Int) - a < 4 then (0, 0, 5) else (e4 b a, 4, 0)
theorem get4_arg {b : List Int} {a : Int} (h : a < 0 ∨ (b.length : Int) < a) : get4 b a = (0, 0, 1) := if_pos h
theorem get4_short {b : List Int} {a : Int} (h : ¬ (a < 0 ∨ (b.length : Int) < a)) (k : (b.length : Int) - a < 4) : get4 b a = (0, 0, 5) := by unfold get4; rw [if_neg h, if_pos k]
theorem get4_in {b : List Int} {a : Int} (h : ¬ (a < 0 ∨ (b.length : Int) < a)) (k : ¬ (b.length : Int) - a < 4) : get4 b a = (e4 b a, 4, 0) := by unfold get4; rw [if_neg h, if_neg k]
theorem b8_inj {a b : List Int} (ha : bytes a) (hb : bytes b) (h : W.b8s a = W.b8s b) : a = b := by
  induction a generalizing b with
  | nil =>
    cases b with
    | nil => rfl
    | cons _ _ => simp [W.b8s] at h
  | cons x r ih =>
    cases b with
    | nil => simp [W.b8s] at h
    | cons y s =>
      simp only [W.b8s, List.map_cons, List.cons.injEq] at h
      have h1 := congrArg UInt8.toNat h.1
      have hx := ha x List.mem_cons_self
      have hy := hb y List.mem_cons_self
      simp only [W.b8] at h1
      rw [UInt8.toNat_ofNat_of_lt' (by show x.toNat < 256; omega), UInt8.toNat_ofNat_of_lt' (by show y.toNat < 256; omega)] at h1
      have hxy : x = y := by omega
      subst hxy
      rw [ih (fun z hz => ha z (List.mem_cons_of_mem _ hz)) (fun z hz => hb z (List.mem_cons_of_mem _ hz)) h.2]
end Sp
namespace Sp
/-- How often seven bits more are wanted. -/
def more (v : Int) : Int := if v ≤ 0 then 0 else (enc v).length
end Sp
namespace Sp
theorem len_more {v : Int} (h : 0 ≤ v) : ((enc v).length : Int) = 1 + more (v / 128) := by
  unfold more
  by_cases h1 : v < 128
  · rw [enc_low h h1, if_pos (by omega)]; simp
  · rw [enc_high h (by omega), if_neg (by omega)]; simp; omega
theorem more_pos {v : Int} (h : 0 < v) : more v = 1 + more (v / 128) := by
  have := len_more (v := v) (by omega)
  rw [← this]; unfold more; rw [if_neg (by omega)]
theorem encN_mono : ∀ (n m : Nat), n ≤ m → (encN n).length ≤ (encN m).length := by
  intro n
  induction n using Nat.strongRecOn with
  | _ n ih =>
    intro m h
    have h1 := (encN_len m).1
    by_cases hn : n < 128
    · rw [encN_low hn]; simpa using h1
    · rw [encN_high (v := n) (by omega), encN_high (v := m) (by omega)]
      have := ih (n / 128) (by omega) (m / 128) (by omega)
      simp; omega
theorem enc_mono {a b : Int} (h : a ≤ b) : (enc a).length ≤ (enc b).length := encN_mono _ _ (by omega)
theorem more_zero {v : Int} (h : v ≤ 0) : more v = 0 := if_pos h
end Sp
namespace Sp
def encs : List Int → List Int
  | [] => []
  | x :: r => enc x ++ encs r
def ends (l : List Int) : List Int := (List.range l.length).map fun i => ((encs (l.take (i + 1))).length : Int)
end Sp
namespace Sp
theorem encs_app : ∀ (a b : List Int), encs (a ++ b) = encs a ++ encs b
  | [], b => rfl
  | x :: a, b => by simp only [List.cons_append, encs, encs_app a b, List.append_assoc]
theorem take_succ {l : List Int} {i : Nat} (h : i < l.length) : l.take (i + 1) = l.take i ++ [l.getD i 0] := by
  rw [List.take_succ_eq_append_getElem h, List.getD_eq_getElem?_getD, List.getElem?_eq_getElem h]; rfl
theorem encs_succ {l : List Int} {i : Nat} (h : i < l.length) : encs (l.take (i + 1)) = encs (l.take i) ++ enc (l.getD i 0) := by
  rw [take_succ h, encs_app]
  simp only [encs, List.append_nil]
theorem ends_succ {l : List Int} {i : Nat} (h : i < l.length) : ends (l.take (i + 1)) = ends (l.take i) ++ [((encs (l.take (i + 1))).length : Int)] := by
  unfold ends
  have h1 : (l.take (i + 1)).length = i + 1 := by simp; omega
  have h2 : (l.take i).length = i := by simp; omega
  rw [h1, h2, List.range_succ, List.map_append]
  congr 1
  · refine List.map_congr_left fun j hj => ?_
    have := List.mem_range.1 hj
    rw [List.take_take, List.take_take]
    have e1 : min (j + 1) (i + 1) = j + 1 := by omega
    have e2 : min (j + 1) i = j + 1 := by omega
    rw [e1, e2]
  · simp only [List.map_cons, List.map_nil, List.take_take, Nat.min_self]
theorem ends_get {l : List Int} {i : Nat} (h : i < l.length) : (ends l).getD i 0 = ((encs (l.take (i + 1))).length : Int) := by
  unfold ends
  rw [List.getD_eq_getElem?_getD, List.getElem?_map, List.getElem?_range h]; rfl
theorem ends_len (l : List Int) : (ends l).length = l.length := by simp [ends]
theorem encs_bytes : ∀ (l : List Int), bytes (encs l)
  | [] => bytes_nil
  | x :: r => bytes_app (enc_bytes x) (encs_bytes r)
theorem encs_len : ∀ (l : List Int), (∀ x, x ∈ l → 0 ≤ x ∧ x < 18446744073709551616) → (encs l).length ≤ 10 * l.length
  | [], _ => by simp [encs]
  | x :: r, h => by
    have h1 := (enc_len (h x List.mem_cons_self).1 (h x List.mem_cons_self).2).2
    have h2 := encs_len r fun y hy => h y (List.mem_cons_of_mem _ hy)
    simp only [encs, List.length_append, List.length_cons]; omega
theorem bytes_take {l : List Int} (h : bytes l) (n : Nat) : bytes (l.take n) := fun x hx => h x (List.mem_of_mem_take hx)
theorem get_front {l : List Int} {i k : Nat} (hl : ∀ x, x ∈ l → 0 ≤ x ∧ x < 18446744073709551616) (hi : i < l.length) (hk : k ≤ (encs l).length) (ha : (encs (l.take i)).length ≤ k) :
    get ((encs l).take k) ((encs (l.take i)).length : Int) = if (encs (l.take (i + 1))).length ≤ k then (l.getD i 0, ((enc (l.getD i 0)).length : Int), 0) else (0, 0, 5) := by
  have hx : 0 ≤ l.getD i 0 ∧ l.getD i 0 < 18446744073709551616 := by
    rw [List.getD_eq_getElem?_getD, List.getElem?_eq_getElem hi]; exact hl _ (List.getElem_mem hi)
  have hlen : ((encs l).take k).length = k := by simp; omega
  have hsplit : encs l = encs (l.take i) ++ (enc (l.getD i 0) ++ encs (l.drop (i + 1))) := by
    conv => lhs; rw [← List.take_append_drop (i + 1) l, encs_app, encs_succ hi]
    rw [List.append_assoc]
  rw [get_in (by omega) (by rw [hlen]; omega), Int.toNat_natCast]
  have := getF_enc ((encs l).take k) (encs (l.take i)).length (l.getD i 0).toNat 0 0 (by omega) (by decide) (fun h => by omega) (by simp only [Nat.pow_zero, Nat.mul_one, Nat.zero_add]; omega) (by rw [hlen]; omega) (fun j hj1 hj2 => by
    rw [hlen] at hj1
    rw [List.getD_eq_getElem?_getD, List.getElem?_take, if_pos (by omega), hsplit, Nat.add_zero, List.getElem?_append_right (by omega)]
    have e : (encs (l.take i)).length + 0 + j - (encs (l.take i)).length = j := by omega
    rw [e, List.getElem?_append_left (by exact hj2), ← List.getD_eq_getElem?_getD]; rfl)
  simp only [Nat.pow_zero, Nat.mul_one, Nat.zero_add, Nat.add_zero, hlen] at this
  have e2 : (encs (l.take (i + 1))).length = (encs (l.take i)).length + (encN (l.getD i 0).toNat).length := by rw [encs_succ hi, List.length_append]; rfl
  rw [e2]
  have e3 : (((l.getD i 0).toNat : Nat) : Int) = l.getD i 0 := Int.toNat_of_nonneg hx.1
  rw [e3] at this
  exact this
end Sp
