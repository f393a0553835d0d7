/-
  Texts of a proof over the translated program: N1Sp4.
-/
import Derived.Test.YtmfegciehdjicaaN1Sp3
set_option linter.unusedVariables false
namespace Sp
open Go Go.AbsM
def e4 (b : List Int) (a : Int) : Int := W.or .u32 (W.or .u32 (W.or .u32 (W.wrap .u32 (b.getD a.toNat 0)) (W.shl .u32 (W.wrap .u32 (b.getD (a + 1).toNat 0)) 8)) (W.shl .u32 (W.wrap .u32 (b.getD (a + 2).toNat 0)) 16)) (W.shl .u32 (W.wrap .u32 (b.getD (a + 3).toNat 0)) 24)
def get4 (b : List Int) (a : Int) : Int × Int × Int := if a < 0 ∨ (b.length : Int) < a then (0, 0, 1) else if (b.length : Int) - a < 4 then (0, 0, 5) else (e4 b a, 4, 0)
theorem get4_arg {b : List Int} {a : Int} (h : a < 0 ∨ (b.length : Int) < a) : get4 b a = (0, 0, 1) := if_pos h
theorem get4_short {b : List Int} {a : Int} (h : ¬ (a < 0 ∨ (b.length : Int) < a)) (k : (b.length : Int) - a < 4) : get4 b a = (0, 0, 5) := by unfold get4; rw [if_neg h, if_pos k]
theorem get4_in {b : List Int} {a : Int} (h : ¬ (a < 0 ∨ (b.length : Int) < a)) (k : ¬ (b.length : Int) - a < 4) : get4 b a = (e4 b a, 4, 0) := by unfold get4; rw [if_neg h, if_neg k]
theorem b8_inj {a b : List Int} (ha : bytes a) (hb : bytes b) (h : W.b8s a = W.b8s b) : a = b := by
  induction a generalizing b with
  | nil =>
    cases b with
    | nil => rfl
    | cons _ _ => simp [W.b8s] at h
  | cons x r ih =>
    cases b with
    | nil => simp [W.b8s] at h
    | cons y s =>
      simp only [W.b8s, List.map_cons, List.cons.injEq] at h
      have h1 := congrArg UInt8.toNat h.1
      have hx := ha x List.mem_cons_self
      have hy := hb y List.mem_cons_self
      simp only [W.b8] at h1
      rw [UInt8.toNat_ofNat_of_lt' (by show x.toNat < 256; omega), UInt8.toNat_ofNat_of_lt' (by show y.toNat < 256; omega)] at h1
      have hxy : x = y := by omega
      subst hxy
      rw [ih (fun z hz => ha z (List.mem_cons_of_mem _ hz)) (fun z hz => hb z (List.mem_cons_of_mem _ hz)) h.2]
end Sp
namespace Sp
/-- How often seven bits more are wanted. -/
def more (v : Int) : Int := if v ≤ 0 then 0 else (enc v).length
end Sp
namespace Sp
theorem len_more {v : Int} (h : 0 ≤ v) : ((enc v).length : Int) = 1 + more (v / 128) := by
  unfold more
  by_cases h1 : v < 128
  · rw [enc_low h h1, if_pos (by omega)]; simp
  · rw [enc_high h (by omega), if_neg (by omega)]; simp; omega
theorem more_pos {v : Int} (h : 0 < v) : more v = 1 + more (v / 128) := by
  have := len_more (v := v) (by omega)
  rw [← this]; unfold more; rw [if_neg (by omega)]
theorem encN_mono : ∀ (n m : Nat), n ≤ m → (encN n).length ≤ (encN m).length := by
  intro n
  induction n using Nat.strongRecOn with
  | _ n ih =>
    intro m h
    have h1 := (encN_len m).1
    by_cases hn : n < 128
    · rw [encN_low hn]; simpa using h1
    · rw [encN_high (v := n) (by omega), encN_high (v := m) (by omega)]
      have := ih (n / 128) (by omega) (m / 128) (by omega)
      simp; omega
theorem enc_mono {a b : Int} (h : a ≤ b) : (enc a).length ≤ (enc b).length := encN_mono _ _ (by omega)
theorem more_zero {v : Int} (h : v ≤ 0) : more v = 0 := if_pos h
end Sp
