/-
  Texts of a proof over the translated program: proved evaluators and walks, part 9 of 19.
-/
import Derived.Test.YtmpnelihfeiimaaPartP8
import Derived.Below
import Derived.IntWalk
import Derived.Laws.BitsLemmas
import Derived.Laws.Closers25b
import Derived.WalkKit
set_option linter.unusedVariables false
set_option linter.unusedSimpArgs false
set_option linter.unusedSectionVars false
set_option linter.unnecessarySimpa false
section
namespace Go.Proofs
open Go.RowKit
def encF : Nat → Nat → List UInt8
  | 0, _ => []
  | f + 1, u => if u < 128 then [UInt8.ofNat u] else UInt8.ofNat (u % 128 + 128) :: encF f (u / 128)
def encN (u : Nat) : List UInt8 := encF 10 u
theorem encF_more (f u : Nat) (h : ¬ u < 128) : encF (f + 1) u = UInt8.ofNat (u % 128 + 128) :: encF f (u / 128) := by rw [encF, if_neg h]
theorem encF_last (f u : Nat) (h : u < 128) : encF (f + 1) u = [UInt8.ofNat u] := by rw [encF, if_pos h]
theorem encF_len : ∀ f u, (encF f u).length ≤ f
  | 0, u => Nat.le_refl _
  | f + 1, u => by
    by_cases h : u < 128
    · rw [encF_last f u h]; simp
    · rw [encF_more f u h, List.length_cons]; have := encF_len f (u / 128); omega
theorem wr64 : ∀ n : Int, 0 ≤ n → n < 2 ^ 64 → IntKind.u64.wrap n = n := fun n h0 h1 => by rw [IntKind.wrap_u64]; omega
theorem or_comm' (a b : Int) : bits .or .u64 a b = bits .or .u64 b a := by
  simp only [bits, BitVec.or_comm]
theorem gadd_sum (k c a : Nat) (ha : a < 2 ^ (7 * k)) (hz : a < 18446744073709551616) (h : c % 128 * 2 ^ (7 * k) < 18446744073709551616) : gadd k c (a : Int) = ((a + c % 128 * 2 ^ (7 * k) : Nat) : Int) := by
  have e : ((c : Int) % 128 * 2 ^ (7 * k)) = ((c % 128 * 2 ^ (7 * k) : Nat) : Int) := by
    rw [Int.natCast_mul, Int.natCast_emod, Int.natCast_pow]; rfl
  have hw : IntKind.u64.wrap ((c % 128 * 2 ^ (7 * k) : Nat) : Int) = ((c % 128 * 2 ^ (7 * k) : Nat) : Int) := by
    rw [IntKind.wrap_u64]; omega
  unfold gadd
  rw [e, hw, or_comm']
  by_cases h0 : c % 128 = 0
  · rw [h0, Nat.zero_mul, Nat.add_zero]
    have := bits_join .u64 64 (by decide) wr64 64 0 (a : Int) (by omega) (by simp) (by decide) (by omega) (by exact_mod_cast hz) (by exact_mod_cast hz)
    simpa using this
  · have hp : 2 ^ (7 * k) ≤ c % 128 * 2 ^ (7 * k) := Nat.le_mul_of_pos_left _ (by omega)
    have hx : ((c % 128 * 2 ^ (7 * k) : Nat) : Int) % 2 ^ (7 * k) = 0 := by
      have : (2 : Int) ^ (7 * k) = ((2 ^ (7 * k) : Nat) : Int) := by rw [Int.natCast_pow]; rfl
      rw [this, ← Int.natCast_emod, Nat.mul_mod_left]
      rfl
    have := bits_join .u64 64 (by decide) wr64 (7 * k) ((c % 128 * 2 ^ (7 * k) : Nat) : Int) (a : Int) (by omega) hx (by exact_mod_cast h) (by omega) (by exact_mod_cast ha) (by
      exact_mod_cast hz)
    rw [this]
    omega
end Go.Proofs
end

section
namespace Go.Proofs
namespace NT
abbrev Str := List UInt8
def lt (a b : Str) : Bool := decide (a < b)
def le (a b : Str) : Bool := !lt b a
theorem lt_irrefl (a : Str) : lt a a = false := by simp [lt, List.lt_irrefl]
theorem lt_trans {a b c : Str} (h : lt a b = true) (h' : lt b c = true) : lt a c = true := by
  simp only [lt, decide_eq_true_eq] at *
  exact List.lt_trans h h'
theorem tri {a b : Str} (h : lt a b = false) (h' : lt b a = false) : a = b := by
  simp only [lt, decide_eq_false_iff_not] at *
  exact List.le_antisymm (List.not_lt.1 h') (List.not_lt.1 h)
theorem asymm {a b : Str} (h : lt a b = true) : lt b a = false := by
  cases e : lt b a
  · rfl
  · have := lt_trans h e; rw [lt_irrefl] at this; cases this
theorem le_refl (a : Str) : le a a = true := by simp [le, lt_irrefl]
theorem le_total (a b : Str) : (le a b || le b a) = true := by
  cases h : lt b a
  · simp [le, h]
  · simp [le, h, asymm h]
theorem le_trans {a b c : Str} (h : le a b = true) (h' : le b c = true) : le a c = true := by
  simp only [le, Bool.not_eq_true'] at *
  cases e : lt c a
  · rfl
  · cases e2 : lt a b
    · have hab := tri e2 h
      subst hab
      rw [e] at h'; cases h'
    · have := lt_trans e e2
      rw [h'] at this; cases this
theorem le_antisymm {a b : Str} (h : le a b = true) (h' : le b a = true) : a = b := by
  simp only [le, Bool.not_eq_true'] at *
  exact tri h' h
def Up (l : List Str) : Prop := l.Pairwise (fun a b => le a b = true)
def mrg (a b : List Str) : List Str := List.merge a b le
theorem mrg_up {a b : List Str} (ha : Up a) (hb : Up b) : Up (mrg a b) := by
  unfold Up mrg
  exact List.pairwise_merge (le := le) (fun a b c h h' => le_trans h h') (fun a b => by simpa using le_total a b) a b ha hb
theorem mrg_perm (a b : List Str) : (mrg a b).Perm (a ++ b) := List.merge_perm_append le
theorem mrg_len (a b : List Str) : (mrg a b).length = a.length + b.length := by simpa using (mrg_perm a b).length_eq
theorem mrg_left {x : Str} {a b : List Str} (h : b = [] ∨ ∃ y b', b = y :: b' ∧ lt y x = false) : mrg (x :: a) b = x :: mrg a b := by
  rcases h with rfl | ⟨y, b', rfl, h⟩
  · simp [mrg]
  · unfold mrg
    rw [List.cons_merge_cons_pos]
    simp [le, h]
theorem mrg_right {y : Str} {a b : List Str} (h : a = [] ∨ ∃ x a', a = x :: a' ∧ lt y x = true) : mrg a (y :: b) = y :: mrg a b := by
  rcases h with rfl | ⟨x, a', rfl, h⟩
  · simp [mrg]
  · unfold mrg
    rw [List.cons_merge_cons_neg]
    simp [le, h]
def Ups (w m : Nat) (l : List Str) : Prop := ∀ j, j < m → Up ((l.drop (j * w)).take w)
theorem ups_one (m : Nat) (l : List Str) : Ups 1 m l := by
  intro j _
  unfold Up
  have : ((l.drop (j * 1)).take 1).length ≤ 1 := by simp; omega
  match h : (l.drop (j * 1)).take 1, this with
  | [], _ => exact List.Pairwise.nil
  | [x], _ => exact List.pairwise_singleton ..
  | _ :: _ :: _, h' => simp at h'
theorem ups_all {w : Nat} {l : List Str} (h : ∀ m, Ups w m l) (hw : l.length ≤ w) : Up l := by
  have := h 1 0 (by omega)
  rw [Nat.zero_mul, List.drop_zero, List.take_of_length_le hw] at this
  exact this
theorem ups_step {w j : Nat} {F T : List Str} {n : Nat} (hF : F.length = n) (hT : T.length = n) (hups : ∀ m, Ups w m F) (hj : Ups (2 * w) j T) (hlo : j * (2 * w) < n)
    (hp : (T.take (j * (2 * w))).Perm (F.take (j * (2 * w)))) (A B : List Str) (hA : A = (F.drop (j * (2 * w))).take w) (hB : B = (F.drop (j * (2 * w) + w)).take w) :
    let T' := T.take (j * (2 * w)) ++ mrg A B ++ T.drop (j * (2 * w) + A.length + B.length)
    T'.length = n ∧ Ups (2 * w) (j + 1) T' ∧ (T'.take ((j + 1) * (2 * w))).Perm (F.take ((j + 1) * (2 * w))) := by
  intro T'
  have hAl : A.length = min w (n - j * (2 * w)) := by subst hA; simp [hF]
  have hBl : B.length = min w (n - (j * (2 * w) + w)) := by subst hB; simp [hF]
  have hAu : Up A := by
    have := hups (2 * j + 1) (2 * j) (by omega)
    rwa [show 2 * j * w = j * (2 * w) by rw [Nat.mul_comm 2 j, Nat.mul_assoc], ← hA] at this
  have hBu : Up B := by
    have := hups (2 * j + 2) (2 * j + 1) (by omega)
    rwa [show (2 * j + 1) * w = j * (2 * w) + w by rw [Nat.add_mul, Nat.mul_comm 2 j, Nat.mul_assoc, Nat.one_mul], ← hB] at this
  have hm := mrg_up hAu hBu
  have hml := mrg_len A B
  have hAB : F.take ((j + 1) * (2 * w)) = F.take (j * (2 * w)) ++ (A ++ B) := by
    rw [Nat.add_mul, Nat.one_mul, List.take_add, hA, hB, ← List.drop_drop, show 2 * w = w + w by omega, List.take_add (i := w)]
  have hlen : T'.length = n := by
    simp only [T', List.length_append, List.length_take, List.length_drop, hml, hT]
    omega
  have htl : (T.take (j * (2 * w))).length = j * (2 * w) := by simp; omega
  have htk : T'.take ((j + 1) * (2 * w)) = T.take (j * (2 * w)) ++ mrg A B := by
    have e : (T.take (j * (2 * w)) ++ mrg A B).length = j * (2 * w) + (A.length + B.length) := by rw [List.length_append, htl, hml]
    by_cases hc : (j + 1) * (2 * w) ≤ n
    · have e2 : (j + 1) * (2 * w) = (T.take (j * (2 * w)) ++ mrg A B).length := by rw [e, hAl, hBl]; rw [Nat.add_mul] at hc ⊢; omega
      rw [e2]
      exact List.take_left ..
    · have e3 : T.drop (j * (2 * w) + A.length + B.length) = [] := by
        apply List.drop_eq_nil_of_le
        rw [hAl, hBl, hT]; rw [Nat.add_mul] at hc; omega
      show (T.take (j * (2 * w)) ++ mrg A B ++ T.drop (j * (2 * w) + A.length + B.length)).take _ = _
      rw [e3, List.append_nil]
      apply List.take_of_length_le
      rw [e, hAl, hBl]; rw [Nat.add_mul]; omega
  refine ⟨hlen, ?_, ?_⟩
  · intro m hm'
    by_cases hmj : m < j
    · have h1 := hj m hmj
      have hle : m * (2 * w) + 2 * w ≤ j * (2 * w) := by
        have : (m + 1) * (2 * w) ≤ j * (2 * w) := Nat.mul_le_mul_right _ hmj
        rw [Nat.add_mul, Nat.one_mul] at this; exact this
      have : (T'.drop (m * (2 * w))).take (2 * w) = (T.drop (m * (2 * w))).take (2 * w) := by
        show ((T.take (j * (2 * w)) ++ mrg A B ++ T.drop (j * (2 * w) + A.length + B.length)).drop _).take _ = _
        rw [List.append_assoc, List.drop_append_of_le_length (by rw [htl]; omega), List.take_append_of_le_length (by rw [List.length_drop, htl]; omega), List.drop_take, List.take_take]
        congr 1
        omega
      rw [this]; exact h1
    · have hmj' : m = j := by omega
      subst hmj'
      have : (T'.drop (m * (2 * w))).take (2 * w) = mrg A B := by
        have : (T'.drop (m * (2 * w))).take (2 * w) = (T'.take ((m + 1) * (2 * w))).drop (m * (2 * w)) := by
          rw [Nat.add_mul, Nat.one_mul, List.drop_take]
          congr 1
          omega
        rw [this, htk]
        have := List.drop_left (l₁ := T.take (m * (2 * w))) (l₂ := mrg A B)
        rwa [htl] at this
      rw [this]; exact hm
  · rw [htk, hAB]
    exact hp.append (mrg_perm A B)
theorem ups_end {w j : Nat} {F T : List Str} {n : Nat} (hF : F.length = n) (hT : T.length = n) (hj : Ups (2 * w) j T) (hlo : n ≤ j * (2 * w)) (hp : (T.take (j * (2 * w))).Perm (F.take (j * (2 * w)))) :
    (∀ m, Ups (2 * w) m T) ∧ T.Perm F := by
  constructor
  · intro m k hk
    by_cases h : k < j
    · exact hj k h
    · have : T.drop (k * (2 * w)) = [] := List.drop_eq_nil_of_le (by rw [hT]; exact Nat.le_trans hlo (Nat.mul_le_mul_right _ (by omega)))
      rw [this]
      simp [Up]
  · rwa [List.take_of_length_le (by omega), List.take_of_length_le (by omega)] at hp
end NT
end Go.Proofs
end
