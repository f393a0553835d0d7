/-
  Texts of a proof over the translated program: N5Trip.
-/
import Derived.Test.YtijahjkcbphmcaaN5Ref2
set_option linter.unusedVariables false
namespace Sp
open Go Go.AbsM
theorem get_at {u : Int} (P Q : List Int) (h0 : 0 ≤ u) (h1 : u < 18446744073709551616) : get (P ++ (enc u ++ Q)) (P.length : Int) = (u, ((enc u).length : Int), 0) := by
  have hlen : (P ++ (enc u ++ Q)).length = P.length + ((enc u).length + Q.length) := by rw [List.length_append, List.length_append]
  rw [get_in (by omega) (by rw [hlen]; omega), Int.toNat_natCast]
  have := getF_enc (P ++ (enc u ++ Q)) P.length u.toNat 0 0 (by omega) (by decide) (fun h => by omega) (by simp only [Nat.pow_zero, Nat.mul_one, Nat.zero_add]; omega) (by rw [hlen]; omega) (fun j hj1 hj2 => by
    rw [List.getD_eq_getElem?_getD, Nat.add_zero, List.getElem?_append_right (by omega)]
    have e : P.length + j - P.length = j := by omega
    rw [e, List.getElem?_append_left (by exact hj2), ← List.getD_eq_getElem?_getD]; rfl)
  simp only [Nat.pow_zero, Nat.mul_one, Nat.zero_add, Nat.add_zero, hlen] at this
  have e2 : (encN u.toNat).length = (enc u).length := rfl
  rw [e2, if_pos (by omega)] at this
  have e3 : ((u.toNat : Nat) : Int) = u := Int.toNat_of_nonneg h0
  rw [e3] at this
  exact this
theorem next_at {n v : Int} (P Q : List Int) (hP : (P ++ ((enc n ++ enc v) ++ Q)).length < 1000000) (hn : 0 ≤ n ∧ n < 18446744073709551616) (hv : 0 ≤ v ∧ v < 18446744073709551616) :
    next (P ++ ((enc n ++ enc v) ++ Q)) (P.length : Int) = ((n, v), ((enc n).length : Int) + ((enc v).length : Int), 0) := by
  have l1 := enc_len hn.1 hn.2
  have l2 := enc_len hv.1 hv.2
  have g1 := get_at P (enc v ++ Q) hn.1 hn.2
  have g2 := get_at (P ++ enc n) Q hv.1 hv.2
  rw [List.append_assoc, List.length_append] at g2
  rw [List.append_assoc] at hP ⊢
  simp only [List.length_append] at hP
  unfold next
  rw [g1]
  simp only
  have ea : W.add .i64 (P.length : Int) ((enc n).length : Int) = ((P.length + (enc n).length : Nat) : Int) := by rw [W.add_i64 (by omega) (by omega)]; omega
  rw [ea, g2]
  simp only
  rw [if_neg (by decide), if_neg (by decide), W.add_i64 (by omega) (by omega)]
def lastN (l : List (Int × Int × Unit)) : Option Int := if l = [] then none else some (l.getD (l.length - 1) (0, 0, ())).2.1
def chain (x : Option Int) : List (Int × Int × Unit) → Prop
  | [] => True
  | p :: r => (some p.2.1 ≠ x ∧ 1 ≤ p.1) ∧ chain (some p.2.1) r
theorem lastN_snoc (l : List (Int × Int × Unit)) (p : Int × Int × Unit) : lastN (l ++ [p]) = some p.2.1 := by
  unfold lastN
  rw [if_neg (by simp), List.length_append]
  have : (l ++ [p]).getD (l.length + [p].length - 1) (0, 0, ()) = p := nth_last l p _
  rw [this]
theorem encR_app : ∀ (a b : List (Int × Int × Unit)), encR (a ++ b) = encR a ++ encR b
  | [], b => rfl
  | p :: a, b => by simp only [List.cons_append, encR, encR_app a b, List.append_assoc]
theorem rgetF_runs : ∀ (rs all : List (Int × Int × Unit)) (f : Nat) (left : Int) (b : List Int), b = encR all ++ encR rs → b.length < 1000000 → inP rs → chain (lastN all) rs → left = (told rs).length → rs.length < f →
    rgetF b f ((encR all).length : Int) left all = (all ++ rs, 0, 0)
  | [], all, f, left, b, hb, hl, _, _, hs, hf => by
    obtain ⟨f, rfl⟩ : ∃ g, f = g + 1 := ⟨f - 1, by omega⟩
    have hs : left = 0 := hs
    subst hs
    subst hb
    simp only [rgetF, encR, List.append_nil]
    rw [if_pos trivial]
  | p :: r, all, f, left, b, hb, hl, hin, hc, hs, hf => by
    obtain ⟨f, rfl⟩ : ∃ g, f = g + 1 := ⟨f - 1, by omega⟩
    obtain ⟨n, v, x⟩ := p
    obtain ⟨hn, hv⟩ := hin _ List.mem_cons_self
    obtain ⟨⟨c1, c2⟩, c3⟩ := hc
    simp only at hn hv c1 c2 c3
    have hb' : b = encR all ++ ((enc n ++ enc v) ++ encR r) := hb
    have l1 := enc_len hn.1 hn.2
    have l2 := enc_len hv.1 hv.2
    have hnx := next_at (encR all) (encR r) (by rw [← hb']; exact hl) hn hv
    rw [← hb'] at hnx
    have hbl : b.length = (encR all).length + ((enc n).length + (enc v).length + (encR r).length) := by rw [hb']; simp only [List.length_append]
    have hst : (told ((n, v, x) :: r)).length = n.toNat + (told r).length := by simp only [told, List.length_append, List.length_replicate]
    have er : rgetF b (f + 1) ((encR all).length : Int) left all = rgetF b f (((encR all).length : Int) + (((enc n).length : Int) + ((enc v).length : Int))) (left - n) (all ++ [(n, v, ())]) := by
      simp only [rgetF]
      rw [if_neg (by omega), hnx]
      simp only
      rw [if_neg (by decide), if_neg ?_, if_neg (by omega)]
      rintro (h | ⟨h, h2⟩)
      · omega
      · apply c1
        unfold lastN; rw [if_neg h, h2]
    rw [er]
    have e1 : encR (all ++ [(n, v, ())]) = encR all ++ (enc n ++ enc v) := by rw [encR_app]; simp only [encR, List.append_nil]
    have e2 : ((encR all).length : Int) + (((enc n).length : Int) + ((enc v).length : Int)) = ((encR (all ++ [(n, v, ())])).length : Int) := by
      rw [e1]; simp only [List.length_append]; omega
    rw [e2, rgetF_runs r (all ++ [(n, v, ())]) f (left - n) b (by rw [hb', e1]; simp only [List.append_assoc]) hl (fun p hp => hin p (List.mem_cons_of_mem _ hp)) (by rw [lastN_snoc]; exact c3) (by omega) (by simp only [List.length_cons] at hf; omega), List.append_assoc]
    rfl
theorem runsG_chain : ∀ (l : List Int) (c x : Int) (y : Option Int), 1 ≤ c → some x ≠ y → chain y (runsG c x l)
  | [], c, x, y, h, hy => ⟨⟨hy, h⟩, trivial⟩
  | z :: r, c, x, y, h, hy => by
    unfold runsG
    split
    · exact runsG_chain r (c + 1) x y (by omega) hy
    · rename_i hz
      exact ⟨⟨hy, h⟩, runsG_chain r 1 z (some x) (by omega) (fun e => hz (Option.some.inj e))⟩
theorem encR_len : ∀ (l : List (Int × Int × Unit)), inP l → (encR l).length ≤ 20 * l.length ∧ l.length ≤ (encR l).length
  | [], _ => ⟨Nat.le_refl _, Nat.le_refl _⟩
  | p :: r, h => by
    have hp := h p List.mem_cons_self
    have l1 := enc_len hp.1.1 hp.1.2
    have l2 := enc_len hp.2.1 hp.2.2
    have := encR_len r fun q hq => h q (List.mem_cons_of_mem _ hq)
    simp only [encR, List.length_append, List.length_cons]; omega
theorem encR_bytes : ∀ (l : List (Int × Int × Unit)), bytes (encR l)
  | [] => bytes_nil
  | p :: r => bytes_app (bytes_app (enc_bytes _) (enc_bytes _)) (encR_bytes r)
/-- What was put is got again. -/
theorem rget_runs {l : List Int} (hu : inU l) (hl : l.length < 1000) : rget (encR (runs l)) (l.length : Int) = (runs l, 0, 0) := by
  have hin := runs_in hu (by omega)
  have hr := runs_len l
  have he := encR_len (runs l) hin
  unfold rget
  rw [if_neg (by omega)]
  have hc : chain (lastN []) (runs l) := by
    cases l with
    | nil => trivial
    | cons x r => exact runsG_chain r 1 x _ (by omega) (fun h => by cases h)
  exact rgetF_runs (runs l) [] ((encR (runs l)).length + 1) l.length (encR (runs l)) rfl (by omega) hin hc (by rw [runs_told]) (by omega)
end Sp
