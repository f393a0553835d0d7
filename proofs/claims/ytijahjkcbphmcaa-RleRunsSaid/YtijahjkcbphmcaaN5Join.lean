/-
  Texts of a proof over the translated program: N5Join.
-/
import Derived.Test.YtijahjkcbphmcaaN5Trip
set_option linter.unusedVariables false
namespace Sp
open Go Go.AbsM
/-- The last of a row that begins with x. -/
def lastX (x : Int) : List Int → Int
  | [] => x
  | y :: r => lastX y r
theorem runsG_join : ∀ (l : List Int) (c x : Int) (b : List Int), (∀ y r, b = y :: r → y ≠ lastX x l) → runsG c x (l ++ b) = runsG c x l ++ runs b
  | [], c, x, b, h => by
    cases b with
    | nil => rfl
    | cons y r =>
      have : y ≠ x := h y r rfl
      show runsG c x (y :: r) = (c, x, ()) :: runsG 1 y r
      rw [runsG, if_neg this]
  | z :: l, c, x, b, h => by
    show runsG c x (z :: (l ++ b)) = runsG c x (z :: l) ++ runs b
    rw [runsG, runsG]
    split
    · rename_i e
      subst e
      exact runsG_join l (c + 1) z b h
    · rw [runsG_join l 1 z b h, List.cons_append]
theorem runs_join {a b : List Int} (h : ∀ x l y r, a = x :: l → b = y :: r → y ≠ lastX x l) : runs (a ++ b) = runs a ++ runs b := by
  cases a with
  | nil => rfl
  | cons x l => exact runsG_join l 1 x b fun y r e => h x l y r rfl e
theorem runsG_glue : ∀ (l : List Int) (c x : Int) (b : List Int), (runsG c x (l ++ lastX x l :: b)).length + 1 = (runsG c x l).length + (runsG 1 (lastX x l) b).length
  | [], c, x, b => by
    show (runsG c x (x :: b)).length + 1 = 1 + (runsG 1 x b).length
    rw [runsG, if_pos rfl, runsG_any (c + 1) 1]; omega
  | z :: l, c, x, b => by
    show (runsG c x (z :: (l ++ lastX z l :: b))).length + 1 = (runsG c x (z :: l)).length + (runsG 1 (lastX z l) b).length
    rw [runsG, runsG]
    split
    · rename_i e
      subst e
      exact runsG_glue l (c + 1) z b
    · have := runsG_glue l 1 z b
      simp only [List.length_cons]; omega
theorem lastN_runsG : ∀ (l : List Int) (c x : Int) (all : List (Int × Int × Unit)), lastN (all ++ runsG c x l) = some (lastX x l)
  | [], c, x, all => lastN_snoc all (c, x, ())
  | z :: l, c, x, all => by
    show lastN (all ++ runsG c x (z :: l)) = some (lastX z l)
    rw [runsG]
    split
    · rename_i e
      subst e
      exact lastN_runsG l (c + 1) z all
    · have := lastN_runsG l 1 z (all ++ [(c, x, ())])
      rw [List.append_assoc] at this; exact this
/-- Two runs of one number, one behind the other, are refused. -/
theorem rgetF_bad : ∀ (rs all : List (Int × Int × Unit)) (f : Nat) (left : Int) (b : List Int) (p : Int × Int × Unit) (q : List (Int × Int × Unit)), b = encR all ++ encR (rs ++ p :: q) → b.length < 1000000 → inP (rs ++ p :: q) → chain (lastN all) rs → ((told rs).length : Int) ≤ left → rs.length < f →
    lastN (all ++ rs) = some p.2.1 → (rgetF b f ((encR all).length : Int) left all).2.2 = 2
  | [], all, f, left, b, p, q, hb, hl, hin, _, hs, hf, hlast => by
    obtain ⟨f, rfl⟩ : ∃ g, f = g + 1 := ⟨f - 1, by omega⟩
    obtain ⟨n, v, x⟩ := p
    obtain ⟨hn, hv⟩ := hin (n, v, x) (by simp)
    simp only at hn hv
    have hb' : b = encR all ++ ((enc n ++ enc v) ++ encR q) := hb
    have l1 := enc_len hn.1 hn.2
    have hnx := next_at (encR all) (encR q) (by rw [← hb']; exact hl) hn hv
    rw [← hb'] at hnx
    have hbl : b.length = (encR all).length + ((enc n).length + (enc v).length + (encR q).length) := by rw [hb']; simp only [List.length_append]
    rw [List.append_nil] at hlast
    simp only [rgetF]
    rw [if_neg (by omega), hnx]
    simp only
    rw [if_neg (by decide), if_pos ?_]
    refine .inr ?_
    unfold lastN at hlast
    split at hlast
    · cases hlast
    · rename_i hne
      exact ⟨hne, (Option.some.inj hlast).symm⟩
  | p0 :: r, all, f, left, b, p, q, hb, hl, hin, hc, hs, hf, hlast => by
    obtain ⟨f, rfl⟩ : ∃ g, f = g + 1 := ⟨f - 1, by omega⟩
    obtain ⟨n, v, x⟩ := p0
    obtain ⟨hn, hv⟩ := hin (n, v, x) (by simp)
    obtain ⟨⟨c1, c2⟩, c3⟩ := hc
    simp only at hn hv c1 c2 c3
    have hb' : b = encR all ++ ((enc n ++ enc v) ++ encR (r ++ p :: q)) := hb
    have l1 := enc_len hn.1 hn.2
    have l2 := enc_len hv.1 hv.2
    have hnx := next_at (encR all) (encR (r ++ p :: q)) (by rw [← hb']; exact hl) hn hv
    rw [← hb'] at hnx
    have hbl : b.length = (encR all).length + ((enc n).length + (enc v).length + (encR (r ++ p :: q)).length) := by rw [hb']; simp only [List.length_append]
    have hst : (told ((n, v, x) :: r)).length = n.toNat + (told r).length := by simp only [told, List.length_append, List.length_replicate]
    have er : rgetF b (f + 1) ((encR all).length : Int) left all = rgetF b f (((encR all).length : Int) + (((enc n).length : Int) + ((enc v).length : Int))) (left - n) (all ++ [(n, v, ())]) := by
      simp only [rgetF]
      rw [if_neg (by omega), hnx]
      simp only
      rw [if_neg (by decide), if_neg ?_, if_neg (by omega)]
      rintro (h | ⟨h, h2⟩)
      · omega
      · apply c1
        unfold lastN; rw [if_neg h, h2]
    rw [er]
    have e1 : encR (all ++ [(n, v, ())]) = encR all ++ (enc n ++ enc v) := by rw [encR_app]; simp only [encR, List.append_nil]
    have e2 : ((encR all).length : Int) + (((enc n).length : Int) + ((enc v).length : Int)) = ((encR (all ++ [(n, v, ())])).length : Int) := by
      rw [e1]; simp only [List.length_append]; omega
    rw [e2]
    exact rgetF_bad r (all ++ [(n, v, ())]) f (left - n) b p q (by rw [hb', e1]; simp only [List.append_assoc]) hl (fun y hy => hin y (List.mem_cons_of_mem _ hy)) (by rw [lastN_snoc]; exact c3) (by omega) (by simp only [List.length_cons] at hf; omega) (by rw [List.append_assoc]; exact hlast)
end Sp
