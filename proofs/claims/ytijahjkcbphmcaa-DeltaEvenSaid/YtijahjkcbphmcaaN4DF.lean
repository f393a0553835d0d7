/-
  Texts of a proof over the translated program: N4DF.
-/
import Derived.Test.YtijahjkcbphmcaaN4DE
set_option linter.unusedVariables false
set_option linter.unusedSimpArgs false
namespace Sp
open Go Go.AbsM
theorem dput_len (l : List Int) : (dput l).length ≤ 524289 := by
  unfold dput; rw [List.length_cons]; have := outP_len (steps 0 l) (width (steps 0 l)); omega
theorem put_back {l : List Int} (hl : inI l) (hn : l.length ≤ 65536) : derr (dput l) (l.length : Int) = 0 ∧ dgot (dput l) (l.length : Int) = l ∧ bytes (dput l) ∧ ((outP (steps 0 l) (width (steps 0 l))).length : Int) = size (l.length : Int) (width (steps 0 l)) := by
  have hs := steps_in 0 l
  have he := err_steps hn
  have hw := width64 hs
  have hw0 := width_nonneg (steps 0 l)
  obtain ⟨p1, p2, p3, p4, p5⟩ := put_got hs he
  rw [steps_len] at p3 p4 p5
  have et : tl (dput l) = outP (steps 0 l) (width (steps 0 l)) := rfl
  have eh : hd (dput l) = width (steps 0 l) := rfl
  refine ⟨derr0 (by omega) (by simp [dput]) (by rw [et, eh]; exact p3) (by rw [et, eh, p4]), ?_, ?_, p5⟩
  · unfold dgot; rw [et, eh, p4]; exact walk_steps 0 l hl
  · intro x hx
    rcases List.mem_cons.1 hx with rfl | hx
    · omega
    · exact p2 x hx
theorem get_back {b : List Int} {n : Int} (hb : bytes b) (h : derr b n = 0) : inI (dgot b n) ∧ ((dgot b n).length : Int) = n ∧ (dgot b n).length ≤ 65536 ∧ dput (dgot b n) = b := by
  have hn : ¬ (n < 0 ∨ 65536 < n) := fun hh => by rw [derr1 hh] at h; exact absurd h (by decide)
  have hbl : ¬ b.length = 0 := fun hh => by rw [derr5 hn hh] at h; exact absurd h (by decide)
  have hg : gerr (tl b) n (hd b) = 0 := Classical.byContradiction fun hh => by rw [derrG hn hbl hh] at h; exact hh h
  have hw : width (got (tl b) n (hd b)) = hd b := Classical.byContradiction fun hh => by rw [derr2 hn hbl hg hh] at h; exact absurd h (by decide)
  obtain ⟨p1, p2, p3, p4, p5⟩ := got_put (tl_bytes hb) hg
  refine ⟨walk_in _ _, by unfold dgot; rw [walk_len]; exact p5, by unfold dgot; rw [walk_len]; omega, ?_⟩
  unfold dput dgot
  rw [steps_walk 0 _ p1, hw, p4]
  cases b with
  | nil => exact absurd rfl hbl
  | cons x r => rfl
end Sp
namespace Go.Proofs.Ytijahjkcbphmcaa
open Go.AbsM
theorem goodDL : Goods Try.prog deltaL := .cons good33 (.cons good34 (.cons good35 (.cons good36 (.cons good37 (.cons good38 (.cons (good22 .nil) (.cons good39 (.cons good40 .nil))))))))
def law12 : TCtr := lawC 12 [.l 2 (.int .i64)] (fun (d : List Int × Unit) => Sp.inI d.1)
theorem good12 : GoodC Try.prog law12 := by
  refine good_plain (fn := Try.f12) wide goodDL ⟨by kernel_rfl, by kernel_rfl, by kernel_rfl, by kernel_rfl⟩ (by kernel_rfl) fun d hd => Blk.un ?_
  obtain ⟨l, x⟩ : List Int × Unit := d
  have hi : Sp.inI l := hd
  refine Blk.nf (nf12 l _) ⟨trivial, brc_igt (fun _ => rfl) fun hl => ?_⟩
  have e0 : W.ofNat (W.len l) = (l.length : Int) := rfl
  rw [e0] at hl ⊢
  obtain ⟨p1, p2, p3, p4⟩ := Sp.put_back hi (by omega)
  have hdl := Sp.dput_len l
  have hsl := Sp.steps_len 0 l
  have fin : TV.bool (Sp.same (Sp.dgot (Sp.dput l) (l.length : Int)) l) = law12.out (l, x) := by
    rw [p2, Sp.same_same]; rfl
  refine ⟨⟨hi, by omega⟩, ⟨p3, by omega⟩, fun h => absurd p1 h, fun _ => ⟨⟨hi, by omega⟩, brc_yes (Sp.seq_same _) ⟨⟨hi, by omega⟩, ⟨hi, by omega⟩, fun hz => ⟨by omega, brc_yes ?_ ⟨by rw [p2]; omega, fin⟩⟩, fun _ => ⟨by omega, brc_yes (Sp.same_same _) ⟨by rw [p2]; omega, fin⟩⟩⟩⟩⟩
  have : Sp.steps 0 l = [] := List.length_eq_zero_iff.1 (by omega)
  rw [this]; rfl
def law13 : TCtr := lawC 13 [.l 5 (.int .u8), .v (.int .i64)] (fun (d : List Int × Int × Unit) => Sp.bytes d.1)
theorem good13 : GoodC Try.prog law13 := by
  refine good_plain (fn := Try.f13) wide goodDL ⟨by kernel_rfl, by kernel_rfl, by kernel_rfl, by kernel_rfl⟩ (by kernel_rfl) fun d hd => Blk.un ?_
  obtain ⟨b, n, u⟩ : List Int × Int × Unit := d
  have hb : Sp.bytes b := hd
  refine Blk.nf (nf13 b n _) ⟨trivial, brc_igt (fun _ => rfl) fun hl => ?_⟩
  have e0 : W.ofNat (W.len b) = (b.length : Int) := rfl
  rw [e0] at hl
  have hB : (Sp.bytes b ∧ List.length b < 9223372036854775807) = True := eq_true ⟨hb, by omega⟩
  have h1 : Nat.le 1 1000000 = True := eq_true (show 1 ≤ 1000000 by omega)
  refine brc_igt (fun _ => brc_ile (fun _ => rfl) fun _ => ?_) fun _ => ?_
  all_goals
    by_cases he : Sp.derr b n = 0
    · obtain ⟨p1, p2, p3, p4⟩ := Sp.get_back hb he
      have hI : (Sp.inI (Sp.dgot b n) ∧ List.length (Sp.dgot b n) ≤ 65536) = True := eq_true ⟨p1, p3⟩
      have hL : (List.length (Sp.dgot b n) < 1000000) = True := eq_true (by omega)
      have hb1 : W.bnot true = false := rfl
      have el : W.ieq (W.ofNat (W.len (Sp.dgot b n))) n = true := Sp.ieq_true p2
      by_cases hn : n = 0
      · have hg : Sp.dgot b n = [] := List.length_eq_zero_iff.1 (by omega)
        have hs : Sp.same (Sp.dgot b n) [] = true := by rw [hg]; rfl
        have hnT : (n = 0) = True := eq_true hn
        simp only [he, hB, hI, hL, h1, p4, hnT, hs, hb1, el, ne_eq, not_true_eq_false, not_false_eq_true, false_implies, true_implies, true_and, and_true, Sp.ine_same, Sp.ieq_same, Sp.seq_same, brc_t, brc_f]
        rfl
      · have hnF : (n = 0) = False := eq_false hn
        simp only [he, hB, hI, hL, h1, p4, hnF, hb1, el, ne_eq, not_true_eq_false, not_false_eq_true, false_implies, true_implies, true_and, and_true, Sp.ine_same, Sp.ieq_same, Sp.seq_same, Sp.same_same, brc_t, brc_f]
        rfl
    · have hne := Sp.ine_true he
      have hF : (Sp.derr b n = 0) = False := eq_false he
      simp only [hF, hB, h1, hne, ne_eq, not_true_eq_false, not_false_eq_true, false_implies, true_implies, true_and, and_true, Sp.ine_same, brc_t, brc_f]
      rfl
end Go.Proofs.Ytijahjkcbphmcaa
