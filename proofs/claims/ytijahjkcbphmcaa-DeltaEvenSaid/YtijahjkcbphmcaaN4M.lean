/-
  Texts of a proof over the translated program: N4M.
-/
import Derived.Test.YtijahjkcbphmcaaN4L
set_option linter.unusedVariables false
set_option linter.unusedSimpArgs false
namespace Go.Proofs.Ytijahjkcbphmcaa
open Go.AbsM
def law7 : TCtr := lawC 7 [.l 39 (.int .u64), .l 39 (.int .u64), .v (.int .u8)] (fun (d : List Int × List Int × Int × Unit) => Sp.inU d.1 ∧ Sp.inU d.2.1 ∧ 0 ≤ d.2.2.1 ∧ d.2.2.1 < 256)
theorem good7 : GoodC Try.prog law7 := by
  refine good_plain (fn := Try.f7) wide goodPL ⟨by kernel_rfl, by kernel_rfl, by kernel_rfl, by kernel_rfl⟩ (by kernel_rfl) fun d hd => Blk.un ?_
  obtain ⟨a, b, w, u⟩ : List Int × List Int × Int × Unit := d
  obtain ⟨hua, hub, w0, w1⟩ : Sp.inU a ∧ Sp.inU b ∧ 0 ≤ w ∧ w < 256 := hd
  refine Blk.nf (nf7 a b w _) ⟨trivial, brc_igt (fun _ => rfl) fun hla => brc_igt (fun _ => rfl) fun hlb => ?_⟩
  have e0 : W.ofNat (W.len a) = (a.length : Int) := rfl
  have e1 : W.ofNat (W.len b) = (b.length : Int) := rfl
  rw [e0] at hla
  rw [e1] at hlb
  obtain ⟨m, hm, hm8⟩ : ∃ m : Nat, W.mul .i64 8 (W.wrap .i64 (W.rem w 9)) = ((8 * m : Nat) : Int) ∧ m ≤ 8 := by
    refine ⟨(w % 9).toNat, ?_, by omega⟩
    rw [W.rem_pos w0, W.wi64_in (by omega) (by omega), W.mul_i64 (by omega) (by omega)]; omega
  have ea : W.app (W.app [] a) b = a ++ b := rfl
  have eb : ∀ x : List UInt8, W.app [] x = x := fun x => rfl
  have hab : (a ++ b).length = a.length + b.length := List.length_append
  have hA : (Sp.inU a ∧ List.length a < 9223372036854775807) = True := eq_true ⟨hua, by omega⟩
  have hB : (Sp.inU b ∧ List.length b < 9223372036854775807) = True := eq_true ⟨hub, by omega⟩
  have hAB : (Sp.inU (a ++ b) ∧ List.length (a ++ b) < 9223372036854775807) = True := eq_true ⟨Sp.inU_app2 hua hub, by omega⟩
  have g1 : W.nle (W.nmul (W.nadd 0 (W.len a)) 8) 140737488355328 = true := decide_eq_true (by simp only [W.nmul, W.nadd, W.len]; omega)
  have g2 : W.nle (W.nmul (W.nadd (W.len (W.app [] a)) (W.len b)) 8) 140737488355328 = true := decide_eq_true (by show (a.length + b.length) * 8 ≤ _; omega)
  have lo : ∀ l : List Int, W.len (W.b8s (Sp.outP l ((8 * m : Nat) : Int))) ≤ 524288 := fun l => by
    show ((Sp.outP l ((8 * m : Nat) : Int)).map W.b8).length ≤ _
    rw [List.length_map]; exact Sp.outP_len _ _
  have g3 : W.nle (W.nadd (W.len (W.b8s (Sp.outP a ((8 * m : Nat) : Int)))) (W.len (W.b8s (Sp.outP b ((8 * m : Nat) : Int))))) 9223372036854775807 = true := decide_eq_true (by have := lo a; have := lo b; unfold W.nadd; omega)
  have g4 : W.nle (W.nadd 0 (W.len (W.b8s (Sp.outP b ((8 * m : Nat) : Int))))) 9223372036854775807 = true := decide_eq_true (by have := lo b; unfold W.nadd; omega)
  have g5 : W.nle (W.nadd (W.len (W.b8s (Sp.outP a ((8 * m : Nat) : Int)))) 0) 9223372036854775807 = true := decide_eq_true (by have := lo a; unfold W.nadd; omega)
  have zero : ∀ l : List Int, l.length ≤ 200 → (Sp.err l ((8 * m : Nat) : Int) = 0 ↔ Sp.width l ≤ ((8 * m : Nat) : Int)) := fun l hl => ⟨fun h => (Sp.err_zero h).2.2.1, fun h => Sp.err_is (by omega) (by omega) h (by omega)⟩
  have zab : Sp.err (a ++ b) ((8 * m : Nat) : Int) = 0 ↔ (Sp.err a ((8 * m : Nat) : Int) = 0 ∧ Sp.err b ((8 * m : Nat) : Int) = 0) := by
    rw [zero _ (by omega), zero _ (by omega), zero _ (by omega)]; exact Sp.width_app a b
  by_cases ha : Sp.err a ((8 * m : Nat) : Int) = 0
  · by_cases hb : Sp.err b ((8 * m : Nat) : Int) = 0
    · have hz := zab.2 ⟨ha, hb⟩
      have ho : W.b8s (Sp.outP (a ++ b) ((8 * m : Nat) : Int)) = W.app (W.b8s (Sp.outP a ((8 * m : Nat) : Int))) (W.b8s (Sp.outP b ((8 * m : Nat) : Int))) := by
        rw [Sp.outP_app hua ha hb (by omega)]; exact List.map_append
      simp only [hm, ea, eb, hA, hB, hAB, g1, g2, g3, ha, hb, hz, ho, ne_eq, not_true_eq_false, not_false_eq_true, false_implies, true_implies, true_and, and_true, Sp.ine_same, Sp.ieq_same, Sp.seq_same, brc_t, brc_f, grd_t]
      rfl
    · have hz : ¬ Sp.err (a ++ b) ((8 * m : Nat) : Int) = 0 := fun h => hb (zab.1 h).2
      have n1 := Sp.ine_true hb
      have n2 := Sp.ine_true hz
      have f1 : (Sp.err b ((8 * m : Nat) : Int) = 0) = False := eq_false hb
      have f2 : (Sp.err (a ++ b) ((8 * m : Nat) : Int) = 0) = False := eq_false hz
      simp only [hm, ea, eb, hA, hB, hAB, g1, g2, g5, ha, f1, f2, n1, n2, ne_eq, not_true_eq_false, not_false_eq_true, false_implies, true_implies, true_and, and_true, Sp.ine_same, Sp.ieq_same, Sp.seq_same, brc_t, brc_f, grd_t]
      rfl
  · have hz : ¬ Sp.err (a ++ b) ((8 * m : Nat) : Int) = 0 := fun h => ha (zab.1 h).1
    have n1 := Sp.ine_true ha
    have n2 := Sp.ine_true hz
    have f1 : (Sp.err a ((8 * m : Nat) : Int) = 0) = False := eq_false ha
    have f2 : (Sp.err (a ++ b) ((8 * m : Nat) : Int) = 0) = False := eq_false hz
    by_cases hb : Sp.err b ((8 * m : Nat) : Int) = 0
    · simp only [hm, ea, eb, hA, hB, hAB, g1, g2, g4, hb, f1, f2, n1, n2, ne_eq, not_true_eq_false, not_false_eq_true, false_implies, true_implies, true_and, and_true, Sp.ine_same, Sp.ieq_same, Sp.seq_same, brc_t, brc_f, grd_t]
      rfl
    · have f3 : (Sp.err b ((8 * m : Nat) : Int) = 0) = False := eq_false hb
      simp only [hm, ea, eb, hA, hB, hAB, g1, g2, f1, f2, f3, n1, n2, ne_eq, not_true_eq_false, not_false_eq_true, false_implies, true_implies, true_and, and_true, Sp.ine_same, Sp.ieq_same, Sp.seq_same, brc_t, brc_f, grd_t]
      rfl
def law6 : TCtr := lawC 6 [.l 39 (.int .u64), .v (.int .u8)] (fun (d : List Int × Int × Unit) => Sp.inU d.1 ∧ 0 ≤ d.2.1 ∧ d.2.1 < 256)
theorem good6 : GoodC Try.prog law6 := by
  refine good_plain (fn := Try.f6) wide goodPL ⟨by kernel_rfl, by kernel_rfl, by kernel_rfl, by kernel_rfl⟩ (by kernel_rfl) fun d hd => Blk.un ?_
  obtain ⟨l, w, u⟩ : List Int × Int × Unit := d
  obtain ⟨hu, w0, w1⟩ : Sp.inU l ∧ 0 ≤ w ∧ w < 256 := hd
  refine Blk.nf (nf6 l w _) ⟨trivial, brc_igt (fun _ => rfl) fun hl => ?_⟩
  have e0 : W.ofNat (W.len l) = (l.length : Int) := rfl
  rw [e0] at hl ⊢
  have hw0 := Sp.width_nonneg l
  have hw64 : Sp.width l ≤ 64 := by
    have := Sp.bitLen_le.2 (Sp.orAll_lt hu)
    unfold Sp.width; omega
  obtain ⟨k, hk, hk1, hk2⟩ : ∃ k, W.imin 64 (W.add .i64 (Sp.width l) (W.wrap .i64 (W.rem w 65))) = k ∧ Sp.width l ≤ k ∧ k ≤ 64 := by
    refine ⟨_, rfl, ?_, ?_⟩
    · rw [W.rem_pos w0, W.wi64_in (by omega) (by omega), W.add_i64 (by omega) (by omega)]
      unfold W.imin; split <;> omega
    · unfold W.imin; split <;> omega
  have h1 : Sp.err l (Sp.width l) = 0 := Sp.err_is hw0 hw64 (Int.le_refl _) (by omega)
  have h2 : Sp.err l k = 0 := Sp.err_is (by omega) hk2 hk1 (by omega)
  obtain ⟨p1, p2, p3, p4, p5⟩ := Sp.put_got hu h2
  obtain ⟨_, _, _, _, r5⟩ := Sp.put_got hu h1
  have hU : (Sp.inU l ∧ List.length l < 9223372036854775807) = True := eq_true ⟨hu, by omega⟩
  have hO : (Sp.bytes (Sp.outP l k) ∧ List.length (Sp.outP l k) < 9223372036854775807) = True := eq_true ⟨p2, by have := Sp.outP_len l k; omega⟩
  have hL : (List.length l < 1000000) = True := eq_true (by omega)
  have e1 : W.ofNat (W.len (Sp.outP l k)) = Sp.size (l.length : Int) k := p5
  have e2 : W.ofNat (W.len (Sp.outP l (Sp.width l))) = Sp.size (l.length : Int) (Sp.width l) := r5
  have e3 : W.quo .i64 (W.add .i64 (W.mul .i64 (l.length : Int) k) 7) 8 = Sp.size (l.length : Int) k := Sp.size_eq ⟨by omega, by omega, by omega, by omega⟩
  have e4 : W.ile (Sp.size (l.length : Int) (Sp.width l)) (Sp.size (l.length : Int) k) = true := by
    refine decide_eq_true ?_
    rw [Sp.size_val ⟨by omega, by omega, by omega, by omega⟩, Sp.size_val ⟨by omega, by omega, by omega, by omega⟩]
    have := Int.mul_le_mul_of_nonneg_left hk1 (show (0 : Int) ≤ (l.length : Int) by omega)
    omega
  simp only [hk, hU, hO, hL, h1, h2, p3, p4, e1, e2, e3, e4, ne_eq, not_true_eq_false, not_false_eq_true, false_implies, true_implies, true_and, and_true, Sp.ine_same, Sp.ieq_same, Sp.same_same, brc_t, brc_f, grd_t]
  rfl
end Go.Proofs.Ytijahjkcbphmcaa
