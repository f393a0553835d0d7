/-
  Texts of a proof over the translated program: N4L.
-/
import Derived.Test.YtijahjkcbphmcaaN4LNf
set_option linter.unusedVariables false
set_option linter.unusedSimpArgs false
namespace Go.AbsM
theorem brc_t (A B : Prop) : brc true A B = A := propext ⟨fun h => (brc_iff.1 h).1 rfl, fun h => brc_yes rfl h⟩
theorem brc_f (A B : Prop) : brc false A B = B := propext ⟨fun h => (brc_iff.1 h).2 rfl, fun h => brc_no rfl h⟩
theorem grd_t (A : Prop) : grd true A = A := propext ⟨fun h => (grd_iff.1 h).2, fun h => grd_true rfl h⟩
end Go.AbsM
namespace Sp
open Go Go.AbsM
theorem ieq_same (a : Int) : W.ieq a a = true := by simp [W.ieq]
theorem ine_same (a : Int) : W.ine a a = false := by simp [W.ine]
theorem sne_same (a : List UInt8) : W.sne a a = false := by simp [W.sne]
theorem seq_same (a : List UInt8) : W.seq a a = true := by simp [W.seq]
theorem same_same (a : List Int) : same a a = true := decide_eq_true rfl
theorem ine_true {a b : Int} (h : a ≠ b) : W.ine a b = true := by simp [W.ine, h]
theorem ieq_true {a b : Int} (h : a = b) : W.ieq a b = true := by simp [W.ieq, h]
theorem igt_false {a b : Int} (h : a ≤ b) : W.igt a b = false := decide_eq_false (by omega)
theorem ige_true {a b : Int} (h : b ≤ a) : W.ige a b = true := decide_eq_true h
theorem ile_true {a b : Int} (h : a ≤ b) : W.ile a b = true := decide_eq_true h
theorem width_nonneg (l : List Int) : 0 ≤ width l := Int.natCast_nonneg _
theorem err_zero {l : List Int} {w : Int} (h : err l w = 0) : 0 ≤ w ∧ w ≤ 64 ∧ width l ≤ w ∧ l.length ≤ 65536 := by
  unfold err at h
  split at h
  · exact absurd h (by decide)
  · split at h
    · exact absurd h (by decide)
    · omega
theorem err_is {l : List Int} {w : Int} (h0 : 0 ≤ w) (h1 : w ≤ 64) (h2 : width l ≤ w) (h3 : l.length ≤ 65536) : err l w = 0 := by
  unfold err; rw [if_neg (by omega), if_neg (by omega)]
/-- What was put is got again. -/
theorem put_got {l : List Int} {w : Int} (hu : inU l) (h : err l w = 0) : (outP l w).length = (size (l.length : Int) w).toNat ∧ bytes (outP l w) ∧ gerr (outP l w) (l.length : Int) w = 0 ∧ got (outP l w) (l.length : Int) w = l ∧ ((outP l w).length : Int) = size (l.length : Int) w := by
  obtain ⟨h0, h1, h2, h3⟩ := err_zero h
  obtain ⟨W0, rfl⟩ : ∃ W0 : Nat, w = W0 := ⟨w.toNat, by omega⟩
  have hn : Num l W0 l.length := ⟨by omega, rfl, h3, by have := fits_of hu h0 h2; rwa [Int.toNat_natCast] at this⟩
  have hs := hn.size
  have hlt := hn.lt (Nat.le_refl _)
  have hlt8 := hn.lt8 (Nat.le_refl _)
  rw [List.take_length] at hlt hlt8
  have eo : outP l (W0 : Int) = ofVal ((l.length * W0 + 7) / 8) (packN W0 l) := by unfold outP; rw [hs, Int.toNat_natCast, Int.toNat_natCast]
  have hv : valOf (outP l (W0 : Int)) = packN W0 l := by rw [eo]; exact valOf_ofVal hlt8
  have hF : Fit (outP l (W0 : Int)) l.length W0 := ⟨by omega, h3, by rw [eo]; exact ofVal_bytes _ _, by rw [eo, ofVal_len]⟩
  refine ⟨by rw [eo, ofVal_len, hs, Int.toNat_natCast], hF.hb, ?_, ?_, by rw [hF.len, hs]⟩
  · rw [gerr_fit hF, hv, if_neg]
    rw [Nat.shiftRight_eq_div_pow, Nat.div_eq_of_lt hlt]; decide
  · unfold got
    rw [hv, Int.toNat_natCast, Int.toNat_natCast, unpack_pack W0 l hn.fits]
theorem size_le {n w : Int} : size n w ≤ 524288 := by
  by_cases h : 0 ≤ n ∧ n ≤ 65536 ∧ 0 ≤ w ∧ w ≤ 64
  · have := mul_le h
    rw [size_val h]; omega
  · rw [size_zero h]; decide
theorem outP_len (l : List Int) (w : Int) : (outP l w).length ≤ 524288 := by
  unfold outP; rw [ofVal_len]
  have := size_le (n := (l.length : Int)) (w := w); omega
theorem orAll_lt_of {w : Nat} : ∀ {l : List Int}, (∀ x, x ∈ l → x.toNat < 2 ^ w) → orAll l < 2 ^ w
  | [], _ => Nat.two_pow_pos w
  | x :: r, h => Nat.or_lt_two_pow (h x List.mem_cons_self) (orAll_lt_of fun y hy => h y (List.mem_cons_of_mem _ hy))
theorem unpackN_mem {w : Nat} : ∀ (n v : Nat) (x : Int), x ∈ unpackN w v n → 0 ≤ x ∧ x.toNat < 2 ^ w
  | 0, v, x, h => by cases h
  | n + 1, v, x, h => by
    rcases List.mem_cons.1 h with rfl | h
    · exact ⟨Int.natCast_nonneg _, by rw [Int.toNat_natCast]; exact Nat.mod_lt _ (Nat.two_pow_pos w)⟩
    · exact unpackN_mem n _ x h
/-- What was got is put again. -/
theorem got_put {b : List Int} {n w : Int} (hb : bytes b) (h : gerr b n w = 0) : inU (got b n w) ∧ (got b n w).length < 1000000 ∧ err (got b n w) w = 0 ∧ outP (got b n w) w = b ∧ ((got b n w).length : Int) = n := by
  have hm : mayB n w = true := by
    cases hm : mayB n w with
    | true => rfl
    | false => unfold gerr at h; rw [if_pos hm] at h; exact absurd h (by decide)
  have hs : (b.length : Int) = size n w := by
    unfold gerr at h
    rw [hm, if_neg (by decide)] at h
    split at h
    · exact absurd h (by decide)
    · split at h
      · exact absurd h (by decide)
      · omega
  obtain ⟨N, M, rfl, rfl, hF⟩ := fit_of ⟨hb, hm, hs⟩
  have hge := gerr_fit hF
  rw [h] at hge
  have hz : valOf b >>> (N * M) = 0 := Classical.byContradiction fun hne => by rw [if_pos hne] at hge; exact absurd hge (by decide)
  have hvl : valOf b < 2 ^ (N * M) := by
    rw [Nat.shiftRight_eq_div_pow] at hz
    exact (Nat.div_eq_zero_iff_lt (Nat.two_pow_pos _)).1 hz
  have hgl := got_len b N M
  have hmem : ∀ x, x ∈ got b (N : Int) (M : Int) → 0 ≤ x ∧ x.toNat < 2 ^ M := fun x hx => by
    unfold got at hx; rw [Int.toNat_natCast, Int.toNat_natCast] at hx; exact unpackN_mem N _ x hx
  have hw := hF.hw
  have hnn := hF.hn
  have h64 : (2 : Nat) ^ M ≤ 18446744073709551616 := Nat.pow_le_pow_right (n := 2) (by decide) (show M ≤ 64 from hw)
  have hwid : width (got b (N : Int) (M : Int)) ≤ (M : Int) := by
    have := bitLen_le.2 (orAll_lt_of fun x hx => (hmem x hx).2)
    unfold width; omega
  refine ⟨fun x hx => by have := hmem x hx; omega, by omega, err_is (by omega) (by omega) hwid (by omega), ?_, by rw [hgl]⟩
  unfold outP
  rw [hgl, ← hs, Int.toNat_natCast, Int.toNat_natCast]
  unfold got
  rw [Int.toNat_natCast, Int.toNat_natCast, pack_unpack M N _ hvl, ofVal_valOf b hb]
theorem ofVal_app {L1 L2 v1 v2 : Nat} (h : v1 < 2 ^ (8 * L1)) : ofVal (L1 + L2) (v1 ||| v2 <<< (8 * L1)) = ofVal L1 v1 ++ ofVal L2 v2 := by
  apply List.ext_getElem?
  intro i
  rw [List.getElem?_append]
  simp only [ofVal, List.length_map, List.length_range, List.getElem?_map]
  have hv : ∀ b, 8 * L1 ≤ b → v1.testBit b = false := fun b hb => Nat.testBit_lt_two_pow (Nat.lt_of_lt_of_le h (Nat.pow_le_pow_right (by decide) hb))
  split
  · rename_i hi
    have h1 : i < L1 + L2 := by omega
    simp only [List.getElem?_range h1, List.getElem?_range hi, Option.map_some]
    congr 2
    apply Nat.eq_of_testBit_eq
    intro b
    simp only [tb_mod, Nat.testBit_or, Nat.testBit_shiftRight, Nat.testBit_shiftLeft]
    by_cases hb : b < 8
    · have : ¬ (8 * L1 ≤ 8 * i + b) := by omega
      simp [this]
    · simp [hb]
  · rename_i hi
    by_cases h2 : i < L1 + L2
    · have h3 : i - L1 < L2 := by omega
      simp only [List.getElem?_range h2, List.getElem?_range h3, Option.map_some]
      congr 2
      apply Nat.eq_of_testBit_eq
      intro b
      simp only [tb_mod, Nat.testBit_or, Nat.testBit_shiftRight, Nat.testBit_shiftLeft]
      have h4 : 8 * L1 ≤ 8 * i + b := by omega
      have h5 : 8 * i + b - 8 * L1 = 8 * (i - L1) + b := by omega
      rw [hv _ h4]
      simp [h4, h5]
    · have h3 : ¬ (i - L1 < L2) := by omega
      simp [h2, h3]
theorem width_app (a b : List Int) {w : Int} : width (a ++ b) ≤ w ↔ (width a ≤ w ∧ width b ≤ w) := by
  unfold width
  rw [orAll_app]
  constructor
  · intro h
    have h1 := bitLen_mono (show orAll a ≤ orAll a ||| orAll b from Nat.left_le_or)
    have h2 := bitLen_mono (show orAll b ≤ orAll a ||| orAll b from Nat.right_le_or)
    omega
  · rintro ⟨h1, h2⟩
    obtain ⟨W0, rfl⟩ : ∃ W0 : Nat, w = W0 := ⟨w.toNat, by omega⟩
    have a1 : bitLen (orAll a) ≤ W0 := by omega
    have a2 : bitLen (orAll b) ≤ W0 := by omega
    have := bitLen_le.2 (Nat.or_lt_two_pow (bitLen_le.1 a1) (bitLen_le.1 a2))
    omega
theorem inU_app2 {a b : List Int} (ha : inU a) (hb : inU b) : inU (a ++ b) := fun x hx => by
  rcases List.mem_append.1 hx with h | h
  · exact ha x h
  · exact hb x h
/-- Rows of whole bytes, one behind the other. -/
theorem outP_app {a b : List Int} {m : Nat} (hu : inU a) (h : err a ((8 * m : Nat) : Int) = 0) (h2 : err b ((8 * m : Nat) : Int) = 0) (hl : a.length + b.length ≤ 65536) : outP (a ++ b) ((8 * m : Nat) : Int) = outP a ((8 * m : Nat) : Int) ++ outP b ((8 * m : Nat) : Int) := by
  obtain ⟨h0, h1, hw, _⟩ := err_zero h
  have hn : Num a (8 * m) a.length := ⟨by omega, rfl, by omega, by have := fits_of hu h0 hw; rwa [Int.toNat_natCast] at this⟩
  have sz : ∀ c : List Int, c.length ≤ 65536 → (size (c.length : Int) ((8 * m : Nat) : Int)).toNat = c.length * m := fun c hc => by
    rw [size_val ⟨by omega, by omega, by omega, by omega⟩]
    have e : ((c.length : Int) * ((8 * m : Nat) : Int)) = ((8 * (c.length * m) : Nat) : Int) := by
      rw [← Int.natCast_mul]; congr 1
      rw [Nat.mul_left_comm]
    rw [e]; omega
  unfold outP
  rw [sz _ (by rw [List.length_append]; omega), sz a (by omega), sz b (by omega), List.length_append, Nat.add_mul, Int.toNat_natCast, packN_app]
  have hlt := hn.lt (Nat.le_refl _)
  rw [List.take_length] at hlt
  have e8 : a.length * (8 * m) = 8 * (a.length * m) := Nat.mul_left_comm _ _ _
  rw [e8] at hlt ⊢
  exact ofVal_app hlt
end Sp
namespace Go.Proofs.Ytijahjkcbphmcaa
open Go.AbsM
theorem good16 : GoodC Try.prog (trueC 16) := good_closed (fn := Try.f16) (lend := fun f j => f == 41 && j == 0) (n := 3000) wide ⟨by kernel_rfl, by kernel_rfl, by kernel_rfl, by kernel_rfl⟩ (fun S => by kernel_rfl)
theorem goodPL : Goods Try.prog packL := .cons good16 (.cons good17 (.cons good18 (.cons good19 (.cons good20 (.cons good21 (.cons (good22 .nil) (.cons good23 (.cons good24 (.cons good25 .nil)))))))))
def law3 : TCtr := lawC 3 [.l 39 (.int .u64), .v (.int .i64)] (fun (d : List Int × Int × Unit) => Sp.inU d.1)
theorem good3 : GoodC Try.prog law3 := by
  refine good_plain (fn := Try.f3) wide goodPL ⟨by kernel_rfl, by kernel_rfl, by kernel_rfl, by kernel_rfl⟩ (by kernel_rfl) fun d hd => Blk.un ?_
  obtain ⟨l, w, u⟩ : List Int × Int × Unit := d
  have hu : Sp.inU l := hd
  refine Blk.nf (nf3 l w _) ⟨trivial, brc_igt (fun _ => rfl) fun hl => ?_⟩
  have e0 : W.ofNat (W.len l) = (l.length : Int) := rfl
  rw [e0] at hl ⊢
  have hU : (Sp.inU l ∧ List.length l < 9223372036854775807) = True := eq_true ⟨hu, by omega⟩
  by_cases he : Sp.err l w = 0
  · obtain ⟨p1, p2, p3, p4, p5⟩ := Sp.put_got hu he
    obtain ⟨q1, q2, q3, q4⟩ := Sp.err_zero he
    have hO : (Sp.bytes (Sp.outP l w) ∧ List.length (Sp.outP l w) < 9223372036854775807) = True := eq_true ⟨p2, by have := Sp.outP_len l w; omega⟩
    have hlt : (List.length l < 1000000) = True := eq_true (by omega)
    have e1 : W.ofNat (W.len (Sp.outP l w)) = Sp.size (l.length : Int) w := p5
    simp only [he, hU, hO, p3, p4, e1, hlt, ne_eq, not_true_eq_false, false_implies, true_implies, true_and, and_true, Sp.ine_same, Sp.sne_same, Sp.ieq_same, Sp.same_same, brc_t, brc_f, Sp.ige_true q3]
    rfl
  · have hne := Sp.ine_true he
    have hF : (Sp.err l w = 0) = False := eq_false he
    simp only [hF, hU, hne, ne_eq, not_false_eq_true, false_implies, true_implies, true_and, and_true, Sp.ine_same, brc_t, brc_f]
    refine brc_ilt (fun _ => rfl) fun h => ?_
    have : W.igt w 64 = true := by
      refine decide_eq_true ?_
      have := Sp.width_nonneg l
      exact Classical.byContradiction fun hn => he (Sp.err_is (by omega) (by omega) h (by omega))
    rw [this]; rfl
def law4 : TCtr := lawC 4 [.l 5 (.int .u8), .v (.int .i64), .v (.int .i64)] (fun (d : List Int × Int × Int × Unit) => Sp.bytes d.1)
theorem good4 : GoodC Try.prog law4 := by
  refine good_plain (fn := Try.f4) wide goodPL ⟨by kernel_rfl, by kernel_rfl, by kernel_rfl, by kernel_rfl⟩ (by kernel_rfl) fun d hd => Blk.un ?_
  obtain ⟨b, n, w, u⟩ : List Int × Int × Int × Unit := d
  have hb : Sp.bytes b := hd
  refine Blk.nf (nf4 b n w _) ⟨trivial, brc_igt (fun _ => rfl) fun hl => ?_⟩
  have e0 : W.ofNat (W.len b) = (b.length : Int) := rfl
  rw [e0] at hl
  have hB : (Sp.bytes b ∧ List.length b < 9223372036854775807) = True := eq_true ⟨hb, by omega⟩
  have h1 : Nat.le 1 1000000 = True := eq_true (show 1 ≤ 1000000 by omega)
  refine brc_igt (fun _ => brc_ile (fun _ => brc_ieq (fun _ => rfl) fun _ => ?_) fun _ => ?_) fun _ => ?_
  all_goals
    by_cases he : Sp.gerr b n w = 0
    · obtain ⟨p1, p2, p3, p4, p5⟩ := Sp.got_put hb he
      have hI : (Sp.inU (Sp.got b n w) ∧ List.length (Sp.got b n w) < 9223372036854775807) = True := eq_true ⟨p1, by omega⟩
      have hL : (List.length (Sp.got b n w) < 1000000) = True := eq_true p2
      by_cases hn : n = 0
      · have hg : Sp.got b n w = [] := List.length_eq_zero_iff.1 (by omega)
        have hs : Sp.same (Sp.got b n w) [] = true := by rw [hg]; rfl
        have hb1 : W.bnot true = false := rfl
        have hnT : (n = 0) = True := eq_true hn
        simp only [he, hB, hI, hL, h1, p3, p4, hnT, hs, hb1, ne_eq, not_true_eq_false, not_false_eq_true, false_implies, true_implies, true_and, and_true, Sp.ine_same, Sp.ieq_same, Sp.seq_same, brc_t, brc_f]
        rfl
      · have hb1 : W.bnot true = false := rfl
        have hnF : (n = 0) = False := eq_false hn
        simp only [he, hB, hI, hL, h1, p3, p4, hnF, hb1, ne_eq, not_true_eq_false, not_false_eq_true, false_implies, true_implies, true_and, and_true, Sp.ine_same, Sp.ieq_same, Sp.seq_same, Sp.same_same, brc_t, brc_f]
        rfl
    · have hne := Sp.ine_true he
      have hF : (Sp.gerr b n w = 0) = False := eq_false he
      simp only [hF, hB, h1, hne, ne_eq, not_true_eq_false, not_false_eq_true, false_implies, true_implies, true_and, and_true, Sp.ine_same, brc_t, brc_f]
      rfl
end Go.Proofs.Ytijahjkcbphmcaa
