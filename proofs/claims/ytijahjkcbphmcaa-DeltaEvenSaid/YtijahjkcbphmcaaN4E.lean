/-
  Texts of a proof over the translated program: N4E.
-/
import Derived.Test.YtijahjkcbphmcaaN4ENf
set_option linter.unusedVariables false
namespace Sp
open Go Go.AbsM
theorem two1 : (2 : Nat) = 2 ^ 1 := rfl
/-- A bit is read. -/
theorem read_bit {b : List Int} {A : Nat} (hb : bytes b) (hA : A / 8 < b.length) : W.and .u8 (W.shr .u8 (W.nth b (A / 8) 0) ((A % 8 : Nat) : Int)) 1 = (((valOf b >>> A) % 2 : Nat) : Int) := by
  have hm : A % 8 < 8 := Nat.mod_lt _ (by decide)
  have e1 : W.nth b (A / 8) 0 = ((valOf b >>> (8 * (A / 8)) % 256 : Nat) : Int) := get_val hb hA
  have hlt : valOf b >>> (8 * (A / 8)) % 256 < 256 := Nat.mod_lt _ (by decide)
  have hsh : (valOf b >>> (8 * (A / 8)) % 256) >>> (A % 8) < 256 := by
    rw [Nat.shiftRight_eq_div_pow]; exact Nat.lt_of_le_of_lt (Nat.div_le_self _ _) hlt
  rw [e1, shr_nat (k := .u8) (by show A % 8 ≤ 8; omega)]
  have := and_u8 (x := (valOf b >>> (8 * (A / 8)) % 256) >>> (A % 8)) (y := 1) hsh (by decide)
  rw [Nat.and_one_is_mod] at this
  have e2 : ((valOf b >>> (8 * (A / 8)) % 256) >>> (A % 8)) % 2 = (valOf b >>> A) % 2 := by
    apply Nat.eq_of_testBit_eq
    intro i
    rw [two1]
    simp only [Nat.testBit_mod_two_pow, Nat.testBit_shiftRight, tb_mod]
    by_cases hi : i < 1
    · have h0 : i = 0 := by omega
      subst h0
      have h1 : 8 * (A / 8) + A % 8 = A := Nat.div_add_mod A 8
      simp [hm, h1]
    · simp [hi]
  rw [e2] at this; exact this
theorem bit_next (V a k : Nat) : (V >>> a) % 2 ^ (k + 1) = (V >>> a) % 2 ^ k ||| ((V >>> (a + k)) % 2) <<< k := by
  apply Nat.eq_of_testBit_eq
  intro i
  have e : (V >>> (a + k)) % 2 = (V >>> (a + k)) % 2 ^ 1 := rfl
  rw [e]
  simp only [Nat.testBit_or, Nat.testBit_shiftLeft, Nat.testBit_mod_two_pow, Nat.testBit_shiftRight]
  by_cases h : i < k
  · have h1 : i < k + 1 := by omega
    have h2 : ¬ (k ≤ i) := by omega
    simp [h, h1, h2]
  · by_cases h1 : i = k
    · subst h1; simp
    · have h2 : ¬ (i < k + 1) := by omega
      have h3 : k ≤ i := by omega
      have h4 : ¬ (i - k < 1) := by omega
      simp [h, h2, h3, h4]
theorem getB_nat (b : List Int) (a k : Nat) : getB b (a : Int) (k : Int) = (((valOf b >>> a) % 2 ^ k : Nat) : Int) := rfl
/-- One bit more. -/
theorem getB_one {b : List Int} {a k : Nat} (hk : k < 64) (h : (valOf b >>> (a + k)) % 2 = 1) : W.or .u64 (getB b (a : Int) (k : Int)) (W.shl .u64 1 (k : Int)) = getB b (a : Int) ((k + 1 : Nat) : Int) := by
  have h1 : (valOf b >>> a) % 2 ^ k < 2 ^ k := Nat.mod_lt _ (Nat.two_pow_pos _)
  have h2 : (2 : Nat) ^ k ≤ 2 ^ 63 := Nat.pow_le_pow_right (by decide) (by omega)
  have h3 : (2 : Nat) ^ 63 = 9223372036854775808 := rfl
  have e1 : W.shl .u64 1 (k : Int) = ((1 <<< k : Nat) : Int) := by
    have := shl_u64 (U := 1) (s := k) (by omega)
    have h4 : 1 <<< k = 2 ^ k := by rw [Nat.shiftLeft_eq, Nat.one_mul]
    rw [h4] at this ⊢
    rw [Nat.mod_eq_of_lt (by omega)] at this; exact this
  have h4 : 1 <<< k = 2 ^ k := by rw [Nat.shiftLeft_eq, Nat.one_mul]
  rw [e1, getB_nat, getB_nat, or_u64 (by omega) (by rw [h4]; omega), bit_next, h]
theorem getB_none {b : List Int} {a k : Nat} (h : (valOf b >>> (a + k)) % 2 = 0) : getB b (a : Int) (k : Int) = getB b (a : Int) ((k + 1 : Nat) : Int) := by
  rw [getB_nat, getB_nat, bit_next, h, Nat.zero_shiftLeft, Nat.or_zero]
/-- Bytes, how many numbers, a width: Nat's side. -/
structure Fit (b : List Int) (n w : Nat) : Prop where
  hw : w ≤ 64
  hn : n ≤ 65536
  hb : bytes b
  len : b.length = (n * w + 7) / 8
theorem Fit.mul {b : List Int} {n w i : Nat} (h : Fit b n w) (hi : i ≤ n) : i * w ≤ n * w ∧ n * w ≤ 4194304 := by
  refine ⟨Nat.mul_le_mul_right _ hi, ?_⟩
  calc n * w ≤ 65536 * w := Nat.mul_le_mul_right _ h.hn
    _ ≤ 65536 * 64 := Nat.mul_le_mul_left _ h.hw
theorem fit_of {b : List Int} {n w : Int} (h : fitB b n w) : ∃ N M : Nat, n = N ∧ w = M ∧ Fit b N M := by
  obtain ⟨h1, h2, h3⟩ := h
  have h4 := mayB_iff.1 h2
  obtain ⟨N, rfl⟩ : ∃ N : Nat, n = N := ⟨n.toNat, by omega⟩
  obtain ⟨M, rfl⟩ : ∃ M : Nat, w = M := ⟨w.toNat, by omega⟩
  refine ⟨N, M, rfl, rfl, by omega, by omega, h1, ?_⟩
  rw [size_val h4] at h3
  have : ((N * M : Nat) : Int) = (N : Int) * (M : Int) := Int.natCast_mul N M
  rw [← this] at h3
  omega
theorem got_len (b : List Int) (N M : Nat) : (got b (N : Int) (M : Int)).length = N := by
  unfold got; rw [unpackN_len, Int.toNat_natCast]
theorem got_get {b : List Int} {N M i : Nat} (h : i < N) : (got b (N : Int) (M : Int)).getD i 0 = getB b ((i * M : Nat) : Int) (M : Int) := by
  unfold got; rw [getB_nat]
  simp only [Int.toNat_natCast]
  exact unpackN_get M N (valOf b) i h
theorem gotN_step {b : List Int} {N M i : Nat} (h : i < N) : gotN b (N : Int) (M : Int) ((i + 1 : Nat) : Int) = gotN b (N : Int) (M : Int) (i : Int) ++ [getB b ((i * M : Nat) : Int) (M : Int)] := by
  unfold gotN
  simp only [Int.toNat_natCast]
  have hl : i < (got b (N : Int) (M : Int)).length := by rw [got_len]; exact h
  rw [List.take_add_one, List.getElem?_eq_getElem hl]
  congr 1
  have := got_get (b := b) (M := M) h
  rw [List.getD_eq_getElem?_getD, List.getElem?_eq_getElem hl] at this
  show [_] = [_]
  rw [← this]; rfl
theorem gotN_all (b : List Int) (N M : Nat) : gotN b (N : Int) (M : Int) (N : Int) = got b (N : Int) (M : Int) := by
  unfold gotN
  exact List.take_of_length_le (by rw [got_len, Int.toNat_natCast]; exact Nat.le_refl _)
theorem gotN_len {b : List Int} {N M i : Nat} (h : i ≤ N) : (gotN b (N : Int) (M : Int) (i : Int)).length = i := by
  unfold gotN; rw [List.length_take, got_len, Int.toNat_natCast]; omega
theorem gotTo_eq (b : List Int) (N M i : Nat) : gotTo b (N : Int) (M : Int) (i : Int) = gotN b (N : Int) (M : Int) (i : Int) ++ List.replicate (N - i) 0 := by
  unfold gotTo gotN; simp only [Int.toNat_natCast]
theorem set_app (l : List Int) (k : Nat) (x : Int) : (l ++ List.replicate (k + 1) 0).set l.length x = (l ++ [x]) ++ List.replicate k 0 := by
  rw [List.set_append_right _ _ (Nat.le_refl _), Nat.sub_self, List.replicate_succ, List.set_cons_zero, List.append_assoc]; rfl
theorem gotTo_step {b : List Int} {N M i : Nat} (h : i < N) : (gotTo b (N : Int) (M : Int) (i : Int)).set i (getB b ((i * M : Nat) : Int) (M : Int)) = gotTo b (N : Int) (M : Int) ((i + 1 : Nat) : Int) := by
  rw [gotTo_eq, gotTo_eq, gotN_step h]
  obtain ⟨k, hk⟩ : ∃ k, N - i = k + 1 := ⟨N - i - 1, by omega⟩
  have hk2 : N - (i + 1) = k := by omega
  have hl := gotN_len (b := b) (M := M) (show i ≤ N by omega)
  rw [hk, hk2]
  have := set_app (gotN b (N : Int) (M : Int) (i : Int)) k (getB b ((i * M : Nat) : Int) (M : Int))
  rw [hl] at this; exact this
theorem gotTo_all (b : List Int) (N M : Nat) : gotTo b (N : Int) (M : Int) (N : Int) = got b (N : Int) (M : Int) := by
  rw [gotTo_eq, gotN_all, Nat.sub_self, List.replicate_zero, List.append_nil]
theorem Fit.val {b : List Int} {n w : Nat} (h : Fit b n w) : valOf b < 2 ^ (8 * b.length) := valOf_lt b
theorem Fit.rest {b : List Int} {n w : Nat} (h : Fit b n w) : (valOf b >>> (n * w)) % 2 ^ (8 * b.length - n * w) = valOf b >>> (n * w) := by
  have hm := (h.mul (Nat.le_refl _)).2
  have hl := h.len
  exact Nat.mod_eq_of_lt (shr_lt (valOf_lt b) (by omega))
theorem gerr_fit {b : List Int} {n w : Nat} (h : Fit b n w) : gerr b (n : Int) (w : Int) = if valOf b >>> (n * w) ≠ 0 then 2 else 0 := by
  have h1 := h.hw
  have h2 := h.hn
  have hs : size (n : Int) (w : Int) = (b.length : Int) := by
    rw [size_val ⟨by omega, by omega, by omega, by omega⟩, h.len, ← Int.natCast_mul]; omega
  have hm : mayB (n : Int) (w : Int) = true := mayB_iff.2 ⟨by omega, by omega, by omega, by omega⟩
  unfold gerr
  rw [hm, if_neg (by decide), hs, if_neg (by omega), if_neg (by omega), ← Int.natCast_mul, Int.toNat_natCast]
end Sp
namespace Go.Proofs.Ytijahjkcbphmcaa
open Go.AbsM
theorem good21L' : Goods Try.prog [ctr43, ctr23, ctr44] := .cons good43 (.cons good23 (.cons good44 .nil))
theorem mulN {i w : Nat} (h : i * w ≤ 4194304) : W.mul .i64 (i : Int) (w : Int) = ((i * w : Nat) : Int) := by
  have : (i : Int) * (w : Int) = ((i * w : Nat) : Int) := (Int.natCast_mul i w).symm
  rw [W.mul_i64 (by rw [this]; omega) (by rw [this]; omega), this]
theorem fitB_of {b : List Int} {n w : Int} (hb : Sp.bytes b) (hm : Sp.mayB n w = true) (h1 : Sp.size n w ≤ (b.length : Int)) (h2 : (b.length : Int) ≤ Sp.size n w) : Sp.fitB b n w := ⟨hb, hm, by omega⟩
theorem good21 : GoodC Try.prog ctr21 := by
  refine good_loop (fn := Try.f21) [9] [39] (fun i : List Int × Int × Int × Int × List Int => (i.2.1 - i.2.2.2.1).toNat) wide good21L' ⟨by kernel_rfl, by kernel_rfl, by kernel_rfl, by kernel_rfl⟩ (by kernel_rfl) (by kernel_rfl) (by kernel_rfl) (by kernel_rfl) (n := 56) (ls := [0, 2, 9, 41, 42]) (ks := [39]) (mk := mk21) (ψ := psi21) (id := 0) ?_ ?_
  · rintro ⟨b, n, w, i, xs⟩ Φ ⟨⟨hf, h0, h1, hx⟩, hΦ⟩
    simp only at hf h0 h1 hx hΦ
    have hfb := hf
    obtain ⟨N, M, rfl, rfl, hF⟩ := Sp.fit_of hf
    obtain ⟨I, rfl⟩ : ∃ I : Nat, i = I := ⟨i.toNat, by omega⟩
    refine Eq.mpr (nf21s _ _ _ _ b N M I xs Φ _) ?_
    refine brc_ilt (fun h => ?_) fun h => ?_
    · have hI : I < N := by omega
      have hm := hF.mul (i := I + 1) hI
      have e0 : (I + 1) * M = I * M + M := by rw [Nat.add_mul, Nat.one_mul]
      have hl := hF.len
      have hw := hF.hw
      have e3 : W.add .i64 (I : Int) 1 = ((I + 1 : Nat) : Int) := by rw [W.add_i64 (by have := hF.hn; omega) (by have := hF.hn; omega)]; rfl
      have hxl : xs.length = N := by rw [hx, Sp.gotTo_eq, List.length_append, Sp.gotN_len (by omega), List.length_replicate]; omega
      rw [mulN (by omega), e3]
      refine ⟨⟨hF.hb, by omega, by omega, by omega, by omega, ?_⟩, grd_ile (by omega) (grd_nlt (by show I < xs.length; omega) (grd_nlt (by show I < xs.length; omega) ⟨(b, (N : Int), (M : Int), ((I + 1 : Nat) : Int), _), rfl, ?_, ⟨hfb, ?_, ?_, ?_⟩, hΦ⟩))⟩
      · show ((I * M : Nat) : Int) + (M : Int) ≤ 8 * ((b.length : Nat) : Int); omega
      · show ((N : Int) - ((I + 1 : Nat) : Int)).toNat < ((N : Int) - (I : Int)).toNat; omega
      · show 0 ≤ ((I + 1 : Nat) : Int); omega
      · show ((I + 1 : Nat) : Int) ≤ (N : Int); omega
      · show xs.set I _ = _
        rw [hx]; exact Sp.gotTo_step hI
    · have : I = N := by omega
      subst this
      rw [hx, Sp.gotTo_all]; exact hΦ
  · intro d hd
    obtain ⟨b, n, w, u⟩ : List Int × Int × Int × Unit := d
    obtain ⟨hb, hlen⟩ : Sp.bytes b ∧ b.length < 9223372036854775807 := hd
    have out1 : ∀ e : Int, e ≠ 0 → Sp.gerr b n w = e → errV e = ctr21.out (b, n, w, u) := fun e he h => by
      show _ = (if Sp.gerr b n w = 0 then _ else _)
      rw [h, if_neg he]
    refine Eq.mpr (nf21 b n w _) ⟨trivial, brc_bnot (fun h => out1 1 (by decide) (if_pos h)) fun hm => ⟨trivial, ?_⟩⟩
    have e0 : W.ofNat (W.len b) = (b.length : Int) := rfl
    rw [e0]
    refine brc_ilt (fun h => out1 5 (by decide) ?_) fun h1 => brc_igt (fun h => out1 4 (by decide) ?_) fun h2 => ?_
    · unfold Sp.gerr; rw [hm, if_neg (by decide), if_pos h]
    · unfold Sp.gerr; rw [hm, if_neg (by decide), if_neg (by omega), if_pos h]
    · have hfb := fitB_of hb hm h1 h2
      have hsz : Sp.size n w = (b.length : Int) := by omega
      obtain ⟨N, M, rfl, rfl, hF⟩ := Sp.fit_of hfb
      have hmu := (hF.mul (Nat.le_refl _)).2
      have hl := hF.len
      have hnn := hF.hn
      have e1 : W.mul .i64 (b.length : Int) 8 = ((8 * b.length : Nat) : Int) := by rw [W.mul_i64 (by omega) (by omega)]; omega
      have e2 : W.sub .i64 ((8 * b.length : Nat) : Int) ((N * M : Nat) : Int) = ((8 * b.length - N * M : Nat) : Int) := by rw [W.sub_i64 (by omega) (by omega)]; omega
      have e3 : Sp.getB b ((N * M : Nat) : Int) ((8 * b.length - N * M : Nat) : Int) = ((Sp.valOf b >>> (N * M) : Nat) : Int) := by rw [Sp.getB_nat, hF.rest]
      rw [hsz, mulN hmu, e1, e2, e3]
      have hge := Sp.gerr_fit hF
      refine ⟨⟨hb, by omega, by omega, by omega, by omega, by show ((N * M : Nat) : Int) + ((8 * b.length - N * M : Nat) : Int) ≤ 8 * ((b.length : Nat) : Int); omega⟩, brc_ine (fun h => out1 2 (by decide) (by rw [hge, if_pos (fun hz => h (by rw [hz]; rfl))])) fun h => ?_⟩
      have hz : Sp.valOf b >>> (N * M) = 0 := Int.ofNat.inj h
      rw [hz, if_neg (by decide)] at hge
      refine grd_ile (by omega) (grd_ile (Int.le_refl _) (grd_ile (by omega) (grd_ile (by show ((8 : Nat) : Int) * (N : Int) ≤ _; omega) ⟨(b, (N : Int), (M : Int), 0, List.replicate N (0 : Int)), ?_, ⟨hfb, Int.le_refl _, by show (0 : Int) ≤ (N : Int); omega, ?_⟩, ?_⟩)))
      · show mkS 56 [(0, TV.l 5 (.int .u8) b), (2, TV.int .i64 (M : Int)), (9, TV.h 39), (41, TV.int .i64 ((List.replicate (N : Int).toNat (0 : Int)).length : Int)), (42, TV.int .i64 0)] _ = _
        rw [List.length_replicate, Int.toNat_natCast]; rfl
      · show List.replicate N (0 : Int) = Sp.gotTo b (N : Int) (M : Int) ((0 : Nat) : Int)
        rw [Sp.gotTo_eq]; rfl
      · show _ = (if Sp.gerr b (N : Int) (M : Int) = 0 then _ else _)
        rw [if_pos hge]
end Go.Proofs.Ytijahjkcbphmcaa
