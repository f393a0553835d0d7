/-
  Texts of a proof over the translated program: N4C.
-/
import Derived.Test.YtijahjkcbphmcaaN4CNf
set_option linter.unusedVariables false
namespace Sp
open Go Go.AbsM
theorem size_val {n w : Int} (h : 0 ≤ n ∧ n ≤ 65536 ∧ 0 ≤ w ∧ w ≤ 64) : size n w = (n * w + 7) / 8 := by unfold size; rw [if_pos (mayB_iff.2 h)]
theorem le_orAll {l : List Int} {x : Int} (h : x ∈ l) : x.toNat ≤ orAll l := by
  induction l with
  | nil => cases h
  | cons y r ih =>
    rcases List.mem_cons.1 h with rfl | h
    · exact Nat.left_le_or
    · exact Nat.le_trans (ih h) Nat.right_le_or
theorem fits_of {l : List Int} {w : Int} (hl : inU l) (h0 : 0 ≤ w) (h : width l ≤ w) : fits w.toNat l := fun x hx => by
  refine ⟨(hl x hx).1, Nat.lt_of_le_of_lt (le_orAll hx) ?_⟩
  have : bitLen (orAll l) ≤ w.toNat := by unfold width at h; omega
  exact bitLen_le.1 this
theorem fits_take {w : Nat} {l : List Int} (h : fits w l) (i : Nat) : fits w (l.take i) := fun x hx => h x (List.mem_of_mem_take hx)
/-- Numbers, a width: Nat's side of it. -/
structure Num (l : List Int) (W n : Nat) : Prop where
  w : W ≤ 64
  len : l.length = n
  n : n ≤ 65536
  fits : fits W l
theorem Num.mul {l : List Int} {W n i : Nat} (h : Num l W n) (hi : i ≤ n) : i * W ≤ n * W ∧ n * W ≤ 4194304 := by
  refine ⟨Nat.mul_le_mul_right _ hi, ?_⟩
  calc n * W ≤ 65536 * W := Nat.mul_le_mul_right _ h.n
    _ ≤ 65536 * 64 := Nat.mul_le_mul_left _ h.w
theorem Num.size {l : List Int} {W n : Nat} (h : Num l W n) : Sp.size (l.length : Int) (W : Int) = (((n * W + 7) / 8 : Nat) : Int) := by
  have h1 := h.w
  have h2 := h.n
  rw [h.len, size_val ⟨by omega, by omega, by omega, by omega⟩]
  omega
theorem putTo_nat {l : List Int} {W n : Nat} (h : Num l W n) (i : Nat) : putTo l (W : Int) (i : Int) = ofVal ((n * W + 7) / 8) (packN W (l.take i)) := by
  unfold putTo
  rw [h.size, Int.toNat_natCast, Int.toNat_natCast, Int.toNat_natCast]
theorem Num.lt {l : List Int} {W n i : Nat} (h : Num l W n) (hi : i ≤ n) : packN W (l.take i) < 2 ^ (i * W) := by
  have := packN_lt (fits_take h.fits i)
  rw [List.length_take, h.len, Nat.min_eq_left hi] at this; exact this
theorem Num.lt8 {l : List Int} {W n i : Nat} (h : Num l W n) (hi : i ≤ n) : packN W (l.take i) < 2 ^ (8 * ((n * W + 7) / 8)) :=
  Nat.lt_of_lt_of_le (h.lt hi) (Nat.pow_le_pow_right (by decide) (by have := (h.mul hi).1; omega))
theorem putTo_step {l : List Int} {W n i : Nat} (h : Num l W n) (hi : i < n) : putB (putTo l (W : Int) (i : Int)) ((i * W : Nat) : Int) (l.getD i 0) = putTo l (W : Int) ((i + 1 : Nat) : Int) := by
  rw [putTo_nat h, putTo_nat h, packN_take (by rw [h.len]; exact hi)]
  unfold putB
  rw [ofVal_len, valOf_ofVal (h.lt8 (by omega)), Int.toNat_natCast]
theorem putTo_end {l : List Int} {W n : Nat} (h : Num l W n) : putTo l (W : Int) (n : Int) = outP l (W : Int) := by
  unfold putTo outP
  have e : l.take n = l := List.take_of_length_le (by rw [h.len]; exact Nat.le_refl _)
  simp only [Int.toNat_natCast, e]
theorem bit_split (X k a : Nat) : (X >>> k) <<< a = ((X >>> k) % 2) <<< a ||| (X >>> (k + 1)) <<< (a + 1) := by
  apply Nat.eq_of_testBit_eq
  intro b
  have e2 : (2 : Nat) = 2 ^ 1 := rfl
  rw [e2]
  simp only [Nat.testBit_or, Nat.testBit_shiftLeft, Nat.testBit_shiftRight, Nat.testBit_mod_two_pow]
  by_cases h1 : a ≤ b
  · by_cases h2 : b = a
    · subst h2
      have : ¬ (b + 1 ≤ b) := by omega
      simp [this]
    · have h3 : a + 1 ≤ b := by omega
      have h4 : ¬ (b - a < 1) := by omega
      have h5 : k + 1 + (b - (a + 1)) = k + (b - a) := by omega
      simp [h1, h3, h4, h5]
  · have h3 : ¬ (a + 1 ≤ b) := by omega
    simp [h1, h3]
theorem widthTo_step {l : List Int} {i : Nat} (h : i < l.length) : widthTo l ((i + 1 : Nat) : Int) = ((bitLen (orAll (l.take i) ||| (l.getD i 0).toNat) : Nat) : Int) := by
  unfold widthTo width
  rw [Int.toNat_natCast, orAll_take h]
theorem bitLen_mono {a b : Nat} (h : a ≤ b) : bitLen a ≤ bitLen b := bitLen_le.2 (Nat.lt_of_le_of_lt h (bitLen_le.1 (Nat.le_refl _)))
end Sp
namespace Go.Proofs.Ytijahjkcbphmcaa
open Go.AbsM
theorem num_of {l : List Int} {W : Nat} (h : preP l (W : Int)) : Sp.Num l W l.length := by
  obtain ⟨h1, h2, h3, h4, h5⟩ := h
  exact ⟨by omega, rfl, h2, by rw [Int.toNat_natCast] at h5; exact h5⟩
theorem good17L : Goods Try.prog [ctr19, ctr23] := .cons good19 (.cons good23 .nil)
theorem good17D : GoodDs Try.prog [lctr41] := .cons good41 .nil
/-- The ways into the loop, of both. -/
theorem enterP {l : List Int} {w : Int} (hu : Sp.inU l) (hlen : l.length < 9223372036854775807) {f : FuncId} {u : Unit} {X : Prop} (k : preP l w → Sp.err l w = 0 → (W.rep (W.toNat (Sp.size (W.ofNat (W.len l)) w)) 0 : List Int) = Sp.putTo l w 0 → X) :
    brc (W.ilt w 0) (errV 1 = (ctrPut f).out (l, w, u)) (brc (W.igt w 64) (errV 1 = (ctrPut f).out (l, w, u)) ((Sp.inU l ∧ l.length < 9223372036854775807) ∧ brc (W.igt (Sp.width l) w) (errV 1 = (ctrPut f).out (l, w, u)) (brc (W.igt (W.ofNat (W.len l)) 65536) (errV 4 = (ctrPut f).out (l, w, u)) (True ∧ grd (W.ile 0 (Sp.size (W.ofNat (W.len l)) w)) (grd (W.ile (Sp.size (W.ofNat (W.len l)) w) (Sp.size (W.ofNat (W.len l)) w)) (grd (W.ile (Sp.size (W.ofNat (W.len l)) w) 9223372036854775807) (grd (W.ile (W.bys 1 (Sp.size (W.ofNat (W.len l)) w)) 281474976710656) X))))))) := by
  have out1 : ∀ e : Int, e ≠ 0 → Sp.err l w = e → errV e = (ctrPut f).out (l, w, u) := fun e he h => by
    show _ = (if Sp.err l w = 0 then _ else _)
    rw [h, if_neg he]
  have e0 : W.ofNat (W.len l) = (l.length : Int) := rfl
  rw [e0]
  refine brc_ilt (fun h => out1 1 (by decide) (if_pos (.inl h))) fun h1 => brc_igt (fun h => out1 1 (by decide) (if_pos (.inr (.inl h)))) fun h2 => ⟨⟨hu, hlen⟩, brc_igt (fun h => out1 1 (by decide) (if_pos (.inr (.inr h)))) fun h3 => brc_igt (fun h => out1 4 (by decide) ?_) fun h4 => ⟨trivial, ?_⟩⟩
  · unfold Sp.err; rw [if_neg (by omega), if_pos (by omega)]
  · obtain ⟨W0, rfl⟩ : ∃ W0 : Nat, w = W0 := ⟨w.toNat, by omega⟩
    have hp : preP l (W0 : Int) := ⟨hu, by omega, h1, h2, Sp.fits_of hu h1 h3⟩
    have hn := num_of hp
    have hm := hn.mul (Nat.le_refl _)
    have hs := hn.size
    refine grd_ile (by rw [hs]; omega) (grd_ile (Int.le_refl _) (grd_ile (by rw [hs]; omega) (grd_ile ?_ (k hp (by unfold Sp.err; rw [if_neg (by omega), if_neg (by omega)]) ?_))))
    · show ((1 : Nat) : Int) * _ ≤ _; rw [hs]; omega
    · have e1 : Sp.putTo l (W0 : Int) ((0 : Nat) : Int) = _ := Sp.putTo_nat hn 0
      show List.replicate (Sp.size (l.length : Int) (W0 : Int)).toNat (0 : Int) = Sp.putTo l (W0 : Int) ((0 : Nat) : Int)
      rw [e1, hs, Int.toNat_natCast]
      exact (Sp.ofVal_zero _).symm
theorem outOk0 {l : List Int} {w : Int} {f : FuncId} {u : Unit} (h : Sp.err l w = 0) : TV.tup [.own 5 (.int .u8) (asT (List Int) (Sp.outP l w)), .c (.a (.x (.int .i64 0)))] = (ctrPut f).out (l, w, u) := by
  show _ = (if Sp.err l w = 0 then _ else _)
  rw [if_pos h]
theorem good17 : GoodC Try.prog ctr17 := by
  refine good_loopD (fn := Try.f17) [6] [28] (fun i : List Int × Int × Int × List Int => (i.1.length - i.2.2.1).toNat) wide good17L good17D ⟨by kernel_rfl, by kernel_rfl, by kernel_rfl, by kernel_rfl⟩ (by kernel_rfl) (by kernel_rfl) (by kernel_rfl) (by kernel_rfl) (n := 45) (ls := [1, 6, 29, 30, 31]) (ks := [28]) (mk := mk17) (ψ := psi17) (id := 0) ?_ ?_
  · rintro ⟨l, w, i, b⟩ Φ ⟨⟨hp, h0, h1, hb⟩, hΦ⟩
    have hp : preP l w := hp
    simp only at h0 h1 hb hΦ
    obtain ⟨p1, p2, p3, p4, p5⟩ := id hp
    obtain ⟨W0, rfl⟩ : ∃ W0 : Nat, w = W0 := ⟨w.toNat, by omega⟩
    obtain ⟨n, rfl⟩ : ∃ n : Nat, i = n := ⟨i.toNat, by omega⟩
    have hn : Sp.Num l W0 l.length := num_of hp
    subst hb
    refine Eq.mpr (nf17s _ _ _ _ l W0 n _ Φ _) ?_
    refine brc_ilt (fun h => ?_) fun h => ?_
    · have h : n < l.length := by have : ((n : Nat) : Int) < ((l.length : Nat) : Int) := h; omega
      have hm := hn.mul (i := n + 1) h
      have hm2 := hn.mul (i := n) (by omega)
      have e0 : (n + 1) * W0 = n * W0 + W0 := by rw [Nat.add_mul, Nat.one_mul]
      have e1 : W.mul .i64 (n : Int) (W0 : Int) = ((n * W0 : Nat) : Int) := by
        have : (n : Int) * (W0 : Int) = ((n * W0 : Nat) : Int) := (Int.natCast_mul n W0).symm
        rw [W.mul_i64 (by rw [this]; omega) (by rw [this]; omega), this]
      have e2 : W.nth l (W.toNat (n : Int)) 0 = l.getD n 0 := rfl
      have e3 : W.add .i64 (n : Int) 1 = ((n + 1 : Nat) : Int) := by rw [W.add_i64 (by omega) (by omega)]; rfl
      have hg := Sp.inU_getD p1 h
      have hf := p5 (l.getD n 0) (by rw [List.getD_eq_getElem?_getD, List.getElem?_eq_getElem h]; exact List.getElem_mem h)
      have hlen : (Sp.putTo l (W0 : Int) (n : Int)).length = (l.length * W0 + 7) / 8 := by rw [Sp.putTo_nat hn, Sp.ofVal_len]
      rw [e1, e2, e3]
      refine grd_ile (by omega) (grd_nlt h ⟨⟨by rw [Sp.putTo_nat hn]; exact Sp.ofVal_bytes _ _, by rw [hlen]; omega, by omega, p3, p4, ?_, hg.1, hf.2⟩, (l, (W0 : Int), ((n + 1 : Nat) : Int), _), rfl, ?_, ⟨hp, ?_, ?_, Sp.putTo_step hn h⟩, hΦ⟩)
      · show ((n * W0 : Nat) : Int) + (W0 : Int) ≤ 8 * (((Sp.putTo l (W0 : Int) (n : Int)).length : Nat) : Int)
        rw [hlen]; omega
      · show ((l.length : Int) - ((n + 1 : Nat) : Int)).toNat < ((l.length : Int) - (n : Int)).toNat; omega
      · show 0 ≤ ((n + 1 : Nat) : Int); omega
      · show ((n + 1 : Nat) : Int) ≤ (l.length : Int); omega
    · have h : ((l.length : Nat) : Int) ≤ (n : Int) := h
      have : n = l.length := by omega
      subst this
      rw [Sp.putTo_end hn]; exact hΦ
  · intro d hd
    obtain ⟨l, w, u⟩ : List Int × Int × Unit := d
    obtain ⟨hu, hlen⟩ : Sp.inU l ∧ l.length < 9223372036854775807 := hd
    refine Eq.mpr (nf17 l w _) (enterP (f := 17) (u := u) hu hlen fun hp he hr => ⟨(l, w, 0, _), rfl, ⟨hp, Int.le_refl _, ?_, hr⟩, outOk0 he⟩)
    show (0 : Int) ≤ l.length; omega
theorem good20 : GoodC Try.prog ctr20 := by
  have hK := knownL_ok wide .nil blk20 noneK
  have inner : ∀ s Φ, loopP 26 [0, 3, 4] [] mk20 psi20i s Φ → Run Try.prog (.code (.block 2 (blkC (bodyOf Try.f20) 2))) s Φ := by
    refine run_loopB (lx := [0, 3, 4]) (kx := []) hK (fun i : List Int × Int × Int => (65 - i.2.1).toNat) (by kernel_rfl) (lamOk_free (by kernel_rfl)) ?_
    rintro ⟨l, w, i⟩ Φ ⟨⟨hl, hlen, h0, h1, h2, h3⟩, hΦ⟩
    simp only at hl hlen h0 h1 h2 h3 hΦ
    obtain ⟨n, rfl⟩ : ∃ n : Nat, i = n := ⟨i.toNat, by omega⟩
    have hn : n < l.length := by omega
    have en : Sp.nextI (n : Int) = ((n + 1 : Nat) : Int) := rfl
    rw [en] at h3 hΦ
    rw [Sp.widthTo_step hn] at h3 hΦ
    have hw0 : 0 ≤ Sp.widthTo l (n : Int) := Int.natCast_nonneg _
    obtain ⟨W0, rfl⟩ : ∃ W0 : Nat, w = W0 := ⟨w.toNat, by omega⟩
    have hx := Sp.inU_getD hl hn
    have ho : Sp.orAll (l.take n) < 2 ^ W0 := by
      have : Sp.bitLen (Sp.orAll (l.take n)) ≤ W0 := by
        have h2 : ((Sp.bitLen (Sp.orAll (l.take n)) : Nat) : Int) ≤ (W0 : Int) := h2
        omega
      exact Sp.bitLen_le.1 this
    have fin : (l.getD n 0).toNat < 2 ^ W0 → ((Sp.bitLen (Sp.orAll (l.take n) ||| (l.getD n 0).toNat) : Nat) : Int) = (W0 : Int) := fun h => by
      have := Sp.bitLen_le.2 (Nat.or_lt_two_pow ho h); omega
    refine Eq.mpr (nf20i _ _ _ _ l W0 n Φ _) ?_
    refine brc_ilt (fun h => ?_) fun h => ?_
    · have e1 : W.wrap .u64 (W0 : Int) = (W0 : Int) := W.wu64_in (by omega) (by omega)
      have e2 : W.nth l (W.toNat (n : Int)) 0 = (((l.getD n 0).toNat : Nat) : Int) := by show l.getD n 0 = _; omega
      rw [e1, e2, Sp.shr_nat (k := .u64) (by show W0 ≤ 64; omega)]
      refine grd_ile (by omega) (grd_nlt hn (grd_ile (by omega) (brc_ine (fun hne => ?_) fun heq => ?_)))
      · have hlt : ¬ (l.getD n 0).toNat < 2 ^ W0 := fun hh => hne (by
          rw [Nat.shiftRight_eq_div_pow, Nat.div_eq_of_lt hh]; rfl)
        have hb : W0 + 1 ≤ Sp.bitLen (l.getD n 0).toNat := Nat.lt_of_not_le fun hh => hlt (Sp.bitLen_le.1 hh)
        have hb2 := Sp.bitLen_mono (show (l.getD n 0).toNat ≤ Sp.orAll (l.take n) ||| (l.getD n 0).toNat from Nat.right_le_or)
        rw [W.add_i64 (by omega) (by omega)]
        refine ⟨(l, (W0 : Int) + 1, (n : Int)), rfl, ?_, ⟨hl, hlen, h0, h1, ?_, ?_⟩, ?_⟩
        · show (65 - ((W0 : Int) + 1)).toNat < (65 - (W0 : Int)).toNat; omega
        · show Sp.widthTo l (n : Int) ≤ (W0 : Int) + 1; omega
        · show (W0 : Int) + 1 ≤ Sp.widthTo l ((n + 1 : Nat) : Int)
          rw [Sp.widthTo_step hn]; omega
        · show Φ .normal (mkS 26 [(0, TV.l 39 (.int .u64) l), (3, TV.int .i64 (Sp.widthTo l ((n + 1 : Nat) : Int))), (4, TV.int .i64 (n : Int))] [])
          rw [Sp.widthTo_step hn]; exact hΦ
      · have hz : (l.getD n 0).toNat >>> W0 = 0 := by omega
        rw [Nat.shiftRight_eq_div_pow] at hz
        have hlt : (l.getD n 0).toNat < 2 ^ W0 := (Nat.div_eq_zero_iff_lt (Nat.two_pow_pos _)).1 hz
        rw [fin hlt] at hΦ; exact hΦ
    · have hlt : (l.getD n 0).toNat < 2 ^ W0 := by
        have : (2 : Nat) ^ 64 ≤ 2 ^ W0 := Nat.pow_le_pow_right (by decide) (by omega)
        have h64 : (2 : Nat) ^ 64 = 18446744073709551616 := rfl
        omega
      rw [fin hlt] at hΦ; exact hΦ
  have outer : ∀ s Φ, loopP 26 [0, 3, 4] [] mk20 psi20 s Φ → Run Try.prog (.code (.block 0 (blkC (bodyOf Try.f20) 0))) s Φ := by
    refine run_loopB (lx := [3]) (kx := []) hK (fun i : List Int × Int × Int => (i.1.length - i.2.2).toNat) (by kernel_rfl) ?_ ?_
    · refine lamOk_of (fun id c' hm ψ hψ => ?_) (fun c' hm => ?_)
      · have hids : (blocksOf (loopOf (blkC (bodyOf Try.f20) 0))).map (·.1) = [1, 2, 3] := by kernel_rfl
        have hc : c' = blkC (loopOf (blkC (bodyOf Try.f20) 0)) id := findB_mem (by rw [hids]; rfl) hm
        have hid : id ∈ [1, 2, 3] := by rw [← hids]; exact List.mem_map.2 ⟨_, hm, rfl⟩
        simp only [List.mem_cons, List.not_mem_nil, or_false] at hid
        rcases hid with rfl | rfl | rfl
        · cases hψ
        · cases hψ
          rw [hc]
          have : blkC (loopOf (blkC (bodyOf Try.f20) 0)) 2 = blkC (bodyOf Try.f20) 2 := by kernel_rfl
          rw [this]; exact inner
        · cases hψ
      · have : scopesOf (loopOf (blkC (bodyOf Try.f20) 0)) = [] := by kernel_rfl
        rw [this] at hm; cases hm
    rintro ⟨l, w, i⟩ Φ ⟨⟨hl, hlen, h0, h1, h2⟩, hΦ⟩
    simp only at hl hlen h0 h1 h2 hΦ
    obtain ⟨n, rfl⟩ : ∃ n : Nat, i = n := ⟨i.toNat, by omega⟩
    refine Eq.mpr (nf20s _ _ _ _ l w n Φ _) ?_
    refine brc_ilt (fun h => ?_) fun h => ?_
    · have h : n < l.length := by have : ((n : Nat) : Int) < ((l.length : Nat) : Int) := h; omega
      have e3 : W.add .i64 (n : Int) 1 = ((n + 1 : Nat) : Int) := by rw [W.add_i64 (by omega) (by omega)]; rfl
      refine ⟨(l, w, (n : Int)), rfl, ⟨hl, hlen, h0, ?_, ?_, ?_⟩, ?_⟩
      · show (n : Int) < l.length; omega
      · show Sp.widthTo l (n : Int) ≤ w; omega
      · show w ≤ Sp.widthTo l ((n + 1 : Nat) : Int)
        rw [h2, Sp.widthTo_step h]
        have := Sp.bitLen_mono (show Sp.orAll (l.take n) ≤ Sp.orAll (l.take n) ||| (l.getD n 0).toNat from Nat.left_le_or)
        show ((Sp.bitLen (Sp.orAll (l.take n)) : Nat) : Int) ≤ _
        omega
      · show ∃ j, mkS 26 [(0, TV.l 39 (.int .u64) l), (3, TV.int .i64 (Sp.widthTo l ((n + 1 : Nat) : Int))), (4, TV.int .i64 (W.add .i64 (n : Int) 1))] [] = mk20 j ∧ _ ∧ psi20 j Φ
        rw [e3]
        refine ⟨(l, _, ((n + 1 : Nat) : Int)), rfl, ?_, ⟨hl, hlen, ?_, ?_, rfl⟩, hΦ⟩
        · show ((l.length : Int) - ((n + 1 : Nat) : Int)).toNat < ((l.length : Int) - (n : Int)).toNat; omega
        · show 0 ≤ ((n + 1 : Nat) : Int); omega
        · show ((n + 1 : Nat) : Int) ≤ (l.length : Int); omega
    · have h : ((l.length : Nat) : Int) ≤ (n : Int) := h
      have : n = l.length := by omega
      subst this
      have e : Sp.widthTo l (l.length : Int) = Sp.width l := by unfold Sp.widthTo; rw [Int.toNat_natCast, List.take_length]
      rw [h2, e]; exact hΦ
  refine good_by (blk := blk20) (lab := noneK) (fn := Try.f20) wide .nil ⟨by kernel_rfl, by kernel_rfl, by kernel_rfl, by kernel_rfl⟩ (lamOk_body (by kernel_rfl) (by kernel_rfl) (fun id ψ h => ?_) (fun l rest ψ _ hl => by cases hl)) fun d hd => ?_
  · have h : blk20 id = some ψ := h
    unfold blk20 at h
    split at h
    · rename_i hb
      have := Nat.eq_of_beq_eq_true hb
      subst this
      cases h; exact outer
    · obtain ⟨rfl, rfl⟩ := one_some h
      exact inner
  · obtain ⟨l, x⟩ : List Int × Unit := d
    obtain ⟨hl, hlen⟩ : Sp.inU l ∧ l.length < 9223372036854775807 := hd
    refine Eq.mpr (nf20 l _) ⟨(l, 0, 0), rfl, ⟨hl, hlen, Int.le_refl _, ?_, rfl⟩, rfl⟩
    show (0 : Int) ≤ l.length; omega
end Go.Proofs.Ytijahjkcbphmcaa
