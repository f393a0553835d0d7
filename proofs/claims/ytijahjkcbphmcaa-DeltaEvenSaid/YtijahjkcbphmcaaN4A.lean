/-
  Texts of a proof over the translated program: N4A.
-/
import Derived.Test.YtijahjkcbphmcaaN4ANf
import Derived.Test.YtijahjkcbphmcaaN4Sp2
set_option linter.unusedVariables false
namespace Sp
open Go Go.AbsM
theorem mayB_iff {n w : Int} : mayB n w = true ↔ (0 ≤ n ∧ n ≤ 65536 ∧ 0 ≤ w ∧ w ≤ 64) := decide_eq_true_iff
theorem mayB_not {n w : Int} : mayB n w = false ↔ ¬ (0 ≤ n ∧ n ≤ 65536 ∧ 0 ≤ w ∧ w ≤ 64) := decide_eq_false_iff_not
theorem mul_le {n w : Int} (h : 0 ≤ n ∧ n ≤ 65536 ∧ 0 ≤ w ∧ w ≤ 64) : 0 ≤ n * w ∧ n * w ≤ 4194304 := by
  refine ⟨Int.mul_nonneg h.1 h.2.2.1, ?_⟩
  calc n * w ≤ 65536 * w := Int.mul_le_mul_of_nonneg_right h.2.1 h.2.2.1
    _ ≤ 65536 * 64 := Int.mul_le_mul_of_nonneg_left h.2.2.2 (by omega)
theorem size_eq {n w : Int} (h : 0 ≤ n ∧ n ≤ 65536 ∧ 0 ≤ w ∧ w ≤ 64) : W.quo .i64 (W.add .i64 (W.mul .i64 n w) 7) 8 = size n w := by
  have hm := mul_le h
  rw [W.mul_i64 (by omega) (by omega), W.add_i64 (by omega) (by omega), W.quo_i64 (by omega) (by omega) (by omega)]
  unfold size; rw [if_pos (mayB_iff.2 h)]
theorem size_zero {n w : Int} (h : ¬ (0 ≤ n ∧ n ≤ 65536 ∧ 0 ≤ w ∧ w ≤ 64)) : size n w = 0 := by
  unfold size; rw [if_neg (by rw [mayB_not.2 h]; decide)]
theorem bitLen_shr {x s : Nat} (h : 2 ^ s ≤ x) : bitLen x = bitLen (x >>> s) + s := by
  have hx : x ≠ 0 := by have := Nat.two_pow_pos s; omega
  have hx2 : x >>> s ≠ 0 := by
    rw [Nat.shiftRight_eq_div_pow]
    have := Nat.div_pos h (Nat.two_pow_pos s); omega
  unfold bitLen
  rw [if_neg hx, if_neg hx2]
  have h1 : (x >>> s).log2 + s = x.log2 := by
    apply Eq.symm
    rw [Nat.log2_eq_iff hx]
    have a1 := Nat.log2_self_le hx2
    have a2 := Nat.lt_log2_self (n := x >>> s)
    rw [Nat.shiftRight_eq_div_pow] at a1 a2 ⊢
    constructor
    · rw [Nat.pow_add]
      calc 2 ^ (x / 2 ^ s).log2 * 2 ^ s ≤ (x / 2 ^ s) * 2 ^ s := Nat.mul_le_mul_right _ a1
        _ ≤ x := Nat.div_mul_le_self x _
    · have e : (x / 2 ^ s).log2 + s + 1 = ((x / 2 ^ s).log2 + 1) + s := by omega
      rw [e, Nat.pow_add]
      exact (Nat.div_lt_iff_lt_mul (Nat.two_pow_pos s)).1 a2
  omega
theorem tab8_ok : ∀ i : Fin 256, (tab8.getD i.val 0).toNat = bitLen i.val := by decide +kernel
theorem tab8_get {i : Nat} (h : i < 256) : W.u8 (W.nth tab8 i (0 : UInt8)) = ((bitLen i : Nat) : Int) := by
  have := tab8_ok ⟨i, h⟩
  show (((tab8.getD i 0).toNat : Nat) : Int) = _
  rw [this]
theorem bitLen_8 {i : Nat} (h : i < 256) : bitLen i ≤ 8 := bitLen_le.2 h
theorem orAll_lt {l : List Int} (h : inU l) : orAll l < 2 ^ 64 := by
  induction l with
  | nil => decide
  | cons x r ih =>
    have hx := h x List.mem_cons_self
    exact Nat.or_lt_two_pow (by show x.toNat < 18446744073709551616; omega) (ih fun y hy => h y (List.mem_cons_of_mem _ hy))
theorem orAll_app : ∀ (a b : List Int), orAll (a ++ b) = orAll a ||| orAll b
  | [], b => by simp [orAll]
  | x :: a, b => by rw [List.cons_append, orAll, orAll_app a b, orAll, Nat.or_assoc]
theorem orAll_take {l : List Int} {i : Nat} (h : i < l.length) : orAll (l.take (i + 1)) = orAll (l.take i) ||| (l.getD i 0).toNat := by
  have e : l.take (i + 1) = l.take i ++ [l.getD i 0] := by
    rw [List.take_add_one, List.getElem?_eq_getElem h, List.getD_eq_getElem?_getD, List.getElem?_eq_getElem h]; rfl
  rw [e, orAll_app]; simp [orAll]
theorem inU_take {l : List Int} (h : inU l) (i : Nat) : inU (l.take i) := fun x hx => h x (List.mem_of_mem_take hx)
theorem inU_getD {l : List Int} (h : inU l) {i : Nat} (hi : i < l.length) : 0 ≤ l.getD i 0 ∧ l.getD i 0 < 18446744073709551616 := by
  rw [List.getD_eq_getElem?_getD, List.getElem?_eq_getElem hi]; exact h _ (List.getElem_mem hi)
end Sp
namespace Go.Proofs.Ytijahjkcbphmcaa
open Go.AbsM
theorem good43 : GoodC Try.prog ctr43 := by
  refine good_plain (fn := Try.f43) wide .nil ⟨by kernel_rfl, by kernel_rfl, by kernel_rfl, by kernel_rfl⟩ (by kernel_rfl) fun d hd => Blk.un ?_
  obtain ⟨n, w, x⟩ : Int × Int × Unit := d
  refine Blk.nf (nf43 n w _) ?_
  have no : ¬ (0 ≤ n ∧ n ≤ 65536 ∧ 0 ≤ w ∧ w ≤ 64) → TV.bool false = TV.bool (Sp.mayB n w) := fun h => congrArg TV.bool (Sp.mayB_not.2 h).symm
  refine brc_ige (fun h1 => brc_ile (fun h2 => brc_ige (fun h3 => ?_) fun h3 => no (by omega)) fun h2 => no (by omega)) fun h1 => no (by omega)
  refine congrArg TV.bool ?_
  unfold W.ile Sp.mayB
  by_cases h : w ≤ 64
  · rw [decide_eq_true h, decide_eq_true ⟨h1, h2, h3, h⟩]
  · rw [decide_eq_false h, decide_eq_false (fun hh => h hh.2.2.2)]
theorem good43L : Goods Try.prog [ctr43] := .cons good43 .nil
theorem good23 : GoodC Try.prog ctr23 := by
  refine good_plain (fn := Try.f23) wide good43L ⟨by kernel_rfl, by kernel_rfl, by kernel_rfl, by kernel_rfl⟩ (by kernel_rfl) fun d hd => Blk.un ?_
  obtain ⟨n, w, x⟩ : Int × Int × Unit := d
  refine Blk.nf (nf23 n w _) ⟨trivial, brc_bnot (fun h => ?_) fun h => ?_⟩
  · exact congrArg (TV.int .i64) (Sp.size_zero (Sp.mayB_not.1 h)).symm
  · exact congrArg (TV.int .i64) (Sp.size_eq (Sp.mayB_iff.1 h))
theorem good25 : GoodC Try.prog ctr25 := by
  refine good_plain (fn := Try.f25) wide .nil ⟨by kernel_rfl, by kernel_rfl, by kernel_rfl, by kernel_rfl⟩ (by kernel_rfl) fun d hd => Blk.un ?_
  obtain ⟨n, w, x⟩ : Int × Int × Unit := d
  have no : ¬ (0 ≤ n ∧ n ≤ 65536 ∧ 0 ≤ w ∧ w ≤ 64) → TV.int .i64 0 = TV.int .i64 (Sp.size n w) := fun h => congrArg (TV.int .i64) (Sp.size_zero h).symm
  refine Blk.nf (nf25 n w _) ?_
  refine brc_ilt (fun h => no (by omega)) fun h1 => brc_igt (fun h => no (by omega)) fun h2 => brc_ilt (fun h => no (by omega)) fun h3 => brc_igt (fun h => no (by omega)) fun h4 => ?_
  exact congrArg (TV.int .i64) (Sp.size_eq ⟨by omega, by omega, by omega, by omega⟩)
theorem len_end {y k : Nat} {x : Nat} (hy : y < 256) (hk : k ≤ 56) (he : Sp.bitLen x = Sp.bitLen y + k) {c : Int} (hc : c = (k : Int)) :
    grd (W.ile 0 (W.wrap .u8 (y : Int))) (grd (W.nlt (W.toNat (W.wrap .u8 (y : Int))) 256) (TV.int .i64 (W.add .i64 c (W.wrap .i64 (W.u8 (W.nth Sp.tab8 (W.toNat (W.wrap .u8 (y : Int))) (0 : UInt8))))) = TV.int .i64 (Sp.blen (x : Int)))) := by
  have e1 : W.wrap .u8 (y : Int) = (y : Int) := W.wu8_in (by omega) (by omega)
  have e2 : W.toNat (y : Int) = y := rfl
  have h8 := Sp.bitLen_8 hy
  rw [e1, e2, Sp.tab8_get hy, W.wi64_in (by omega) (by omega), hc, W.add_i64 (by omega) (by omega)]
  refine grd_ile (by omega) (grd_nlt hy ?_)
  refine congrArg (TV.int .i64) ?_
  show ((k : Nat) : Int) + ((Sp.bitLen y : Nat) : Int) = ((Sp.bitLen (x : Int).toNat : Nat) : Int)
  rw [Int.toNat_natCast, he]; omega
theorem good42 : GoodC Try.prog ctr42 := by
  refine good_plain (fn := Try.f42) wide .nil ⟨by kernel_rfl, by kernel_rfl, by kernel_rfl, by kernel_rfl⟩ (by kernel_rfl) fun d hd => Blk.un ?_
  obtain ⟨x, u⟩ : Int × Unit := d
  obtain ⟨h0, h1⟩ : 0 ≤ x ∧ x < 18446744073709551616 := hd
  obtain ⟨X, rfl⟩ : ∃ X : Nat, x = X := ⟨x.toNat, by omega⟩
  refine Blk.nf (nf42 _ _) ?_
  have s32 : W.shr .u64 (X : Int) 32 = ((X >>> 32 : Nat) : Int) := Sp.shr_nat (k := .u64) (s := 32) (by decide)
  have s16 : ∀ Y : Nat, W.shr .u64 (Y : Int) 16 = ((Y >>> 16 : Nat) : Int) := fun Y => Sp.shr_nat (k := .u64) (s := 16) (by decide)
  have s8 : ∀ Y : Nat, W.shr .u64 (Y : Int) 8 = ((Y >>> 8 : Nat) : Int) := fun Y => Sp.shr_nat (k := .u64) (s := 8) (by decide)
  simp only [s32, s16, s8]
  have d32 : ∀ Y : Nat, Y >>> 32 = Y / 4294967296 := fun Y => Nat.shiftRight_eq_div_pow Y 32
  have d16 : ∀ Y : Nat, Y >>> 16 = Y / 65536 := fun Y => Nat.shiftRight_eq_div_pow Y 16
  have d8 : ∀ Y : Nat, Y >>> 8 = Y / 256 := fun Y => Nat.shiftRight_eq_div_pow Y 8
  have b32 : ∀ Y : Nat, 4294967296 ≤ Y → Sp.bitLen Y = Sp.bitLen (Y >>> 32) + 32 := fun Y h => Sp.bitLen_shr (s := 32) h
  have b16 : ∀ Y : Nat, 65536 ≤ Y → Sp.bitLen Y = Sp.bitLen (Y >>> 16) + 16 := fun Y h => Sp.bitLen_shr (s := 16) h
  have b8 : ∀ Y : Nat, 256 ≤ Y → Sp.bitLen Y = Sp.bitLen (Y >>> 8) + 8 := fun Y h => Sp.bitLen_shr (s := 8) h
  refine brc_ige (fun h => brc_ige (fun h2 => brc_ige (fun h3 => ?_) fun h3 => ?_) fun h2 => brc_ige (fun h3 => ?_) fun h3 => ?_) fun h => brc_ige (fun h2 => brc_ige (fun h3 => ?_) fun h3 => ?_) fun h2 => brc_ige (fun h3 => ?_) fun h3 => ?_
  · exact len_end (k := 56) (by rw [d8, d16, d32]; omega) (by omega) (by rw [b32 X (by omega), b16 _ (by omega), b8 _ (by omega)]) rfl
  · exact len_end (k := 48) (by omega) (by omega) (by rw [b32 X (by omega), b16 _ (by omega)]) rfl
  · exact len_end (k := 40) (by rw [d8]; omega) (by omega) (by rw [b32 X (by omega), b8 _ (by omega)]) rfl
  · exact len_end (k := 32) (by omega) (by omega) (by rw [b32 X (by omega)]) rfl
  · exact len_end (k := 24) (by rw [d8, d16]; omega) (by omega) (by rw [b16 X (by omega), b8 _ (by omega)]) rfl
  · exact len_end (k := 16) (by omega) (by omega) (by rw [b16 X (by omega)]) rfl
  · exact len_end (k := 8) (by rw [d8]; omega) (by omega) (by rw [b8 X (by omega)]) rfl
  · exact len_end (k := 0) (by omega) (by omega) rfl rfl
theorem good42L : Goods Try.prog [ctr42] := .cons good42 .nil
theorem good19 : GoodC Try.prog ctr19 := by
  refine good_loop (fn := Try.f19) [3] [] (fun i : List Int × Int × Int => (i.1.length - i.2.2).toNat) wide good42L ⟨by kernel_rfl, by kernel_rfl, by kernel_rfl, by kernel_rfl⟩ (by kernel_rfl) (by kernel_rfl) (by kernel_rfl) (by kernel_rfl) (n := 18) (ls := [3, 6, 7, 8]) (ks := []) (mk := mk19) (ψ := psi19) (id := 0) ?_ ?_
  · rintro ⟨l, a, i⟩ Φ ⟨⟨hl, hlen, h0, h1, ha⟩, hΦ⟩
    simp only at hl hlen h0 h1 ha hΦ
    obtain ⟨n, rfl⟩ : ∃ n : Nat, i = n := ⟨i.toNat, by omega⟩
    rw [Int.toNat_natCast] at ha
    subst ha
    refine Eq.mpr (nf19s _ _ _ _ l _ n Φ _) ?_
    refine brc_ilt (fun h => ?_) fun h => ?_
    · have h : n < l.length := by have : ((n : Nat) : Int) < ((l.length : Nat) : Int) := h; omega
      have hg := Sp.inU_getD hl h
      have e3 : W.nth l (W.toNat (n : Int)) 0 = (((l.getD n 0).toNat : Nat) : Int) := by show l.getD n 0 = _; omega
      have ho := Sp.orAll_lt (Sp.inU_take hl n)
      have e4 : W.or .u64 ((Sp.orAll (l.take n) : Nat) : Int) (W.nth l (W.toNat (n : Int)) 0) = ((Sp.orAll (l.take (n + 1)) : Nat) : Int) := by
        rw [e3, Sp.or_u64 ho (by omega), Sp.orAll_take h]
      have e5 : W.add .i64 (n : Int) 1 = (n : Int) + 1 := W.add_i64 (by omega) (by omega)
      rw [e4, e5]
      refine grd_ile (by omega) (grd_nlt h ⟨(l, _, (n : Int) + 1), rfl, ?_, ⟨hl, hlen, ?_, ?_, ?_⟩, hΦ⟩)
      · show ((l.length : Int) - ((n : Int) + 1)).toNat < ((l.length : Int) - (n : Int)).toNat; omega
      · show 0 ≤ (n : Int) + 1; omega
      · show (n : Int) + 1 ≤ l.length; omega
      · show ((Sp.orAll (l.take (n + 1)) : Nat) : Int) = ((Sp.orAll (l.take ((n : Int) + 1).toNat) : Nat) : Int)
        have : ((n : Int) + 1).toNat = n + 1 := by omega
        rw [this]
    · have h : ((l.length : Nat) : Int) ≤ (n : Int) := h
      have : n = l.length := by omega
      subst this
      rw [List.take_length]; exact hΦ
  · intro d hd
    obtain ⟨l, x⟩ : List Int × Unit := d
    obtain ⟨hl, hlen⟩ : Sp.inU l ∧ l.length < 9223372036854775807 := hd
    have ho := Sp.orAll_lt hl
    refine Eq.mpr (nf19 l _) ⟨(l, 0, 0), rfl, ⟨hl, hlen, Int.le_refl _, ?_, rfl⟩, ⟨?_, ?_⟩, rfl⟩
    · show (0 : Int) ≤ l.length; omega
    · show (0 : Int) ≤ ((Sp.orAll l : Nat) : Int); omega
    · show ((Sp.orAll l : Nat) : Int) < 18446744073709551616
      have : Sp.orAll l < 18446744073709551616 := ho
      omega
theorem pow_le_64 {N : Nat} (h : N ≤ 64) : (2 : Nat) ^ N ≤ 18446744073709551616 := Nat.pow_le_pow_right (by decide) h
/-- What the code reckons in a step of laying bits. -/
theorem step41 {b : List Int} {A U N : Nat} (h : pre41 b (A : Int) (U : Int) (N : Int)) (hN : N ≠ 0) {X : List Int → Int → Int → Int → Prop}
    (k : ∀ b' A' U' N', pre41 b' A' U' N' → Sp.putB b' A' U' = Sp.putB b (A : Int) (U : Int) → N'.toNat < N → X b' A' U' N') :
    grd (W.ile 0 (W.quo .i64 (A : Int) 8)) (grd (W.nlt (W.toNat (W.quo .i64 (A : Int) 8)) (W.len b)) (grd (W.nlt (W.toNat (W.quo .i64 (A : Int) 8)) (W.len b)) (grd (W.ile 0 (W.rem (A : Int) 8)) (grd (W.ile 0 (W.quo .i64 (A : Int) 8)) (grd (W.nlt (W.toNat (W.quo .i64 (A : Int) 8)) (W.len b)) (grd (W.nlt (W.toNat (W.quo .i64 (A : Int) 8)) (W.len b)) (grd (W.ile 0 (W.imin (N : Int) (W.sub .i64 8 (W.rem (A : Int) 8))))
      (X (W.upd b (W.toNat (W.quo .i64 (A : Int) 8)) (W.or .u8 (W.nth b (W.toNat (W.quo .i64 (A : Int) 8)) 0) (W.wrap .u8 (W.shl .u64 (U : Int) (W.rem (A : Int) 8))))) (W.add .i64 (A : Int) (W.imin (N : Int) (W.sub .i64 8 (W.rem (A : Int) 8)))) (W.shr .u64 (U : Int) (W.imin (N : Int) (W.sub .i64 8 (W.rem (A : Int) 8)))) (W.sub .i64 (N : Int) (W.imin (N : Int) (W.sub .i64 8 (W.rem (A : Int) 8)))))))))))) := by
  obtain ⟨hb, hl, h0, h1, h2, h3, h4, h5⟩ := h
  rw [Int.toNat_natCast, Int.toNat_natCast] at h5
  have hp := pow_le_64 (N := N) (by omega)
  have hm : A % 8 < 8 := Nat.mod_lt _ (by decide)
  have hj : A / 8 < b.length := by omega
  have e1 := Sp.quo8 (A := A) (by omega)
  have e2 := Sp.rem8 A
  have e3 : W.sub .i64 8 ((A % 8 : Nat) : Int) = ((8 - A % 8 : Nat) : Int) := by rw [W.sub_i64 (by omega) (by omega)]; omega
  have e4 : W.toNat ((A / 8 : Nat) : Int) = A / 8 := rfl
  have e5 : W.nth b (A / 8) 0 = (((b.getD (A / 8) 0).toNat : Nat) : Int) := by
    have := Sp.bytes_get hb (A / 8)
    show b.getD (A / 8) 0 = _; omega
  have hg : (b.getD (A / 8) 0).toNat < 256 := by have := Sp.bytes_get hb (A / 8); omega
  rw [e1, e2, e3, Sp.imin_nat, e4, e5, Sp.byte_shl hm, Sp.or_u8n hg (Nat.mod_lt _ (by decide)), W.add_i64 (by omega) (by omega), Sp.shr_nat (k := .u64) (by show min N (8 - A % 8) ≤ 64; omega), W.sub_i64 (by omega) (by omega)]
  obtain ⟨q1, q2⟩ := Sp.put_all hb (A := A) (U := U) (N := N) (by omega) h5 hN
  have e6 : (A : Int) + ((min N (8 - A % 8) : Nat) : Int) = ((A + min N (8 - A % 8) : Nat) : Int) := by omega
  have e7 : (N : Int) - ((min N (8 - A % 8) : Nat) : Int) = ((N - min N (8 - A % 8) : Nat) : Int) := by omega
  rw [e6, e7]
  refine grd_ile (by omega) (grd_nlt hj (grd_nlt hj (grd_ile (by omega) (grd_ile (by omega) (grd_nlt hj (grd_nlt hj (grd_ile (by omega) (k _ _ _ _ ⟨q1, ?_, by omega, by omega, by omega, ?_, Int.natCast_nonneg _, ?_⟩ q2 (by rw [Int.toNat_natCast]; omega)))))))))
  · show (b.set _ _).length < 1000000; rw [List.length_set]; exact hl
  · show _ ≤ 8 * (((b.set _ _).length : Nat) : Int); rw [List.length_set]; omega
  · rw [Int.toNat_natCast, Int.toNat_natCast]; exact Sp.shr_lt h5 (by omega)
theorem put0 {b : List Int} {a u : Int} (hb : Sp.bytes b) (h : u.toNat < 2 ^ 0) : Sp.putB b a u = b := by
  have : u.toNat = 0 := by simpa using h
  unfold Sp.putB; rw [this, Nat.zero_shiftLeft, Nat.or_zero, Sp.ofVal_valOf b hb]
theorem good41 : GoodL Try.prog lctr41 := by
  refine goodL_jump (fn := Try.f41) (l := 0) [] [500000] (fun i : List Int × Int × Int × Int => i.2.2.2.toNat) wide .nil .nil ⟨by kernel_rfl, by kernel_rfl, by kernel_rfl, by kernel_rfl⟩ (by kernel_rfl) (by kernel_rfl) (by kernel_rfl) (by kernel_rfl) (n := 37) (ls := [0, 1, 2, 3]) (ks := [500000]) (mk := mk41) (ψ := psi41) ?_ ?_
  · rintro ⟨b, a, u, n⟩ Φ ⟨h, hΦ⟩
    have h : pre41 b a u n := h
    obtain ⟨hb, hl, h0, h1, h2, h3, h4, h5⟩ := id h
    obtain ⟨A, rfl⟩ : ∃ A : Nat, a = A := ⟨a.toNat, by omega⟩
    obtain ⟨U, rfl⟩ : ∃ U : Nat, u = U := ⟨u.toNat, by omega⟩
    obtain ⟨N, rfl⟩ : ∃ N : Nat, n = N := ⟨n.toNat, by omega⟩
    refine Eq.mpr (nf41s _ _ _ _ b A U N Φ _) ?_
    refine brc_ieq (fun hz => ?_) fun hz => ?_
    · have hN : N = 0 := by omega
      subst hN
      have := put0 (a := (A : Int)) hb h5
      simp only at hΦ
      rw [this] at hΦ; exact hΦ
    · refine step41 (X := fun b' A' U' N' => ∃ j, mkS 37 [(0, TV.h 500000), (1, TV.int .i64 A'), (2, TV.int .u64 U'), (3, TV.int .i64 N')] [(500000, .arr false 5 (.int .u8) (asT (List Int) b'))] = mk41 j ∧ (fun i : List Int × Int × Int × Int => i.2.2.2.toNat) j < (fun i : List Int × Int × Int × Int => i.2.2.2.toNat) (b, (A : Int), (U : Int), (N : Int)) ∧ psi41 j Φ) h (by omega) fun b' A' U' N' g1 g2 g3 => ⟨(b', A', U', N'), rfl, g3, g1, ?_⟩
      show Φ .ret (mkS 37 [] [(500000, .arr false 5 (.int .u8) (Sp.putB b' A' U'))])
      rw [g2]; exact hΦ
  · intro d hd
    obtain ⟨b, a, u, n, x⟩ : List Int × Int × Int × Int × Unit := d
    have h : pre41 b a u n := hd
    obtain ⟨hb, hl, h0, h1, h2, h3, h4, h5⟩ := id h
    obtain ⟨A, rfl⟩ : ∃ A : Nat, a = A := ⟨a.toNat, by omega⟩
    obtain ⟨U, rfl⟩ : ∃ U : Nat, u = U := ⟨u.toNat, by omega⟩
    obtain ⟨N, rfl⟩ : ∃ N : Nat, n = N := ⟨n.toNat, by omega⟩
    refine Eq.mpr (nf41 b A U N _) ?_
    refine brc_ieq (fun hz => ?_) fun hz => ?_
    · have hN : N = 0 := by omega
      subst hN
      have := put0 (a := (A : Int)) hb h5
      exact ⟨congrArg (fun y : List Int => ((y, ()) : List Int × Unit)) this.symm, rfl⟩
    · refine step41 (X := fun b' A' U' N' => ∃ i, mkS 37 [(0, TV.h 500000), (1, TV.int .i64 A'), (2, TV.int .u64 U'), (3, TV.int .i64 N')] [(500000, .arr false 5 (.int .u8) (asT (List Int) b'))] = mk41 i ∧ (pre41 i.1 i.2.1 i.2.2.1 i.2.2.2 ∧ (((Sp.putB i.1 i.2.1 i.2.2.1, ()) : List Int × Unit) = (Sp.putB b (A : Int) (U : Int), ()) ∧ TV.tup [] = TV.tup []))) h (by omega) fun b' A' U' N' g1 g2 g3 => ⟨(b', A', U', N'), rfl, g1, by rw [g2], rfl⟩
end Go.Proofs.Ytijahjkcbphmcaa
