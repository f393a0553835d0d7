/-
  Texts of a proof over the translated program: N4B.
-/
import Derived.Test.YtijahjkcbphmcaaN4A
set_option linter.unusedVariables false
namespace Sp
open Go Go.AbsM
theorem mask8 : ∀ s : Fin 9, W.sub .u8 (W.shl .u8 1 (s.val : Int)) 1 = ((2 ^ s.val - 1 : Nat) : Int) := by decide +kernel
theorem getB_zero (b : List Int) (a : Int) : getB b a 0 = 0 := by
  show (((valOf b >>> a.toNat) % 2 ^ 0 : Nat) : Int) = 0
  rw [Nat.pow_zero, Nat.mod_one]; rfl
theorem getB_lt (b : List Int) (a : Int) {n : Int} (h : n ≤ 64) : 0 ≤ getB b a n ∧ getB b a n < 18446744073709551616 := by
  have h1 : (valOf b >>> a.toNat) % 2 ^ n.toNat < 2 ^ n.toNat := Nat.mod_lt _ (Nat.two_pow_pos _)
  have h2 : (2 : Nat) ^ n.toNat ≤ 2 ^ 64 := Nat.pow_le_pow_right (by decide) (by omega)
  have h3 : (2 : Nat) ^ 64 = 18446744073709551616 := rfl
  unfold getB; omega
end Sp
namespace Go.Proofs.Ytijahjkcbphmcaa
open Go.AbsM
theorem step44 {b : List Int} {A N H : Nat} {u : Int} (h : pre44 b (A : Int) (N : Int)) (hN : H < N) (hu : u = Sp.getB b (A : Int) (H : Int)) {X : Int → Int → Int → Prop}
    (k : ∀ S : Nat, 0 < S → H + S ≤ N → X ((A : Int) + ((H + S : Nat) : Int)) (Sp.getB b (A : Int) ((H + S : Nat) : Int)) ((H + S : Nat) : Int)) :
    grd (W.ile 0 (W.quo .i64 ((A + H : Nat) : Int) 8)) (grd (W.nlt (W.toNat (W.quo .i64 ((A + H : Nat) : Int) 8)) (W.len b)) (grd (W.ile 0 (W.rem ((A + H : Nat) : Int) 8)) (grd (W.ile 0 (W.imin (W.sub .i64 (N : Int) (H : Int)) (W.sub .i64 8 (W.rem ((A + H : Nat) : Int) 8)))) (grd (W.ile 0 (H : Int))
      (X (W.add .i64 ((A + H : Nat) : Int) (W.imin (W.sub .i64 (N : Int) (H : Int)) (W.sub .i64 8 (W.rem ((A + H : Nat) : Int) 8)))) (W.or .u64 u (W.shl .u64 (W.wrap .u64 (W.and .u8 (W.shr .u8 (W.nth b (W.toNat (W.quo .i64 ((A + H : Nat) : Int) 8)) 0) (W.rem ((A + H : Nat) : Int) 8)) (W.sub .u8 (W.shl .u8 1 (W.imin (W.sub .i64 (N : Int) (H : Int)) (W.sub .i64 8 (W.rem ((A + H : Nat) : Int) 8)))) 1))) (H : Int))) (W.add .i64 (H : Int) (W.imin (W.sub .i64 (N : Int) (H : Int)) (W.sub .i64 8 (W.rem ((A + H : Nat) : Int) 8))))))))) := by
  obtain ⟨hb, hl, h0, h1, h2, h3⟩ := h
  have hm : (A + H) % 8 < 8 := Nat.mod_lt _ (by decide)
  have hj : (A + H) / 8 < b.length := by omega
  have e1 := Sp.quo8 (A := A + H) (by omega)
  have e2 := Sp.rem8 (A + H)
  have e3 : W.sub .i64 8 (((A + H) % 8 : Nat) : Int) = ((8 - (A + H) % 8 : Nat) : Int) := by rw [W.sub_i64 (by omega) (by omega)]; omega
  have e4 : W.sub .i64 (N : Int) (H : Int) = ((N - H : Nat) : Int) := by rw [W.sub_i64 (by omega) (by omega)]; omega
  have e5 : W.toNat (((A + H) / 8 : Nat) : Int) = (A + H) / 8 := rfl
  have e6 : W.nth b ((A + H) / 8) 0 = ((Sp.valOf b >>> (8 * ((A + H) / 8)) % 256 : Nat) : Int) := Sp.get_val hb hj
  rw [e1, e2, e3, e4, Sp.imin_nat, e5, e6]
  generalize hS : min (N - H) (8 - (A + H) % 8) = S
  have s1 : 0 < S := by omega
  have s2 : H + S ≤ N := by omega
  have s3 : S ≤ 8 - (A + H) % 8 := by omega
  have hmask := Sp.mask8 ⟨S, by omega⟩
  have hbyte : Sp.valOf b >>> (8 * ((A + H) / 8)) % 256 < 256 := Nat.mod_lt _ (by decide)
  have hp8 : 2 ^ S ≤ 256 := Nat.pow_le_pow_right (show 0 < 2 by decide) (show S ≤ 8 by omega)
  have hsh : (Sp.valOf b >>> (8 * ((A + H) / 8)) % 256) >>> ((A + H) % 8) < 256 := by
    rw [Nat.shiftRight_eq_div_pow]; exact Nat.lt_of_le_of_lt (Nat.div_le_self _ _) hbyte
  simp only at hmask
  rw [hmask, Sp.shr_nat (k := .u8) (by show (A + H) % 8 ≤ 8; omega), Sp.and_u8 hsh (by omega), Sp.mask_and]
  generalize hY : ((Sp.valOf b >>> (8 * ((A + H) / 8)) % 256) >>> ((A + H) % 8)) % 2 ^ S = Y
  have hYl : Y < 2 ^ S := by rw [← hY]; exact Nat.mod_lt _ (Nat.two_pow_pos _)
  have hYs : Y <<< H < 18446744073709551616 := by
    rw [Nat.shiftLeft_eq]
    calc Y * 2 ^ H < 2 ^ S * 2 ^ H := Nat.mul_lt_mul_of_pos_right hYl (Nat.two_pow_pos _)
      _ = 2 ^ (S + H) := by rw [← Nat.pow_add]
      _ ≤ 2 ^ 64 := Nat.pow_le_pow_right (by decide) (by omega)
  have hgl := Sp.getB_lt b (A : Int) (n := (H : Int)) (by omega)
  have e7 : W.or .u64 u (W.shl .u64 (W.wrap .u64 (Y : Int)) (H : Int)) = Sp.getB b (A : Int) ((H + S : Nat) : Int) := by
    rw [W.wu64_in (by omega) (by omega), Sp.shl_u64 (by omega), Nat.mod_eq_of_lt hYs, hu]
    have hgs := Sp.get_step (v := Sp.valOf b) (a := A) (at' := A + H) (h := H) (s := S) s3 rfl
    rw [hY] at hgs
    have e8 : Sp.getB b (A : Int) (H : Int) = (((Sp.valOf b >>> A) % 2 ^ H : Nat) : Int) := rfl
    rw [e8] at hgl ⊢
    rw [Sp.or_u64 (by omega) hYs, hgs]; rfl
  have e9 : W.add .i64 ((A + H : Nat) : Int) (S : Int) = (A : Int) + ((H + S : Nat) : Int) := by rw [W.add_i64 (by omega) (by omega)]; omega
  have e10 : W.add .i64 (H : Int) (S : Int) = ((H + S : Nat) : Int) := by rw [W.add_i64 (by omega) (by omega)]; omega
  rw [e7, e9, e10]
  exact grd_ile (by omega) (grd_nlt hj (grd_ile (by omega) (grd_ile (by omega) (grd_ile (by omega) (k S s1 s2)))))
theorem good44 : GoodC Try.prog ctr44 := by
  refine good_jump (fn := Try.f44) (l := 0) [6] [] (fun i : List Int × Int × Int × Int × Int => (i.2.2.1 - i.2.2.2.2).toNat) wide .nil ⟨by kernel_rfl, by kernel_rfl, by kernel_rfl, by kernel_rfl⟩ (by kernel_rfl) (by kernel_rfl) (by kernel_rfl) (by kernel_rfl) (n := 44) (ls := [0, 1, 2, 7, 8]) (ks := []) (mk := mk44) (ψ := psi44) ?_ ?_
  · rintro ⟨b, a, n, u, h⟩ Φ ⟨a0, hp, ha, h0, h1, hu, hΦ⟩
    have hp : pre44 b a0 n := hp
    simp only at ha h0 h1 hu hΦ
    obtain ⟨hb, hl, p0, p1, p2, p3⟩ := id hp
    obtain ⟨A, rfl⟩ : ∃ A : Nat, a0 = A := ⟨a0.toNat, by omega⟩
    obtain ⟨N, rfl⟩ : ∃ N : Nat, n = N := ⟨n.toNat, by omega⟩
    obtain ⟨H, rfl⟩ : ∃ H : Nat, h = H := ⟨h.toNat, by omega⟩
    have ha : a = ((A + H : Nat) : Int) := by omega
    subst ha
    refine Eq.mpr (nf44s _ _ _ _ b _ N u H Φ _) ?_
    refine brc_ieq (fun hz => ?_) fun hz => ?_
    · have : H = N := by omega
      subst this
      rw [hu]; exact hΦ
    · refine step44 (X := fun A' U' H' => ∃ j, mkS 44 [(0, TV.l 5 (.int .u8) b), (1, TV.int .i64 A'), (2, TV.int .i64 (N : Int)), (7, TV.int .u64 U'), (8, TV.int .i64 H')] [] = mk44 j ∧ (fun i : List Int × Int × Int × Int × Int => (i.2.2.1 - i.2.2.2.2).toNat) j < (fun i : List Int × Int × Int × Int × Int => (i.2.2.1 - i.2.2.2.2).toNat) (b, ((A + H : Nat) : Int), (N : Int), u, (H : Int)) ∧ psi44 j Φ) hp (by omega) hu fun S s1 s2 => ⟨(b, _, (N : Int), _, _), rfl, ?_, (A : Int), hp, rfl, ?_, ?_, rfl, hΦ⟩
      · show ((N : Int) - ((H + S : Nat) : Int)).toNat < ((N : Int) - (H : Int)).toNat; omega
      · show 0 ≤ ((H + S : Nat) : Int); omega
      · show ((H + S : Nat) : Int) ≤ (N : Int); omega
  · intro d hd
    obtain ⟨b, a, n, x⟩ : List Int × Int × Int × Unit := d
    have hp : pre44 b a n := hd
    obtain ⟨hb, hl, p0, p1, p2, p3⟩ := id hp
    obtain ⟨A, rfl⟩ : ∃ A : Nat, a = A := ⟨a.toNat, by omega⟩
    obtain ⟨N, rfl⟩ : ∃ N : Nat, n = N := ⟨n.toNat, by omega⟩
    refine Eq.mpr (nf44 b A N _) ?_
    refine brc_ieq (fun hz => ?_) fun hz => ?_
    · have : N = 0 := by omega
      subst this
      exact congrArg (TV.int .u64) (Sp.getB_zero b (A : Int)).symm
    · have := step44 (b := b) (A := A) (N := N) (H := 0) (u := 0) (X := fun A' U' H' => ∃ i, mkS 44 [(0, TV.l 5 (.int .u8) b), (1, TV.int .i64 A'), (2, TV.int .i64 (N : Int)), (7, TV.int .u64 U'), (8, TV.int .i64 H')] [] = mk44 i ∧ ∃ a, pre44 i.1 a i.2.2.1 ∧ i.2.1 = a + i.2.2.2.2 ∧ 0 ≤ i.2.2.2.2 ∧ i.2.2.2.2 ≤ i.2.2.1 ∧ i.2.2.2.1 = Sp.getB i.1 a i.2.2.2.2 ∧ TV.int .u64 (Sp.getB i.1 a i.2.2.1) = ctr44.out (b, (A : Int), (N : Int), x)) hp (by omega) (Sp.getB_zero b (A : Int)).symm fun S s1 s2 => ⟨(b, _, (N : Int), _, _), rfl, (A : Int), hp, rfl, ?_, ?_, rfl, rfl⟩
      · have g := grd_iff.1 this
        exact this |> fun h => by
          obtain ⟨q1, h⟩ := grd_iff.1 h
          obtain ⟨q2, h⟩ := grd_iff.1 h
          obtain ⟨q3, h⟩ := grd_iff.1 h
          obtain ⟨q4, h⟩ := grd_iff.1 h
          obtain ⟨_, h⟩ := grd_iff.1 h
          exact grd_iff.2 ⟨q1, grd_iff.2 ⟨q2, grd_iff.2 ⟨q3, grd_iff.2 ⟨q4, h⟩⟩⟩⟩
      · show 0 ≤ ((0 + S : Nat) : Int); omega
      · show ((0 + S : Nat) : Int) ≤ (N : Int); omega
end Go.Proofs.Ytijahjkcbphmcaa
