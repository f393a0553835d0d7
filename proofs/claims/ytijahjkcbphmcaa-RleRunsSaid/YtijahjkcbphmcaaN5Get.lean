/-
  Texts of a proof over the translated program: N5Get.
-/
import Derived.Test.YtijahjkcbphmcaaN5GetNf
set_option linter.unusedVariables false
namespace Go.Proofs.Ytijahjkcbphmcaa
open Go.AbsM

def outGet (d : List Int × Int × Unit) : TV := .tup [.c (.a (.x (.int .u64 (Sp.get d.1 d.2.1).1))), .c (.a (.x (.int .i64 (Sp.get d.1 d.2.1).2.1))), .c (.a (.x (.int .i64 (Sp.get d.1 d.2.1).2.2)))]
def preG (d : List Int × Int × Unit) : Prop := Sp.bytes d.1 ∧ d.1.length < 4611686018427387904 ∧ -9223372036854775808 ≤ d.2.1 ∧ d.2.1 < 9223372036854775808
def ctr53 : TCtr := .det 53 [.l 5 (.int .u8), .v (.int .i64)] preG outGet fun _ => rfl
theorem good53 {L : List TCtr} (hL : Goods Try.prog L) : GoodC Try.prog ctr53 := by
  refine good_jump (fn := Try.f53) [4, 5, 6] [] (fun i : List Int × Int × Int × Int => 10 - i.2.2.2.toNat) wide hL ⟨by kernel_rfl, by kernel_rfl, by kernel_rfl, by kernel_rfl⟩ (by kernel_rfl) (by kernel_rfl) (by kernel_rfl) (by kernel_rfl) (n := 58) (ls := [0, 1, 4, 5, 6, 7, 8]) (ks := []) (mk := mk53) (ψ := psi53) (l := 0) ?_ ?_
  · rintro ⟨b, a, u, n⟩ Φ ⟨⟨hb, hl, ha, hn0, hn9, hle, hu0, hu⟩, hΦ⟩
    refine Eq.mpr (nf53s L _ _ _ b a u n Φ _) ?_
    simp only at hb hl ha hn0 hn9 hle hu0 hu
    obtain ⟨N, rfl⟩ : ∃ N : Nat, n = N := ⟨n.toNat, by omega⟩
    obtain ⟨A, rfl⟩ : ∃ A : Nat, a = A := ⟨a.toNat, by omega⟩
    have e1 : W.add .i64 (A : Int) N = A + N := W.add_i64 (by omega) (by omega)
    have e3 : W.mul .i64 7 (N : Int) = 7 * (N : Int) := W.mul_i64 (by omega) (by omega)
    have e5 : W.toNat ((A : Int) + N) = A + N := by simp only [W.toNat]; omega
    have e6 : W.add .i64 (N : Int) 1 = N + 1 := W.add_i64 (by omega) (by omega)
    obtain ⟨c0, c1⟩ := Sp.bytes_get hb (A + N)
    have e7 : W.nth b (A + N) 0 = b.getD (A + N) 0 := rfl
    have e8 : W.ofNat (W.len b) = (b.length : Int) := rfl
    simp only [e1, e3, e5, e6, e7, e8]
    have hk : 10 - N = (9 - N) + 1 := by omega
    have hres : resGet (b, (A : Int), u, (N : Int)) = Sp.getF b A ((9 - N) + 1) N u := by
      show Sp.getF b (A : Int).toNat (10 - (N : Int).toNat) N u = _
      simp only [Int.toNat_natCast, hk]
    rw [hres] at hΦ
    simp only [Int.toNat_natCast] at hu
    have key : (A : Int) + N ≠ b.length → ¬ (((N : Int) = 9 ∧ 1 < b.getD (A + N) 0) ∨ (0 < (N : Int) ∧ b.getD (A + N) 0 = 0)) → grd (W.ile 0 (7 * (N : Int))) (brc (W.ige (b.getD (A + N) 0) 128)
        (∃ j, mkS 58 [(0, TV.l 5 (VT.int .u8) b), (1, TV.int .i64 (A : Int)), (4, TV.int .u64 0), (5, TV.int .i64 0), (6, TV.int .i64 0), (7, TV.int .u64 (W.or .u64 u (W.shl .u64 (W.wrap .u64 (W.and .u8 (b.getD (A + N) 0) 127)) (7 * (N : Int))))), (8, TV.int .i64 ((N : Int) + 1))] [] = mk53 j ∧ (fun i : List Int × Int × Int × Int => 10 - i.2.2.2.toNat) j < (fun i : List Int × Int × Int × Int => 10 - i.2.2.2.toNat) (b, (A : Int), u, (N : Int)) ∧ psi53 j Φ)
        (Φ AExit.ret (mkS 58 [(4, TV.int .u64 (W.or .u64 u (W.shl .u64 (W.wrap .u64 (W.and .u8 (b.getD (A + N) 0) 127)) (7 * (N : Int))))), (5, TV.int .i64 ((N : Int) + 1)), (6, TV.int .i64 0)] []))) := by
      intro hne hno
      have hno2 : ¬ (((N : Int) = 9 ∧ 1 < b.getD (A + (N : Int).toNat) 0) ∨ (0 < (N : Int) ∧ b.getD (A + (N : Int).toNat) 0 = 0)) := by simpa only [Int.toNat_natCast] using hno
      have h9 : N = 9 → b.getD (A + N) 0 ≤ 1 := fun h => by
        by_cases h1 : 1 < b.getD (A + N) 0
        · exact absurd (.inl ⟨by omega, h1⟩) hno
        · omega
      rw [Sp.step_u c0 c1 (by omega) hu0 hu h9 _ rfl]
      obtain ⟨b0, b1, b2⟩ := Sp.step_bound c0 (by omega) hu0 hu (fun h => by have := h9 h; omega)
      refine grd_ile (by omega) (brc_ige (fun h => ?_) fun h => ?_)
      · rw [Sp.getF_more hne hno2 (by simpa only [Int.toNat_natCast] using h)] at hΦ
        simp only [Int.toNat_natCast] at hΦ
        have hN : N ≤ 8 := by
          by_cases hN : N = 9
          · have := h9 hN; omega
          · omega
        refine ⟨(b, (A : Int), u + (b.getD (A + N) 0 % 128) * 128 ^ N, (N : Int) + 1), rfl, ?_, ⟨hb, hl, ?_, ?_, ?_, ?_, ?_, ?_⟩, ?_⟩
        · show 10 - ((N : Int) + 1).toNat < 10 - (N : Int).toNat; omega
        · show (0 : Int) ≤ A; omega
        · show (0 : Int) ≤ (N : Int) + 1; omega
        · show (N : Int) + 1 ≤ 9; omega
        · show (A : Int) + (N + 1) ≤ b.length; omega
        · show 0 ≤ u + (b.getD (A + N) 0 % 128) * 128 ^ N; omega
        · show u + (b.getD (A + N) 0 % 128) * 128 ^ N < 128 ^ ((N : Int) + 1).toNat
          have : ((N : Int) + 1).toNat = N + 1 := by omega
          rw [this]; exact b2 hN
        · have hr : resGet (b, (A : Int), u + (b.getD (A + N) 0 % 128) * 128 ^ N, (N : Int) + 1) = Sp.getF b A (9 - N) (N + 1) (u + (b.getD (A + N) 0 % 128) * 128 ^ N) := by
            show Sp.getF b (A : Int).toNat (10 - ((N : Int) + 1).toNat) _ _ = _
            have : 10 - ((N : Int) + 1).toNat = 9 - N := by omega
            rw [this, Int.toNat_natCast]
          rw [hr]; exact hΦ
      · rw [Sp.getF_done hne hno2 (by simpa only [Int.toNat_natCast] using h)] at hΦ
        simpa only [Int.toNat_natCast] using hΦ
    refine brc_ieq (fun h => ?_) fun hne => ?_
    · rw [Sp.getF_short h] at hΦ; exact hΦ
    refine grd_ile (by omega) (grd_nlt (by simp only [W.len]; omega) ?_)
    have form : (((N : Int) = 9 ∧ 1 < b.getD (A + N) 0) ∨ (0 < (N : Int) ∧ b.getD (A + N) 0 = 0)) → Φ AExit.ret (mkS 58 [(4, TV.int .u64 0), (5, TV.int .i64 0), (6, TV.int .i64 2)] []) := by
      intro h
      rw [Sp.getF_form hne (by simpa only [Int.toNat_natCast] using h)] at hΦ; exact hΦ
    refine brc_ieq (fun h9 => ?_) fun h9 => ?_
    · refine brc_igt (fun h => form (.inl ⟨h9, h⟩)) fun h => ?_
      refine brc_igt (fun hp => ?_) fun hp => by omega
      refine brc_ieq (fun hz => form (.inr ⟨hp, hz⟩)) fun hz => key hne ?_
      rintro (⟨_, h'⟩ | ⟨_, h'⟩)
      · omega
      · exact hz h'
    · refine brc_igt (fun hp => ?_) fun hp => ?_
      · refine brc_ieq (fun hz => form (.inr ⟨hp, hz⟩)) fun hz => key hne ?_
        rintro (⟨h', _⟩ | ⟨_, h'⟩)
        · exact h9 h'
        · exact hz h'
      · refine key hne ?_
        rintro (⟨h', _⟩ | ⟨h', _⟩)
        · exact h9 h'
        · omega
  · intro d hd
    obtain ⟨b, a, x⟩ : List Int × Int × Unit := d
    obtain ⟨hb, hl, h1, h2⟩ : Sp.bytes b ∧ b.length < 4611686018427387904 ∧ -9223372036854775808 ≤ a ∧ a < 9223372036854775808 := hd
    refine Eq.mpr (nf53 L b a _) ?_
    have e1 : W.ofNat (W.len b) = (b.length : Int) := rfl
    have e2 : W.add .i64 a 0 = a := by rw [W.add_i64 (by omega) (by omega)]; omega
    rw [e1, e2]
    refine brc_ilt (fun h => ?_) fun h => ?_
    · show _ = outGet (b, a, x)
      rw [outGet, Sp.get_arg (.inl h)]
    refine brc_igt (fun h' => ?_) fun h' => ?_
    · show _ = outGet (b, a, x)
      rw [outGet, Sp.get_arg (.inr h')]
    obtain ⟨A, rfl⟩ : ∃ A : Nat, a = A := ⟨a.toNat, by omega⟩
    have e5 : W.toNat (A : Int) = A := by simp only [W.toNat]; omega
    have e7 : W.nth b A 0 = b.getD A 0 := rfl
    simp only [e5, e7]
    obtain ⟨c0, c1⟩ := Sp.bytes_get hb A
    have hs := Sp.step_u (n := 0) (u := 0) c0 c1 (by omega) (by omega) (by decide) (fun h => by omega) 0 rfl
    simp only [hs]
    have hno : ¬ (((0 : Int) = 9 ∧ 1 < b.getD (A + (0 : Int).toNat) 0) ∨ (0 < (0 : Int) ∧ b.getD (A + (0 : Int).toNat) 0 = 0)) := by
      rintro (⟨h', _⟩ | ⟨h', _⟩) <;> omega
    refine brc_ieq (fun hz => ?_) fun hz => ?_
    · show _ = outGet (b, (A : Int), x)
      rw [outGet, Sp.get_in h h', Int.toNat_natCast, Sp.getF_short (by omega)]
    have hne : (A : Int) + 0 ≠ b.length := by omega
    refine grd_ile (by omega) (grd_nlt (by simp only [W.len]; omega) (brc_ige (fun hc => ?_) fun hc => ?_))
    · refine ⟨(b, (A : Int), 0 + (b.getD A 0 % 128) * 128 ^ 0, 1), rfl, ⟨hb, hl, ?_, (show (0 : Int) ≤ 1 by decide), (show (1 : Int) ≤ 9 by decide), ?_, ?_, ?_⟩, ?_⟩
      · show (0 : Int) ≤ A; omega
      · show (A : Int) + 1 ≤ b.length; omega
      · show 0 ≤ 0 + (b.getD A 0 % 128) * 128 ^ 0; omega
      · show 0 + (b.getD A 0 % 128) * 128 ^ 0 < 128 ^ 1; omega
      · show _ = outGet (b, (A : Int), x)
        rw [outGet, Sp.get_in h h', Int.toNat_natCast, Sp.getF_more hne hno (by simpa using hc)]
        rfl
    · show _ = outGet (b, (A : Int), x)
      rw [outGet, Sp.get_in h h', Int.toNat_natCast, Sp.getF_done hne hno (by simpa using hc)]
      rfl
end Go.Proofs.Ytijahjkcbphmcaa
