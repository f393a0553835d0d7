/-
  Texts of a proof over the translated program: N5Put.
-/
import Derived.Test.YtijahjkcbphmcaaN5PutNf
set_option linter.unusedVariables false
namespace Go.Proofs.Ytijahjkcbphmcaa
open Go.AbsM

def ctr32 : TCtr := .det 32 [.l 5 (.int .u8), .v (.int .u64)] (fun (d : List Int × Int × Unit) => 0 ≤ d.2.1 ∧ d.2.1 < 18446744073709551616 ∧ d.1.length < 100000) (fun (d : List Int × Int × Unit) => .o (.own 5 (.int .u8) (d.1 ++ Sp.enc d.2.1))) fun _ => rfl

theorem fits32 : Fits Try.prog ctr32.f ctr32.sig Try.f32 := ⟨by kernel_rfl, by kernel_rfl, by kernel_rfl, by kernel_rfl⟩
theorem good32 {L : List TCtr} (hL : Goods Try.prog L) : GoodC Try.prog ctr32 := by
  refine good_jump (fn := Try.f32) [4] [11] (fun i : Int × List Int => i.1.toNat) wide hL fits32 (by kernel_rfl) (by kernel_rfl) (by kernel_rfl) (by kernel_rfl) (n := 30) (ls := [1, 4, 5]) (ks := [11]) (mk := mk32) (ψ := psi32) (l := 0) ?_ ?_
  · rintro ⟨u, xs⟩ Φ ⟨⟨h0, h1, h2⟩, hΦ⟩
    refine Eq.mpr (put_step L _ u xs Φ _) ?_
    simp only at h0 h1 h2 hΦ ⊢
    refine brc_ilt (fun h => ?_) fun h => ?_
    · refine grd_nle (by simp [W.nmul, W.nadd, W.len]; omega) ?_
      rw [Sp.wrap_low h0 h]
      rw [Sp.enc_low h0 h] at hΦ
      exact hΦ
    · have hl : (Sp.enc u).length = 1 + (Sp.enc (u / 128)).length := by rw [Sp.enc_high h0 h]; simp; omega
      refine grd_nle (by simp [W.nmul, W.nadd, W.len]; omega) ?_
      rw [Sp.or_u8 h0, Sp.shr7]
      rw [Sp.enc_high h0 h] at hΦ
      refine ⟨(u / 128, xs ++ [u % 128 + 128]), rfl, ?_, ⟨?_, ?_, ?_⟩, ?_⟩
      · show (u / 128).toNat < u.toNat; omega
      · show 0 ≤ u / 128; omega
      · show u / 128 < _; omega
      · show (xs ++ [u % 128 + 128]).length + (Sp.enc (u / 128)).length < 1000000; simp; omega
      · show Φ .ret (mkS 30 [(4, TV.h 11)] [(11, .arr false 5 (.int .u8) ((xs ++ [u % 128 + 128]) ++ Sp.enc (u / 128)))])
        rw [List.append_assoc]; exact hΦ
  · intro d hd
    obtain ⟨b, u, x⟩ : List Int × Int × Unit := d
    obtain ⟨h0, h1, h2⟩ : 0 ≤ u ∧ u < 18446744073709551616 ∧ b.length < 100000 := hd
    refine Eq.mpr (put_head L b u _) ?_
    have e1 : W.ofNat (W.len b) = (b.length : Int) := rfl
    simp only [asT, W.copied]
    rw [e1, W.add_i64 (by omega) (by omega)]
    refine grd_ile (by omega) (grd_ile (by omega) (grd_ile (by simp only [W.bys]; omega) (brc_ilt (fun h => ?_) fun h => ?_)))
    · refine grd_nle (by simp [W.nmul, W.nadd, W.len]; omega) ?_
      rw [Sp.wrap_low h0 h]
      show _ = TV.o (T1.own 5 (VT.int .u8) (b ++ Sp.enc u))
      rw [Sp.enc_low h0 h]; rfl
    · refine grd_nle (by simp [W.nmul, W.nadd, W.len]; omega) ?_
      rw [Sp.or_u8 h0, Sp.shr7]
      have hl : (Sp.enc u).length = 1 + (Sp.enc (u / 128)).length := by rw [Sp.enc_high h0 h]; simp; omega
      have := (Sp.enc_len h0 h1).2
      refine ⟨(u / 128, b ++ [u % 128 + 128]), rfl, ⟨?_, ?_, ?_⟩, ?_⟩
      · show 0 ≤ u / 128; omega
      · show u / 128 < _; omega
      · show (b ++ [u % 128 + 128]).length + (Sp.enc (u / 128)).length < 1000000
        simp; omega
      · show TV.o (T1.own 5 (VT.int .u8) ((b ++ [u % 128 + 128]) ++ Sp.enc (u / 128))) = TV.o (T1.own 5 (VT.int .u8) (b ++ Sp.enc u))
        rw [Sp.enc_high h0 h, List.append_assoc]; rfl
end Go.Proofs.Ytijahjkcbphmcaa
