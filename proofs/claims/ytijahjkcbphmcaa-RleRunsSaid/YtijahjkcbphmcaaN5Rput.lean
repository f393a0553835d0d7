/-
  Texts of a proof over the translated program: N5Rput.
-/
import Derived.Test.YtijahjkcbphmcaaN5RputNf
set_option linter.unusedVariables false
namespace Go.Proofs.Ytijahjkcbphmcaa
open Go.AbsM

def ctr48 : TCtr := .det 48 [.l 5 (.int .u8), .v (.int .u64)] (fun (d : List Int × Int × Unit) => 0 ≤ d.2.1 ∧ d.2.1 < 18446744073709551616 ∧ d.1.length < 100000) (fun (d : List Int × Int × Unit) => .o (.own 5 (.int .u8) (d.1 ++ Sp.enc d.2.1))) fun _ => rfl
theorem good48 {L : List TCtr} (hL : Goods Try.prog L) : GoodC Try.prog ctr48 := by
  refine good_loop (fn := Try.f48) [1, 4, 5] [6] (fun i : Int × List Int => i.1.toNat) wide hL ⟨by kernel_rfl, by kernel_rfl, by kernel_rfl, by kernel_rfl⟩ (by kernel_rfl) (by kernel_rfl) (by kernel_rfl) (by kernel_rfl) (n := 24) (ls := [1, 4, 5]) (ks := [6]) (mk := mk48) (ψ := psi48) (id := 0) ?_ ?_
  · rintro ⟨u, xs⟩ Φ ⟨⟨h0, h1, h2⟩, hΦ⟩
    refine Eq.mpr (nf48s L _ u xs Φ _) ?_
    simp only [asT] at h0 h1 h2 hΦ ⊢
    refine brc_ige (fun h => ?_) fun h => ?_
    · have hl : (Sp.enc u).length = 1 + (Sp.enc (u / 128)).length := by rw [Sp.enc_high h0 h]; simp; omega
      refine grd_nle (by simp [W.nmul, W.nadd, W.len]; omega) ?_
      rw [Sp.or_u8 h0, Sp.shr7]
      rw [Sp.enc_high h0 h] at hΦ
      refine ⟨(u / 128, xs ++ [u % 128 + 128]), rfl, ?_, ⟨?_, ?_, ?_⟩, fun v ys hv0 hv1 hv => hΦ v ys hv0 hv1 (hv.trans ?_)⟩
      · show (u / 128).toNat < u.toNat; omega
      · show 0 ≤ u / 128; omega
      · show u / 128 < _; omega
      · show (xs ++ [u % 128 + 128]).length + (Sp.enc (u / 128)).length < 1000000; simp; omega
      · show (xs ++ [u % 128 + 128]) ++ Sp.enc (u / 128) = _
        rw [List.append_assoc]; rfl
    · exact hΦ u xs h0 h (by rw [Sp.enc_low h0 h])
  · intro d hd
    obtain ⟨b, u, x⟩ : List Int × Int × Unit := d
    obtain ⟨h0, h1, h2⟩ : 0 ≤ u ∧ u < 18446744073709551616 ∧ b.length < 100000 := hd
    refine Eq.mpr (nf48 L b u _) ?_
    have := (Sp.enc_len h0 h1).2
    refine grd_nle (by simp [W.nmul, W.nadd, W.len]; omega) ⟨(u, b), rfl, ⟨h0, h1, ?_⟩, fun v ys hv0 hv1 hv => ?_⟩
    · show b.length + (Sp.enc u).length < 1000000; omega
    · have hv : ys ++ [v] = b ++ Sp.enc u := hv
      have hl : ys.length + 1 = b.length + (Sp.enc u).length := by have := congrArg List.length hv; simpa using this
      refine grd_nle (by simp [W.nmul, W.nadd, W.len]; omega) ?_
      rw [Sp.wrap_low hv0 hv1]
      show TV.o (T1.own 5 (VT.int .u8) (ys ++ [v])) = TV.o (T1.own 5 (VT.int .u8) (b ++ Sp.enc u))
      rw [hv]

end Go.Proofs.Ytijahjkcbphmcaa
