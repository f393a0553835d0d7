/-
  Texts of a proof over the translated program: N1More.
-/
import Derived.Test.YtmfegciehdjicaaN1MoreNf
set_option linter.unusedVariables false
namespace Go.Proofs.Ytmfegciehdjicaa
open Go.AbsM
theorem goodSz : Goods Try.prog sizesL := .cons good9 (.cons (good10 .nil) .nil)
def law8 : TCtr := lawC 8 [.v (.int .u64), .v (.int .u64)] (fun (d : Int × Int × Unit) => (0 ≤ d.1 ∧ d.1 < 18446744073709551616) ∧ 0 ≤ d.2.1 ∧ d.2.1 < 18446744073709551616)
theorem good8 : GoodC Try.prog law8 := by
  refine good_loop (fn := Try.f8) [0, 1, 4, 5, 6, 7, 8] [] (fun i : Int × Int × Int × Int × Int × Int => i.2.2.2.2.2.toNat) wide goodSz ⟨by kernel_rfl, by kernel_rfl, by kernel_rfl, by kernel_rfl⟩ (by kernel_rfl) (by kernel_rfl) (by kernel_rfl) (by kernel_rfl) (n := 46) (ls := [0, 1, 4, 5, 6, 7, 8]) (ks := []) (mk := mk8) (ψ := psi8) (id := 0) ?_ ?_
  · rintro ⟨a, b, x, y, w, v⟩ Φ ⟨⟨h0, h1, h2, h3⟩, hΦ⟩
    refine Eq.mpr (nf8s _ _ _ a b x y w v Φ _) ?_
    simp only at h0 h1 h2 h3 hΦ
    refine brc_igt (fun h => ?_) fun h => ?_
    · have hm : 0 ≤ Sp.more (v / 128) := by unfold Sp.more; split <;> omega
      have hm2 := Sp.more_pos h
      rw [Sp.shr7, W.add_i64 (by omega) (by omega)]
      refine ⟨(a, b, x, y, w + 1, v / 128), rfl, ?_, ⟨?_, ?_, ?_, ?_⟩, ?_⟩
      · show (v / 128).toNat < v.toNat; omega
      · show 0 ≤ v / 128; omega
      · show v / 128 < _; omega
      · show 0 ≤ w + 1; omega
      · show w + 1 + Sp.more (v / 128) < 1000000; omega
      · show Φ .normal (mk8 (a, b, x, y, w + 1 + Sp.more (v / 128), 0))
        have : w + 1 + Sp.more (v / 128) = w + Sp.more v := by rw [Sp.more_pos h]; omega
        rw [this]; exact hΦ
    · rw [Sp.more_zero h] at hΦ
      have hv : v = 0 := by omega
      subst hv
      have : w + 0 = w := by omega
      rw [this] at hΦ
      exact hΦ
  · intro d hd
    obtain ⟨a, b, x⟩ : Int × Int × Unit := d
    obtain ⟨⟨h0, h1⟩, h2, h3⟩ : (0 ≤ a ∧ a < 18446744073709551616) ∧ 0 ≤ b ∧ b < 18446744073709551616 := hd
    refine Eq.mpr (nf8 a b _) ?_
    have ha := Sp.enc_len h0 h1
    have hb := Sp.enc_len h2 h3
    have hm := Sp.len_more h0
    have hmono : a ≤ b → (Sp.enc a).length ≤ (Sp.enc b).length := fun h => Sp.enc_mono h
    have e1 : W.ofNat (W.len (Sp.enc a)) = ((Sp.enc a).length : Int) := rfl
    have e2 : W.ofNat (W.len (Sp.enc b)) = ((Sp.enc b).length : Int) := rfl
    rw [e1, e2, Sp.shr7]
    have hq := Sp.enc_len (u := a / 128) (by omega) (by omega)
    refine ⟨trivial, ⟨h0, h1, by decide⟩, ⟨h2, h3, by decide⟩, (a, b, ((Sp.enc a).length : Int), ((Sp.enc b).length : Int), 1, a / 128), rfl, ⟨?_, ?_, ?_, ?_⟩, ?_⟩
    · show 0 ≤ a / 128; omega
    · show a / 128 < _; omega
    · show (0 : Int) ≤ 1; omega
    · show 1 + Sp.more (a / 128) < 1000000; omega
    · simp only
      have t1 : W.ile ((Sp.enc a).length : Int) 10 = true := decide_eq_true (by omega)
      refine brc_ieq (fun _ => ?_) fun h => absurd hm h
      refine brc_igt (fun h => ?_) fun h => ?_
      · refine brc_ige (fun _ => ?_) fun h' => by omega
        rw [t1]; rfl
      · have := hmono h
        refine brc_ile (fun _ => ?_) fun h' => by omega
        refine brc_ige (fun _ => ?_) fun h' => by omega
        rw [t1]; rfl
end Go.Proofs.Ytmfegciehdjicaa
