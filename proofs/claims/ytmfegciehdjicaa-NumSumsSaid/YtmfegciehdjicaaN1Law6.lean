/-
  Texts of a proof over the translated program: N1Law6.
-/
import Derived.Test.YtmfegciehdjicaaN1Law6Nf
set_option linter.unusedVariables false
namespace Go.Proofs.Ytmfegciehdjicaa
open Go.AbsM
theorem good22 {L : List TCtr} (hL : Goods Try.prog L) : GoodC Try.prog ctr22 := by
  refine good_plain (fn := Try.f22) wide hL ⟨by kernel_rfl, by kernel_rfl, by kernel_rfl, by kernel_rfl⟩ (by kernel_rfl) fun d hd => ?_
  obtain ⟨b, n, x⟩ : List Int × Int × Unit := d
  obtain ⟨hl, h0, h1⟩ : b.length < 1000000 ∧ 0 ≤ n ∧ n < 4294967296 := hd
  refine Eq.mpr (nf22 L b n _) ?_
  simp only [asT, W.copied, Sp.four_prog h0]
  have e1 : W.ofNat (W.len b) = (b.length : Int) := rfl
  rw [e1, W.add_i64 (by omega) (by omega)]
  exact grd_ile (by omega) (grd_ile (by omega) (grd_ile (by simp only [W.bys]; omega) (grd_nle (by simp [W.nmul, W.nadd, W.len, Sp.four]; omega) rfl)))
theorem goodS : Goods Try.prog sumsL := .cons good9 (.cons good20 (.cons (good21 .nil) (.cons (good22 .nil) (.cons (good14 .nil) .nil))))
def law6 : TCtr := lawC 6 [.l 5 (.int .u8), .v (.int .u16)] (fun (d : List Int × Int × Unit) => Sp.bytes d.1 ∧ 0 ≤ d.2.1 ∧ d.2.1 < 65536)
theorem good6 : GoodC Try.prog law6 := by
  refine good_plain (fn := Try.f6) wide goodS ⟨by kernel_rfl, by kernel_rfl, by kernel_rfl, by kernel_rfl⟩ (by kernel_rfl) fun d hd => ?_
  obtain ⟨b, a, x⟩ : List Int × Int × Unit := d
  obtain ⟨hb, h0, h1⟩ : Sp.bytes b ∧ 0 ≤ a ∧ a < 65536 := hd
  refine Eq.mpr (nf6 b a _) ⟨trivial, brc_igt (fun h => rfl) fun h => ?_⟩
  have e1 : W.ofNat (W.len b) = (b.length : Int) := rfl
  have e0 : W.app [] b = b := rfl
  simp only [e0, e1] at h ⊢
  have hs := Sp.sum_in hb
  refine ⟨⟨hb, by omega⟩, ⟨hb, by omega⟩, brc_no (by simp [W.ine]) (brc_ieq (fun h => rfl) fun hne => ?_)⟩
  have e2 : W.mul .i64 8 (b.length : Int) = 8 * (b.length : Int) := W.mul_i64 (by omega) (by omega)
  have e3 : W.wrap .i64 a = a := W.wi64_in (by omega) (by omega)
  have e4 : W.rem a (8 * (b.length : Int)) = a % (8 * (b.length : Int)) := W.rem_pos h0
  have hk0 : 0 ≤ a % (8 * (b.length : Int)) := Int.emod_nonneg _ (by omega)
  have hk1 : a % (8 * (b.length : Int)) < 8 * (b.length : Int) := Int.emod_lt_of_pos _ (by omega)
  simp only [e2, e3, e4]
  generalize a % (8 * (b.length : Int)) = k at hk0 hk1 ⊢
  have e5 : W.quo .i64 k 8 = k / 8 := W.quo_i64 hk0 (by omega) (by omega)
  have e6 : W.rem k 8 = k % 8 := W.rem_pos hk0
  have e7 : W.wrap .u64 (k % 8) = k % 8 := W.wu64_in (by omega) (by omega)
  simp only [e5, e6, e7]
  obtain ⟨m0, m1⟩ := Sp.shl_u8 (m := k % 8) (by omega) (by omega)
  have e8 : W.toNat (k / 8) = (k / 8).toNat := rfl
  have e9 : W.nth b (k / 8).toNat 0 = b.getD (k / 8).toNat 0 := rfl
  obtain ⟨x0, x1⟩ := Sp.bytes_get hb (k / 8).toNat
  obtain ⟨y0, y1, y2⟩ := Sp.xor_u8 x0 x1 m0 m1
  simp only [e8, e9]
  have hlt : (k / 8).toNat < b.length := by omega
  have hset : W.upd b (k / 8).toNat (W.xor .u8 (b.getD (k / 8).toNat 0) (W.shl .u8 1 (k % 8))) = b.set (k / 8).toNat (W.xor .u8 (b.getD (k / 8).toNat 0) (W.shl .u8 1 (k % 8))) := rfl
  rw [hset]
  have hg : Sp.get4 (List.append b (Sp.four (Sp.sum b))) (b.length : Int) = (Sp.sum b, 4, 0) := Sp.get4_four hs.1 hs.2
  rw [hg]
  have hln : (List.append b (Sp.four (Sp.sum b))).length = b.length + 4 := by
    show (b ++ Sp.four (Sp.sum b)).length = _
    simp [Sp.four]
  have hsum := Sp.sum_set hb y0 y1 hlt y2
  have g1 : W.nlt (k / 8).toNat (W.len b) = true := decide_eq_true hlt
  have g2 : W.ile 0 (k / 8) = true := decide_eq_true (by omega)
  refine grd_nle (by simp [W.nmul, W.nadd, W.len]; omega) (brc_no (show ((8 * (b.length : Int)) == 0) = false from beq_eq_false_iff_ne.2 (by omega)) (grd_true g2 (grd_true g1 (grd_true g1 (grd_ile (by omega) (grd_true g2 (grd_true g1 (grd_true g1 ⟨⟨by omega, hs.1, hs.2⟩, ⟨Sp.bytes_app hb (Sp.four_bytes _), by omega, by omega, by omega⟩, ⟨Sp.bytes_set hb y0 y1, by rw [List.length_set]; omega⟩, ?_⟩))))))))
  refine brc_ine (fun _ => brc_yes (by simp [W.ieq]) (brc_yes (by simp [W.ieq]) ?_)) fun h => absurd h hsum
  have : W.ieq (Sp.sum b) (Sp.sum b) = true := by simp [W.ieq]
  rw [this]; rfl
end Go.Proofs.Ytmfegciehdjicaa
