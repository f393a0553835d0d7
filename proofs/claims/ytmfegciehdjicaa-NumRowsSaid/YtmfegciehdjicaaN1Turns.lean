/-
  Texts of a proof over the translated program: N1Turns.
-/
import Derived.Test.YtmfegciehdjicaaN1TurnsNf
set_option linter.unusedVariables false
namespace Go.Proofs.Ytmfegciehdjicaa
open Go.AbsM
theorem good9 : GoodC Try.prog (trueC 9) := good_closed (fn := Try.f9) (lend := fun _ _ => false) (n := 200) wide ⟨by kernel_rfl, by kernel_rfl, by kernel_rfl, by kernel_rfl⟩ (fun S => by kernel_rfl)
theorem good16 {L : List TCtr} (hL : Goods Try.prog L) : GoodC Try.prog ctr16 := by
  refine good_plain (fn := Try.f16) wide hL ⟨by kernel_rfl, by kernel_rfl, by kernel_rfl, by kernel_rfl⟩ (by kernel_rfl) fun d hd => ?_
  obtain ⟨a, x⟩ : Int × Unit := d
  obtain ⟨h1, h2⟩ : -9223372036854775808 ≤ a ∧ a < 9223372036854775808 := hd
  refine Eq.mpr (nf16 L a _) ?_
  rw [Sp.zig16 h1 h2]; rfl
theorem good17 {L : List TCtr} (hL : Goods Try.prog L) : GoodC Try.prog ctr17 := by
  refine good_plain (fn := Try.f17) wide hL ⟨by kernel_rfl, by kernel_rfl, by kernel_rfl, by kernel_rfl⟩ (by kernel_rfl) fun d hd => ?_
  obtain ⟨a, x⟩ : Int × Unit := d
  obtain ⟨h1, h2⟩ : -9223372036854775808 ≤ a ∧ a < 9223372036854775808 := hd
  refine Eq.mpr (nf17 L a _) ?_
  refine brc_ilt (fun h => ?_) fun h => ?_
  · rw [Sp.zig17a h1 h]; rfl
  · rw [Sp.zig17b h2 h]; rfl
theorem good18 {L : List TCtr} (hL : Goods Try.prog L) : GoodC Try.prog ctr18 := by
  refine good_plain (fn := Try.f18) wide hL ⟨by kernel_rfl, by kernel_rfl, by kernel_rfl, by kernel_rfl⟩ (by kernel_rfl) fun d hd => ?_
  obtain ⟨u, x⟩ : Int × Unit := d
  obtain ⟨h1, h2⟩ : 0 ≤ u ∧ u < 18446744073709551616 := hd
  refine Eq.mpr (nf18 L u _) ?_
  rw [Sp.zag18 h1 h2]; rfl
theorem good19 {L : List TCtr} (hL : Goods Try.prog L) : GoodC Try.prog ctr19 := by
  refine good_plain (fn := Try.f19) wide hL ⟨by kernel_rfl, by kernel_rfl, by kernel_rfl, by kernel_rfl⟩ (by kernel_rfl) fun d hd => ?_
  obtain ⟨u, x⟩ : Int × Unit := d
  obtain ⟨h1, h2⟩ : 0 ≤ u ∧ u < 18446744073709551616 := hd
  refine Eq.mpr (nf19 L u _) ?_
  rw [Sp.and1 h1 h2]
  refine brc_ieq (fun h => ?_) fun h => ?_
  · rw [Sp.zag19a h1 h2 h]; rfl
  · rw [Sp.zag19b h1 h2 h]; rfl
def law5 : TCtr := lawC 5 [.v (.int .i64), .v (.int .u64)] (fun (d : Int × Int × Unit) => (-9223372036854775808 ≤ d.1 ∧ d.1 < 9223372036854775808) ∧ 0 ≤ d.2.1 ∧ d.2.1 < 18446744073709551616)
theorem goodL : Goods Try.prog turnL := .cons good9 (.cons (good16 .nil) (.cons (good17 .nil) (.cons (good18 .nil) (.cons (good19 .nil) .nil))))
theorem good5 : GoodC Try.prog law5 := by
  refine good_plain (fn := Try.f5) wide goodL ⟨by kernel_rfl, by kernel_rfl, by kernel_rfl, by kernel_rfl⟩ (by kernel_rfl) fun d hd => ?_
  obtain ⟨a, u, x⟩ : Int × Int × Unit := d
  obtain ⟨⟨h1, h2⟩, h3, h4⟩ : (-9223372036854775808 ≤ a ∧ a < 9223372036854775808) ∧ 0 ≤ u ∧ u < 18446744073709551616 := hd
  refine Eq.mpr (nf5 a u _) ?_
  refine ⟨trivial, ⟨h1, h2⟩, ⟨h1, h2⟩, brc_yes (by simp [W.ieq]) ⟨⟨h3, h4⟩, ⟨h3, h4⟩, brc_yes (by simp [W.ieq]) ⟨⟨h1, h2⟩, Sp.zig_in h1 h2, brc_yes (by simp [W.ieq, Sp.zag_zig]) ⟨⟨h3, h4⟩, Sp.zag_in h3 h4, brc_yes (by simp [W.ieq, Sp.zig_zag h3]) ⟨⟨h1, h2⟩, ?_⟩⟩⟩⟩⟩
  have hz := Sp.zig_in h1 h2
  have : W.ieq (W.and .u64 (Sp.zig a) 1) (W.shr .u64 (W.wrap .u64 a) 63) = true := by
    rw [Sp.and1 hz.1 hz.2, Sp.shr63, W.wu64, Sp.zig_par h1 h2]; simp [W.ieq]
  rw [this]; rfl
end Go.Proofs.Ytmfegciehdjicaa
