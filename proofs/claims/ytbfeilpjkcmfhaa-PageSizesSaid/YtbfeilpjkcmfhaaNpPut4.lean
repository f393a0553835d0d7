/-
  Texts of a proof over the translated program: NpPut4.
-/
import Derived.Test.YtbfeilpjkcmfhaaNpGet
import Derived.Test.YtbfeilpjkcmfhaaN1Sp5
set_option linter.unusedVariables false
namespace Go.Proofs.Ytbfeilpjkcmfhaa
open Go.AbsM
def ctr27 : TCtr := .det 27 [.l 5 (.int .u8), .v (.int .u32)] (fun (d : List Int × Int × Unit) => d.1.length < 1000000 ∧ 0 ≤ d.2.1 ∧ d.2.1 < 4294967296) (fun (d : List Int × Int × Unit) => .o (.own 5 (.int .u8) (d.1 ++ Sp.four d.2.1))) fun _ => rfl
theorem good27 {L : List TCtr} (hL : Goods Try.prog L) : GoodC Try.prog ctr27 := by
  refine good_plain (fn := Try.f27) wide hL ⟨by kernel_rfl, by kernel_rfl, by kernel_rfl, by kernel_rfl⟩ (by kernel_rfl) fun d hd => ?_
  obtain ⟨b, n, x⟩ : List Int × Int × Unit := d
  obtain ⟨hl, h0, h1⟩ : b.length < 1000000 ∧ 0 ≤ n ∧ n < 4294967296 := hd
  refine Eq.mpr (nf27 L b n _) ?_
  simp only [asT, W.copied, Sp.four_prog h0]
  have e1 : W.ofNat (W.len b) = (b.length : Int) := rfl
  rw [e1, W.add_i64 (by omega) (by omega)]
  exact grd_ile (by omega) (grd_ile (by omega) (grd_ile (by simp only [W.bys]; omega) (grd_nle (by simp [W.nmul, W.nadd, W.len, Sp.four]; omega) rfl)))
end Go.Proofs.Ytbfeilpjkcmfhaa
