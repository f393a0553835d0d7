/-
  Texts of a proof over the translated program: NpGet4.
-/
import Derived.Test.YtbfeilpjkcmfhaaNpGet
import Derived.Test.YtbfeilpjkcmfhaaN1Sp4
set_option linter.unusedVariables false
namespace Go.Proofs.Ytbfeilpjkcmfhaa
open Go.AbsM
def outGet4 (d : List Int × Int × Unit) : TV := .tup [.c (.a (.x (.int .u32 (Sp.get4 d.1 d.2.1).1))), .c (.a (.x (.int .i64 (Sp.get4 d.1 d.2.1).2.1))), .c (.a (.x (.int .i64 (Sp.get4 d.1 d.2.1).2.2)))]
def ctr32 : TCtr := .det 32 [.l 5 (.int .u8), .v (.int .i64)] preG outGet4 fun _ => rfl
def ctr35 : TCtr := .det 35 [.l 5 (.int .u8), .v (.int .i64)] preG outGet4 fun _ => rfl
theorem get4_run {b : List Int} {a : Int} {x : Unit} (hd : preG (b, a, x)) :
  brc (W.ilt a 0) (TV.tup [T1.c (TC.a (AV.x (Value.int .u32 0))), T1.c (TC.a (AV.x (Value.int .i64 0))), T1.c (TC.a (AV.x (Value.int .i64 1)))] = outGet4 (b, a, x)) (brc (W.igt a (W.ofNat (W.len b))) (TV.tup [T1.c (TC.a (AV.x (Value.int .u32 0))), T1.c (TC.a (AV.x (Value.int .i64 0))), T1.c (TC.a (AV.x (Value.int .i64 1)))] = outGet4 (b, a, x)) (brc (W.ilt (W.sub .i64 (W.ofNat (W.len b)) a) 4) (TV.tup [T1.c (TC.a (AV.x (Value.int .u32 0))), T1.c (TC.a (AV.x (Value.int .i64 0))), T1.c (TC.a (AV.x (Value.int .i64 5)))] = outGet4 (b, a, x)) (grd (W.ile 0 a) (grd (W.nlt (W.toNat a) (W.len b)) (grd (W.ile 0 (W.add .i64 a 1)) (grd (W.nlt (W.toNat (W.add .i64 a 1)) (W.len b)) (grd (W.ile 0 (W.add .i64 a 2)) (grd (W.nlt (W.toNat (W.add .i64 a 2)) (W.len b)) (grd (W.ile 0 (W.add .i64 a 3)) (grd (W.nlt (W.toNat (W.add .i64 a 3)) (W.len b)) (TV.tup [T1.c (TC.a (AV.x (Value.int .u32 (W.or .u32 (W.or .u32 (W.or .u32 (W.wrap .u32 (W.nth b (W.toNat a) 0)) (W.shl .u32 (W.wrap .u32 (W.nth b (W.toNat (W.add .i64 a 1)) 0)) 8)) (W.shl .u32 (W.wrap .u32 (W.nth b (W.toNat (W.add .i64 a 2)) 0)) 16)) (W.shl .u32 (W.wrap .u32 (W.nth b (W.toNat (W.add .i64 a 3)) 0)) 24))))), T1.c (TC.a (AV.x (Value.int .i64 4))), T1.c (TC.a (AV.x (Value.int .i64 0)))] = outGet4 (b, a, x)))))))))))) := by
  obtain ⟨hb, hl, h1, h2⟩ : Sp.bytes b ∧ b.length < 4611686018427387904 ∧ -9223372036854775808 ≤ a ∧ a < 9223372036854775808 := hd
  have e1 : W.ofNat (W.len b) = (b.length : Int) := rfl
  rw [e1]
  refine brc_ilt (fun h => by rw [outGet4, Sp.get4_arg (.inl h)]) fun h => ?_
  refine brc_igt (fun h' => by rw [outGet4, Sp.get4_arg (.inr h')]) fun h' => ?_
  rw [W.sub_i64 (by omega) (by omega)]
  refine brc_ilt (fun h4 => by rw [outGet4, Sp.get4_short (by omega) h4]) fun h4 => ?_
  rw [W.add_i64 (b := 1) (by omega) (by omega), W.add_i64 (b := 2) (by omega) (by omega), W.add_i64 (b := 3) (by omega) (by omega)]
  have hlen : W.len b = b.length := rfl
  have ht : ∀ z : Int, W.toNat z = z.toNat := fun _ => rfl
  simp only [hlen, ht]
  refine grd_ile (by omega) (grd_nlt (by omega) (grd_ile (by omega) (grd_nlt (by omega) (grd_ile (by omega) (grd_nlt (by omega) (grd_ile (by omega) (grd_nlt (by omega) ?_)))))))
  have hg := Sp.get4_in (b := b) (a := a) (by omega) (by omega)
  simp only [outGet4, hg]
  rfl
theorem good32 {L : List TCtr} (hL : Goods Try.prog L) : GoodC Try.prog ctr32 := by
  refine good_plain (fn := Try.f32) wide hL ⟨by kernel_rfl, by kernel_rfl, by kernel_rfl, by kernel_rfl⟩ (by kernel_rfl) fun d hd => ?_
  obtain ⟨b, a, x⟩ : List Int × Int × Unit := d
  exact Eq.mpr (nf32 L b a _) (get4_run hd)
theorem good35 {L : List TCtr} (hL : Goods Try.prog L) : GoodC Try.prog ctr35 := by
  refine good_plain (fn := Try.f35) wide hL ⟨by kernel_rfl, by kernel_rfl, by kernel_rfl, by kernel_rfl⟩ (by kernel_rfl) fun d hd => ?_
  obtain ⟨b, a, x⟩ : List Int × Int × Unit := d
  exact Eq.mpr (nf35 L b a _) (get4_run hd)
end Go.Proofs.Ytbfeilpjkcmfhaa
