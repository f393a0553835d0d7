/-
  Texts of a proof over the translated program: NpPage3.
-/
import Derived.Test.YtbfeilpjkcmfhaaNpPage3Nf
import Derived.Test.YtbfeilpjkcmfhaaNpSp2
set_option linter.unusedVariables false
namespace Go.Proofs.Ytbfeilpjkcmfhaa
open Go.AbsM
theorem goodP : Goods Try.prog pageL := .cons good9 (.cons good10 (.cons good11 (.cons good12 (.cons good13 (.cons good14 (.cons good15 .nil))))))
theorem ine_self (x : Int) : W.ine x x = false := by simp [W.ine]
theorem sne_self (x : List UInt8) : W.sne x x = false := by simp [W.sne]
theorem seq_self (x : List UInt8) : W.seq x x = true := by simp [W.seq]
theorem seq_yes {a b : List UInt8} (h : a = b) : TV.bool (W.seq a b) = TV.bool true := by subst h; rw [seq_self]
def law3 : TCtr := lawC 3 [.l 5 (.int .u8)] (fun (d : List Int × Unit) => Sp.bytes d.1)
theorem good3 : GoodC Try.prog law3 := by
  refine good_plain (fn := Try.f3) wide goodP ⟨by kernel_rfl, by kernel_rfl, by kernel_rfl, by kernel_rfl⟩ (by kernel_rfl) fun d hd => Blk.un ?_
  obtain ⟨b, x⟩ : List Int × Unit := d
  have hb : Sp.bytes b := hd
  refine Blk.nf (nf3 b _) ?_
  have eL : W.ofNat (W.len b) = (b.length : Int) := rfl
  rw [eL]
  refine ⟨trivial, brc_igt (fun h => rfl) fun h => ?_⟩
  have r : -9223372036854775808 ≤ (b.length : Int) ∧ (b.length : Int) < 9223372036854775808 := by omega
  refine ⟨⟨hb, by omega⟩, fun h1 => ⟨⟨hb, by omega⟩, fun _ => ⟨r, r, brc_no (ine_self _) rfl⟩, fun h2 => absurd h1 h2⟩, fun h1 => ⟨⟨hb, by omega⟩, fun h2 => absurd h2 h1, fun _ => brc_no (sne_self _) ⟨r, r, brc_no (ine_self _) ?_⟩⟩⟩
  have hle : b.length ≤ 8192 := by omega
  have hwl := Sp.wrap_len hle
  have hps := Sp.psz_le r.1 r.2
  have hB := Sp.unwB_wrap hb hle
  have hD := Sp.unwD_wrap hle
  have eW : W.ofNat (W.len (Sp.wrap b)) = ((Sp.wrap b).length : Int) := rfl
  have fin : TV.bool (W.ieq (W.ofNat (W.len (Sp.wrap b))) (W.mul .i64 64 (Sp.psz (b.length : Int)))) = TV.bool true := by
    rw [eW, W.mul_i64 (by omega) (by omega)]
    exact ieq_yes (by omega)
  rw [hD]
  refine ⟨⟨Sp.wrap_bytes hb, by omega⟩, fun h2 => (by rw [hB] at h2; cases h2), fun _ _ => brc_yes (seq_self _) ⟨r, fin⟩, fun _ _ => brc_yes (seq_self _) ⟨r, fin⟩⟩
def law4 : TCtr := lawC 4 [.l 5 (.int .u8)] (fun (d : List Int × Unit) => Sp.bytes d.1)
theorem good4 : GoodC Try.prog law4 := by
  refine good_plain (fn := Try.f4) wide goodP ⟨by kernel_rfl, by kernel_rfl, by kernel_rfl, by kernel_rfl⟩ (by kernel_rfl) fun d hd => Blk.un ?_
  obtain ⟨b, x⟩ : List Int × Unit := d
  have hb : Sp.bytes b := hd
  refine Blk.nf (nf4 b _) ?_
  have eL : W.ofNat (W.len b) = (b.length : Int) := rfl
  rw [eL]
  refine ⟨trivial, brc_igt (fun h => rfl) fun h => ?_⟩
  have p : Sp.bytes b ∧ b.length < 1000000 := ⟨hb, by omega⟩
  have fin : Sp.unwB b = true → (Sp.bytes b ∧ b.length < 1000000) ∧ (Sp.unwB b = false → TV.bool false = TV.bool true) ∧ (Sp.unwB b = true → brc (W.sne (W.b8s (Sp.unwD b)) (W.b8s (Sp.unwD b))) (TV.bool false = TV.bool true) ((Sp.bytes (Sp.unwD b) ∧ (Sp.unwD b).length < 1000000) ∧ (8192 < (Sp.unwD b).length → TV.bool false = TV.bool true) ∧ (¬ 8192 < (Sp.unwD b).length → TV.bool (W.seq (W.b8s (Sp.wrap (Sp.unwD b))) (W.b8s b)) = TV.bool true))) := by
    intro hB
    obtain ⟨q1, q2, q3⟩ := Sp.unwD_len hb hB
    refine ⟨p, fun h2 => (by rw [hB] at h2; cases h2), fun _ => brc_no (sne_self _) ⟨⟨q2, by omega⟩, fun h3 => absurd h3 (by omega), fun _ => seq_yes (by rw [Sp.wrap_unw hb hB])⟩⟩
  exact ⟨p, fun hB => ⟨p, fun _ => rfl, fun h2 => (by rw [hB] at h2; cases h2)⟩, fun hB _ => fin hB, fun hB _ => fin hB⟩
def law6 : TCtr := lawC 6 [.l 5 (.int .u8), .v (.int .u16)] (fun (d : List Int × Int × Unit) => Sp.bytes d.1 ∧ 0 ≤ d.2.1 ∧ d.2.1 < 65536)
theorem good6 : GoodC Try.prog law6 := by
  refine good_plain (fn := Try.f6) wide goodP ⟨by kernel_rfl, by kernel_rfl, by kernel_rfl, by kernel_rfl⟩ (by kernel_rfl) fun d hd => Blk.un ?_
  obtain ⟨b, a, x⟩ : List Int × Int × Unit := d
  obtain ⟨hb, h0, h1⟩ : Sp.bytes b ∧ 0 ≤ a ∧ a < 65536 := hd
  refine Blk.nf (nf6 b a _) ?_
  have eL : W.ofNat (W.len b) = (b.length : Int) := rfl
  rw [eL]
  refine ⟨trivial, brc_igt (fun h => rfl) fun h => ⟨⟨hb, by omega⟩, fun h2 => absurd h2 (by omega), fun _ => ?_⟩⟩
  have hle : b.length ≤ 8192 := by omega
  have hwl := Sp.wrap_len hle
  have hps := Sp.psz_le (n := (b.length : Int)) (by omega) (by omega)
  have hpi := Sp.psz_in (n := (b.length : Int)) (by omega)
  have hwb := Sp.wrap_bytes hb
  have eW : W.ofNat (W.len (Sp.wrap b)) = ((Sp.wrap b).length : Int) := rfl
  have hpos : 0 < ((Sp.wrap b).length : Int) := by omega
  have hlt : ((Sp.wrap b).length : Int) < 10000 := by omega
  have e2 : W.mul .i64 8 ((Sp.wrap b).length : Int) = 8 * ((Sp.wrap b).length : Int) := W.mul_i64 (by omega) (by omega)
  have e3 : W.wrap .i64 a = a := W.wi64_in (by omega) (by omega)
  have e4 : W.rem a (8 * ((Sp.wrap b).length : Int)) = a % (8 * ((Sp.wrap b).length : Int)) := W.rem_pos h0
  have hk0 : 0 ≤ a % (8 * ((Sp.wrap b).length : Int)) := Int.emod_nonneg _ (by omega)
  have hk1 : a % (8 * ((Sp.wrap b).length : Int)) < 8 * ((Sp.wrap b).length : Int) := Int.emod_lt_of_pos _ (by omega)
  simp only [eW, e2, e3, e4]
  generalize a % (8 * ((Sp.wrap b).length : Int)) = k at hk0 hk1 ⊢
  have e5 : W.quo .i64 k 8 = k / 8 := W.quo_i64 hk0 (by omega) (by omega)
  have e6 : W.rem k 8 = k % 8 := W.rem_pos hk0
  have e7 : W.wrap .u64 (k % 8) = k % 8 := W.wu64_in (by omega) (by omega)
  simp only [e5, e6, e7]
  obtain ⟨m0, m1⟩ := Sp.shl_u8 (m := k % 8) (by omega) (by omega)
  have e8 : W.toNat (k / 8) = (k / 8).toNat := rfl
  have e9 : W.nth (Sp.wrap b) (k / 8).toNat 0 = (Sp.wrap b).getD (k / 8).toNat 0 := rfl
  obtain ⟨x0, x1⟩ := Sp.bytes_get hwb (k / 8).toNat
  obtain ⟨y0, y1, y2⟩ := Sp.xor_u8 x0 x1 m0 m1
  simp only [e8, e9]
  have hi : (k / 8).toNat < (Sp.wrap b).length := by omega
  have hset : W.upd (Sp.wrap b) (k / 8).toNat (W.xor .u8 ((Sp.wrap b).getD (k / 8).toNat 0) (W.shl .u8 1 (k % 8))) = (Sp.wrap b).set (k / 8).toNat (W.xor .u8 ((Sp.wrap b).getD (k / 8).toNat 0) (W.shl .u8 1 (k % 8))) := rfl
  rw [hset]
  have hno := Sp.unwB_set hb hle hi y0 y1 y2
  have hsb := Sp.bytes_set (i := (k / 8).toNat) hwb y0 y1
  generalize W.xor .u8 ((Sp.wrap b).getD (k / 8).toNat 0) (W.shl .u8 1 (k % 8)) = y at hno hsb ⊢
  have g1 : W.nlt (k / 8).toNat (W.len (Sp.wrap b)) = true := decide_eq_true hi
  have g2 : W.ile 0 (k / 8) = true := decide_eq_true (by omega)
  refine brc_ieq (fun h => absurd h (by omega)) fun _ => grd_true g2 (grd_true g1 (grd_true g1 (grd_ile (by omega) (grd_true g2 (grd_true g1 (grd_true g1 ⟨⟨hsb, by rw [List.length_set]; omega⟩, fun _ => rfl, fun h2 => (by rw [hno] at h2; cases h2), fun h2 => (by rw [hno] at h2; cases h2)⟩))))))
end Go.Proofs.Ytbfeilpjkcmfhaa
