/-
  Texts of a proof over the translated program: N1Laws.
-/
import Derived.Test.YtmfegciehdjicaaN1LawsNf
set_option linter.unusedVariables false
namespace Go.Proofs.Ytmfegciehdjicaa
open Go.AbsM

theorem get4_run {b : List Int} {a : Int} {x : Unit} (hd : preG (b, a, x)) :
  brc (W.ilt a 0) (TV.tup [T1.c (TC.a (AV.x (Value.int .u32 0))), T1.c (TC.a (AV.x (Value.int .i64 0))), T1.c (TC.a (AV.x (Value.int .i64 1)))] = outGet4 (b, a, x)) (brc (W.igt a (W.ofNat (W.len b))) (TV.tup [T1.c (TC.a (AV.x (Value.int .u32 0))), T1.c (TC.a (AV.x (Value.int .i64 0))), T1.c (TC.a (AV.x (Value.int .i64 1)))] = outGet4 (b, a, x)) (brc (W.ilt (W.sub .i64 (W.ofNat (W.len b)) a) 4) (TV.tup [T1.c (TC.a (AV.x (Value.int .u32 0))), T1.c (TC.a (AV.x (Value.int .i64 0))), T1.c (TC.a (AV.x (Value.int .i64 5)))] = outGet4 (b, a, x)) (grd (W.ile 0 a) (grd (W.nlt (W.toNat a) (W.len b)) (grd (W.ile 0 (W.add .i64 a 1)) (grd (W.nlt (W.toNat (W.add .i64 a 1)) (W.len b)) (grd (W.ile 0 (W.add .i64 a 2)) (grd (W.nlt (W.toNat (W.add .i64 a 2)) (W.len b)) (grd (W.ile 0 (W.add .i64 a 3)) (grd (W.nlt (W.toNat (W.add .i64 a 3)) (W.len b)) (TV.tup [T1.c (TC.a (AV.x (Value.int .u32 (W.or .u32 (W.or .u32 (W.or .u32 (W.wrap .u32 (W.nth b (W.toNat a) 0)) (W.shl .u32 (W.wrap .u32 (W.nth b (W.toNat (W.add .i64 a 1)) 0)) 8)) (W.shl .u32 (W.wrap .u32 (W.nth b (W.toNat (W.add .i64 a 2)) 0)) 16)) (W.shl .u32 (W.wrap .u32 (W.nth b (W.toNat (W.add .i64 a 3)) 0)) 24))))), T1.c (TC.a (AV.x (Value.int .i64 4))), T1.c (TC.a (AV.x (Value.int .i64 0)))] = outGet4 (b, a, x)))))))))))) := by
  obtain ⟨hb, hl, h1, h2⟩ : Sp.bytes b ∧ b.length < 4611686018427387904 ∧ -9223372036854775808 ≤ a ∧ a < 9223372036854775808 := hd
  have e1 : W.ofNat (W.len b) = (b.length : Int) := rfl
  rw [e1]
  refine brc_ilt (fun h => by rw [outGet4, Sp.get4_arg (.inl h)]) fun h => ?_
  refine brc_igt (fun h' => by rw [outGet4, Sp.get4_arg (.inr h')]) fun h' => ?_
  rw [W.sub_i64 (by omega) (by omega)]
  refine brc_ilt (fun h4 => by rw [outGet4, Sp.get4_short (by omega) h4]) fun h4 => ?_
  rw [W.add_i64 (b := 1) (by omega) (by omega), W.add_i64 (b := 2) (by omega) (by omega), W.add_i64 (b := 3) (by omega) (by omega)]
  have hlen : W.len b = b.length := rfl
  have ht : ∀ z : Int, W.toNat z = z.toNat := fun _ => rfl
  simp only [hlen, ht]
  refine grd_ile (by omega) (grd_nlt (by omega) (grd_ile (by omega) (grd_nlt (by omega) (grd_ile (by omega) (grd_nlt (by omega) (grd_ile (by omega) (grd_nlt (by omega) ?_)))))))
  have hg := Sp.get4_in (b := b) (a := a) (by omega) (by omega)
  simp only [outGet4, hg]
  rfl
theorem good14 {L : List TCtr} (hL : Goods Try.prog L) : GoodC Try.prog ctr14 := by
  refine good_plain (fn := Try.f14) wide hL ⟨by kernel_rfl, by kernel_rfl, by kernel_rfl, by kernel_rfl⟩ (by kernel_rfl) fun d hd => ?_
  obtain ⟨b, a, x⟩ : List Int × Int × Unit := d
  exact Eq.mpr (nf14 L b a _) (get4_run hd)
theorem good15 {L : List TCtr} (hL : Goods Try.prog L) : GoodC Try.prog ctr15 := by
  refine good_plain (fn := Try.f15) wide hL ⟨by kernel_rfl, by kernel_rfl, by kernel_rfl, by kernel_rfl⟩ (by kernel_rfl) fun d hd => ?_
  obtain ⟨b, a, x⟩ : List Int × Int × Unit := d
  exact Eq.mpr (nf15 L b a _) (get4_run hd)
theorem goodP : Goods Try.prog putsL := .cons good9 (.cons (good10 .nil) (.cons (good11 .nil) (.cons (good12 .nil) (.cons (good13 .nil) (.cons (good14 .nil) (.cons (good15 .nil) .nil))))))

def law3 : TCtr := lawC 3 [.l 5 (.int .u8), .v (.int .u64)] (fun (d : List Int × Int × Unit) => Sp.bytes d.1 ∧ 0 ≤ d.2.1 ∧ d.2.1 < 18446744073709551616)
theorem good3 : GoodC Try.prog law3 := by
  refine good_plain (fn := Try.f3) wide goodP ⟨by kernel_rfl, by kernel_rfl, by kernel_rfl, by kernel_rfl⟩ (by kernel_rfl) fun d hd => ?_
  obtain ⟨b, u, x⟩ : List Int × Int × Unit := d
  obtain ⟨hb, h0, h1⟩ : Sp.bytes b ∧ 0 ≤ u ∧ u < 18446744073709551616 := hd
  refine Eq.mpr (nf3 b u _) ⟨trivial, brc_igt (fun h => rfl) fun h => ?_⟩
  have e1 : W.ofNat (W.len b) = (b.length : Int) := rfl
  rw [e1] at h ⊢
  have hl := Sp.enc_len h0 h1
  have hget : Sp.get (List.append b (Sp.enc u)) (b.length : Int) = (u, ((Sp.enc u).length : Int), 0) := Sp.get_put h0 h1
  have hlen : (List.append b (Sp.enc u)).length = b.length + (Sp.enc u).length := List.length_append
  rw [hget]
  refine ⟨⟨h0, h1, by omega⟩, ⟨Sp.bytes_app hb (Sp.enc_bytes u), by omega, by omega, by omega⟩, ⟨h0, h1, by omega⟩, brc_yes (by simp [W.seq]) (brc_yes (by simp [W.ieq]) (brc_yes (by simp [W.ieq]) ?_))⟩
  have e2 : W.ofNat (W.len (List.append b (Sp.enc u))) = ((b.length + (Sp.enc u).length : Nat) : Int) := congrArg (Nat.cast (R := Int)) hlen
  rw [e2, W.sub_i64 (by omega) (by omega)]
  have : W.ieq ((Sp.enc u).length : Int) (((b.length + (Sp.enc u).length : Nat) : Int) - b.length) = true := by simp [W.ieq]; omega
  rw [this]; rfl

def law4 : TCtr := lawC 4 [.l 5 (.int .u8), .v (.int .i64)] (fun (d : List Int × Int × Unit) => Sp.bytes d.1 ∧ -9223372036854775808 ≤ d.2.1 ∧ d.2.1 < 9223372036854775808)
theorem good4 : GoodC Try.prog law4 := by
  refine good_plain (fn := Try.f4) wide goodP ⟨by kernel_rfl, by kernel_rfl, by kernel_rfl, by kernel_rfl⟩ (by kernel_rfl) fun d hd => ?_
  obtain ⟨b, a, x⟩ : List Int × Int × Unit := d
  obtain ⟨hb, h0, h1⟩ : Sp.bytes b ∧ -9223372036854775808 ≤ a ∧ a < 9223372036854775808 := hd
  refine Eq.mpr (nf4 b a _) ⟨trivial, brc_igt (fun h => rfl) fun h => ?_⟩
  have e1 : W.ofNat (W.len b) = (b.length : Int) := rfl
  rw [e1] at h ⊢
  have hp : Sp.bytes b ∧ b.length < 4611686018427387904 ∧ -9223372036854775808 ≤ a ∧ a < 9223372036854775808 := ⟨hb, by omega, h0, h1⟩
  have hne : ∀ z : Int, W.ine z z = false := fun z => by simp [W.ine]
  refine ⟨hp, hp, hp, hp, brc_no (hne _) (brc_no (hne _) (brc_no (hne _) (brc_no (hne _) (brc_no (hne _) (brc_no (hne _) (brc_ine (fun h => rfl) fun he => ?_))))))⟩
  obtain ⟨u, n, hun⟩ : ∃ u n, Sp.get b a = (u, n, 0) := ⟨(Sp.get b a).1, (Sp.get b a).2.1, by rw [← he]⟩
  rw [hun]
  obtain ⟨q1, q2, q3, q4, q5, q6⟩ := Sp.get_ok hb hun
  have e2 : W.add .i64 a n = a + n := W.add_i64 (by omega) (by omega)
  simp only [e2]
  refine ⟨⟨q1, q2, by decide⟩, grd_ile (by omega) (grd_ile (by omega) (grd_ile (by omega) (grd_ile (by simp only [W.ofNat, W.toNat]; omega) ?_)))⟩
  have e3 : W.drop (W.toNat a) (W.take (W.toNat (a + n)) b) = Sp.enc u := by
    show List.drop a.toNat (List.take (a + n).toNat b) = _
    rw [q6, List.drop_take]
    congr 1; omega
  rw [e3]
  have : W.seq (W.b8s (Sp.enc u)) (W.b8s (Sp.enc u)) = true := by simp [W.seq]
  rw [this]; rfl
end Go.Proofs.Ytmfegciehdjicaa
