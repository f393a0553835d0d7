/-
  Texts of a proof over the translated program: NpPage1.
-/
import Derived.Test.YtbfeilpjkcmfhaaNpPage1Nf
set_option linter.unusedVariables false
namespace Go.Proofs.Ytbfeilpjkcmfhaa
open Go.AbsM
theorem good30 : GoodC Try.prog ctr30 := by
  refine good_plain (fn := Try.f30) wide .nil ⟨by kernel_rfl, by kernel_rfl, by kernel_rfl, by kernel_rfl⟩ (by kernel_rfl) fun d hd => Blk.un ?_
  obtain ⟨b, n, x⟩ : List Int × Int × Unit := d
  obtain ⟨hl, h0, h1⟩ : b.length < 1000000 ∧ 0 ≤ n ∧ n < 4294967296 := hd
  refine Blk.nf (nf30 b n _) ?_
  have e0 : W.app [] b = b := rfl
  simp only [e0, Sp.four_prog h0]
  exact grd_nle (by simp only [W.nmul, W.nadd, W.len]; omega) (grd_nle (by simp [W.nmul, W.nadd, W.len, Sp.four]; omega) rfl)
theorem size_fin {n : Int} (h0 : ¬ (n < 0 ∨ 8192 < n)) : TV.int .i64 (W.quo .i64 (W.sub .i64 (W.add .i64 (W.add .i64 (W.add .i64 4 (W.ofNat (W.len (Sp.enc (W.wrap .u64 n))))) n) 64) 1) 64) = TV.int .i64 (Sp.psz n) := by
  have e1 : W.wrap .u64 n = n := W.wu64_in (by omega) (by omega)
  have hl := Sp.enc_len (u := n) (by omega) (by omega)
  have e2 : W.ofNat (W.len (Sp.enc n)) = ((Sp.enc n).length : Int) := rfl
  rw [e1, e2, W.add_i64 (a := 4) (by omega) (by omega), W.add_i64 (b := n) (by omega) (by omega), W.add_i64 (b := 64) (by omega) (by omega), W.sub_i64 (by omega) (by omega), W.quo_i64 (by omega) (by omega) (by omega), Sp.psz_in h0]
  congr 2
  omega
theorem good12 : GoodC Try.prog ctr12 := by
  refine good_plain (fn := Try.f12) wide (.cons (good26 .nil) .nil) ⟨by kernel_rfl, by kernel_rfl, by kernel_rfl, by kernel_rfl⟩ (by kernel_rfl) fun d hd => Blk.un ?_
  obtain ⟨n, x⟩ : Int × Unit := d
  have hd : -9223372036854775808 ≤ n ∧ n < 9223372036854775808 := hd
  refine Blk.nf (nf12 n _) ?_
  refine brc_ilt (fun h => ?_) fun h => brc_igt (fun h' => ?_) fun h' => ⟨⟨?_, ?_, by omega⟩, size_fin (by omega)⟩
  · show TV.int .i64 0 = TV.int .i64 (Sp.psz n); rw [Sp.psz_out (.inl h)]
  · show TV.int .i64 0 = TV.int .i64 (Sp.psz n); rw [Sp.psz_out (.inr h')]
  · rw [W.wu64_in h (by omega)]; exact h
  · rw [W.wu64_in h (by omega)]; omega
theorem good13 : GoodC Try.prog ctr13 := by
  refine good_plain (fn := Try.f13) wide (.cons (good29 .nil) .nil) ⟨by kernel_rfl, by kernel_rfl, by kernel_rfl, by kernel_rfl⟩ (by kernel_rfl) fun d hd => Blk.un ?_
  obtain ⟨n, x⟩ : Int × Unit := d
  have hd : -9223372036854775808 ≤ n ∧ n < 9223372036854775808 := hd
  refine Blk.nf (nf13 n _) ?_
  refine brc_ilt (fun h => ?_) fun h => brc_igt (fun h' => ?_) fun h' => ⟨⟨?_, ?_, by omega⟩, size_fin (by omega)⟩
  · show TV.int .i64 0 = TV.int .i64 (Sp.psz n); rw [Sp.psz_out (.inl h)]
  · show TV.int .i64 0 = TV.int .i64 (Sp.psz n); rw [Sp.psz_out (.inr h')]
  · rw [W.wu64_in h (by omega)]; exact h
  · rw [W.wu64_in h (by omega)]; omega
theorem outW_far {b : List Int} {x : Unit} (h : 8192 < b.length) : outW (b, x) = .tup [.c (.a .nils), .c (.a (.x (.int .i64 4)))] := if_pos h
theorem outW_in {b : List Int} {x : Unit} (h : ¬ 8192 < b.length) : outW (b, x) = .tup [.own 5 (.int .u8) (Sp.wrap b), .c (.a (.x (.int .i64 0)))] := if_neg h
theorem good10 : GoodC Try.prog ctr10 := by
  refine good_plain (fn := Try.f10) wide (.cons good12 (.cons (good26 .nil) (.cons (good27 .nil) (.cons good28 .nil)))) ⟨by kernel_rfl, by kernel_rfl, by kernel_rfl, by kernel_rfl⟩ (by kernel_rfl) fun d hd => Blk.un ?_
  obtain ⟨b, x⟩ : List Int × Unit := d
  obtain ⟨hb, hl⟩ : Sp.bytes b ∧ b.length < 1000000 := hd
  have eL : W.ofNat (W.len b) = (b.length : Int) := rfl
  have eU : W.wrap .u64 (b.length : Int) = (b.length : Int) := W.wu64_in (by omega) (by omega)
  refine Blk.nf (nf10 b _) ?_
  rw [eL, eU]
  refine brc_igt (fun h => (outW_far (by omega)).symm) fun h => ?_
  have hn : ¬ ((b.length : Int) < 0 ∨ 8192 < (b.length : Int)) := by omega
  have hE := Sp.enc_len (u := (b.length : Int)) (by omega) (by omega)
  have hP := Sp.psz_in hn
  have hM : W.sub .i64 (W.mul .i64 (Sp.psz (b.length : Int)) 64) 4 = Sp.psz (b.length : Int) * 64 - 4 := by
    rw [W.mul_i64 (by omega) (by omega), W.sub_i64 (by omega) (by omega)]
  have hR : ∀ k : Int, W.rep (W.toNat k) (0 : Int) = List.replicate k.toNat 0 := fun _ => rfl
  have hge : (Sp.enc (b.length : Int)).length + b.length ≤ (Sp.psz (b.length : Int) * 64 - 4).toNat := by omega
  rw [hM]
  simp only [hR]
  rw [Sp.lay1 (E := Sp.enc (b.length : Int)) (R := List.replicate (Sp.psz (b.length : Int) * 64 - 4).toNat 0) (by rw [List.length_replicate]; omega), List.drop_replicate]
  rw [Sp.lay2 (E := Sp.enc (b.length : Int)) (T := List.replicate ((Sp.psz (b.length : Int) * 64 - 4).toNat - (Sp.enc (b.length : Int)).length) 0) (b := b) (by rw [List.length_replicate]; omega), Sp.page_laid (by omega)]
  have hpl := Sp.page_len (b := b) (by omega)
  have hpb := Sp.page_bytes hb
  have hs := Sp.sum_in hpb
  have eZ : W.len (Sp.enc (b.length : Int) ++ List.replicate ((Sp.psz (b.length : Int) * 64 - 4).toNat - (Sp.enc (b.length : Int)).length) (0 : Int)) = (Sp.psz (b.length : Int) * 64 - 4).toNat := by
    show (Sp.enc (b.length : Int) ++ List.replicate _ (0 : Int)).length = _
    rw [List.length_append, List.length_replicate]; omega
  rw [eZ]
  have eE : W.ofNat (W.len (Sp.enc (b.length : Int))) = ((Sp.enc (b.length : Int)).length : Int) := rfl
  have eT : W.toNat ((Sp.enc (b.length : Int)).length : Int) = (Sp.enc (b.length : Int)).length := Int.toNat_natCast _
  rw [eE, eT]
  refine ⟨⟨by omega, by omega⟩, grd_ile (by omega) (grd_ile (by omega) (grd_ile (by omega) (grd_ile (by simp only [W.bys]; omega) ⟨⟨by omega, by omega, by omega⟩, grd_ile (by simp only [W.ofNat]; omega) (grd_neq rfl (grd_nle (by simp only [W.nadd, W.nsub]; omega) ⟨⟨hpb, by omega⟩, ⟨by omega, hs.1, hs.2⟩, grd_nle ?_ ?_⟩))⟩)))⟩
  · simp only [W.nmul, W.nadd, W.len, Sp.four, List.length_cons, List.length_nil]; omega
  · show TV.tup [T1.own 5 (VT.int .u8) (Sp.wrap b), T1.c (TC.a (AV.x (Value.int .i64 0)))] = outW (b, x)
    rw [outW_in (by omega)]
theorem good11 : GoodC Try.prog ctr11 := by
  refine good_loop (fn := Try.f11) [4] [11] (fun i : List Int => Sp.padn i.length) wide (.cons (good29 .nil) (.cons good30 (.cons (good31 .nil) .nil))) ⟨by kernel_rfl, by kernel_rfl, by kernel_rfl, by kernel_rfl⟩ (by kernel_rfl) (by kernel_rfl) (by kernel_rfl) (by kernel_rfl) (n := 27) (ls := [4]) (ks := [11]) (mk := mk11) (ψ := psi11) (id := 0) ?_ ?_
  · rintro y Φ ⟨hl, hΦ⟩
    refine Eq.mpr (nf11s _ _ _ y Φ _) ?_
    have e1 : W.ofNat (W.len y) = (y.length : Int) := rfl
    rw [e1, W.add_i64 (by omega) (by omega), W.rem_pos (by omega)]
    refine brc_ine (fun h => ?_) fun h => ?_
    · have hp : Sp.padn y.length = Sp.padn (y.length + 1) + 1 := by unfold Sp.padn; omega
      have hpd : Sp.padd y = Sp.padd (y ++ [0]) := by
        unfold Sp.padd
        rw [List.length_append, hp, List.append_assoc]
        congr 1
      refine grd_nle (by simp only [W.nmul, W.nadd, W.len]; omega) ⟨y ++ [0], rfl, ?_, ?_, ?_⟩
      · rw [List.length_append, hp]; exact Nat.lt_succ_self _
      · show (y ++ [0]).length + Sp.padn (y ++ [0]).length < 100000
        rw [List.length_append]
        show y.length + 1 + Sp.padn (y.length + 1) < 100000
        omega
      · rw [← hpd]; exact hΦ
    · have hp : Sp.padn y.length = 0 := by unfold Sp.padn; omega
      have hpd : Sp.padd y = y := by unfold Sp.padd; rw [hp]; simp
      rw [hpd] at hΦ
      exact hΦ
  · intro d hd
    obtain ⟨b, x⟩ : List Int × Unit := d
    obtain ⟨hb, hl⟩ : Sp.bytes b ∧ b.length < 1000000 := hd
    have eL : W.ofNat (W.len b) = (b.length : Int) := rfl
    have eU : W.wrap .u64 (b.length : Int) = (b.length : Int) := W.wu64_in (by omega) (by omega)
    refine Eq.mpr (nf11 b _) ?_
    rw [eL, eU]
    refine brc_igt (fun h => (outW_far (by omega)).symm) fun h => ?_
    have hE := Sp.enc_len (u := (b.length : Int)) (by omega) (by omega)
    have hpb := Sp.page_bytes hb
    have hs := Sp.sum_in hpb
    have hpl := Sp.page_len (b := b) (by omega)
    have hle := Sp.psz_le (n := (b.length : Int)) (by omega) (by omega)
    refine ⟨⟨by omega, by omega, by omega⟩, grd_nle (by simp only [W.nmul, W.nadd, W.len]; omega) ⟨Sp.enc (b.length : Int) ++ b, rfl, ?_, ⟨hpb, ?_⟩, ⟨by omega, hs.1, hs.2⟩, grd_nle ?_ ?_⟩⟩
    · show (Sp.enc (b.length : Int) ++ b).length + Sp.padn (Sp.enc (b.length : Int) ++ b).length < 100000
      have : Sp.padn (Sp.enc (b.length : Int) ++ b).length < 64 := Nat.mod_lt _ (by omega)
      rw [List.length_append] at this ⊢; omega
    · show (Sp.page b).length < 1000000; omega
    · show (4 + (Sp.page b).length) * 1 ≤ _; omega
    · show TV.tup [T1.own 5 (VT.int .u8) (Sp.wrap b), T1.c (TC.a (AV.x (Value.int .i64 0)))] = outW (b, x)
      rw [outW_in (by omega)]
end Go.Proofs.Ytbfeilpjkcmfhaa
