/-
  Texts of a proof over the translated program: N1Sums.
-/
import Derived.Test.YtmfegciehdjicaaN1SumsNf
set_option linter.unusedVariables false
namespace Go.Proofs.Ytmfegciehdjicaa
open Go.AbsM
theorem good23 {L : List TCtr} (hL : Goods Try.prog L) : GoodC Try.prog ctr23 := by
  refine good_loop (fn := Try.f23) [0, 2, 3] [] (fun i : Int × Int => (8 - i.2).toNat) wide hL ⟨by kernel_rfl, by kernel_rfl, by kernel_rfl, by kernel_rfl⟩ (by kernel_rfl) (by kernel_rfl) (by kernel_rfl) (by kernel_rfl) (n := 14) (ls := [0, 2, 3]) (ks := []) (mk := mk23) (ψ := psi23) (id := 0) ?_ ?_
  · rintro ⟨s, k⟩ Φ ⟨⟨h0, h1, h2, h3⟩, hΦ⟩
    refine Eq.mpr (nf23s L _ _ _ s k Φ _) ?_
    simp only at h0 h1 h2 h3 hΦ
    refine brc_ilt (fun h => ?_) fun h => ?_
    · rw [Sp.cstep_prog h0 h1, W.add_i64 (by omega) (by omega)]
      have hc := Sp.cstep_in h0 h1
      have e : 8 - k.toNat = (8 - (k + 1).toNat) + 1 := by omega
      rw [e, Sp.citer_succ h0] at hΦ
      refine ⟨(Sp.cstep s, k + 1), rfl, ?_, ⟨hc.1, hc.2, ?_, ?_⟩, hΦ⟩
      · show (8 - (k + 1)).toNat < (8 - k).toNat; omega
      · show 0 ≤ k + 1; omega
      · show k + 1 ≤ 8; omega
    · have hk : k = 8 := by omega
      subst hk
      have e : Sp.citer (8 - (8 : Int).toNat) s = s := by
        show ((s.toNat : Nat) : Int) = s; omega
      rw [e] at hΦ; exact hΦ
  · intro d hd
    obtain ⟨s, x⟩ : Int × Unit := d
    obtain ⟨h0, h1⟩ : 0 ≤ s ∧ s < 4294967296 := hd
    refine Eq.mpr (nf23 L s _) ⟨(s, 0), rfl, ⟨h0, h1, ?_, ?_⟩, rfl⟩
    · show (0 : Int) ≤ 0; omega
    · show (0 : Int) ≤ 8; omega
theorem good23L : Goods Try.prog [ctr23] := .cons (good23 .nil) .nil

def preB (d : List Int × Unit) : Prop := Sp.bytes d.1 ∧ d.1.length < 1000000
def ctr20 : TCtr := .det 20 [.l 5 (.int .u8)] preB (fun (d : List Int × Unit) => TV.int .u32 (Sp.sum d.1)) fun _ => rfl
def ctr21 : TCtr := .det 21 [.l 5 (.int .u8)] preB (fun (d : List Int × Unit) => TV.int .u32 (Sp.sum d.1)) fun _ => rfl
theorem good20 : GoodC Try.prog ctr20 := by
  refine good_jump (fn := Try.f20) [2] [] (fun i : List Int × Int × Int => (i.1.length - i.2.2).toNat) wide good23L ⟨by kernel_rfl, by kernel_rfl, by kernel_rfl, by kernel_rfl⟩ (by kernel_rfl) (by kernel_rfl) (by kernel_rfl) (by kernel_rfl) (n := 21) (ls := [0, 2, 3, 4]) (ks := []) (mk := mk20) (ψ := psi20) (l := 0) ?_ ?_
  · rintro ⟨b, s, i⟩ Φ ⟨⟨hb, hl, h0, h1, h2, h3⟩, hΦ⟩
    refine Eq.mpr (nf20s _ _ _ b s i Φ _) ?_
    simp only at hb hl h0 h1 h2 h3 hΦ
    have e1 : W.ofNat (W.len b) = (b.length : Int) := rfl
    have e2 : W.toNat i = i.toNat := rfl
    have e3 : W.nth b i.toNat 0 = b.getD i.toNat 0 := rfl
    rw [e1, e2, e3]
    refine brc_ieq (fun h => ?_) fun h => ?_
    · rw [Sp.inv_u32 h0 h1]
      have : b.drop i.toNat = [] := List.drop_eq_nil_of_le (by omega)
      rw [this] at hΦ
      have e : Sp.crc s [] = s := by show ((s.toNat : Nat) : Int) = s; omega
      rw [e] at hΦ; exact hΦ
    · obtain ⟨x0, x1⟩ := Sp.bytes_get hb i.toNat
      have hx := Sp.xor_in h0 h1 x0 x1
      have hc := Sp.citer_in (n := 8) hx.1 hx.2
      rw [W.add_i64 (by omega) (by omega)]
      rw [Sp.crc_drop hb h0 h1 (by omega)] at hΦ
      refine grd_ile h2 (grd_nlt (by simp only [W.len]; omega) ⟨hx, (b, _, i + 1), rfl, ?_, ⟨hb, hl, hc.1, hc.2, ?_, ?_⟩, ?_⟩)
      · show ((b.length : Int) - (i + 1)).toNat < ((b.length : Int) - i).toNat; omega
      · show 0 ≤ i + 1; omega
      · show i + 1 ≤ b.length; omega
      · have e : (i + 1).toNat = i.toNat + 1 := by omega
        show Φ .ret (mkS 21 [(2, TV.int .u32 (4294967295 - Sp.crc _ (b.drop (i + 1).toNat)))] [])
        rw [e]; exact hΦ
  · intro d hd
    obtain ⟨b, x⟩ : List Int × Unit := d
    obtain ⟨hb, hl⟩ : Sp.bytes b ∧ b.length < 1000000 := hd
    refine Eq.mpr (nf20 b _) ?_
    have e1 : W.ofNat (W.len b) = (b.length : Int) := rfl
    have e3 : W.nth b 0 0 = b.getD 0 0 := rfl
    rw [e1, e3]
    refine brc_ieq (fun h => ?_) fun h => ?_
    · have : b = [] := List.length_eq_zero_iff.1 (by omega)
      subst this; rfl
    · obtain ⟨x0, x1⟩ := Sp.bytes_get hb 0
      have hx := Sp.xor_in (s := 4294967295) (by omega) (by omega) x0 x1
      have hc := Sp.citer_in (n := 8) hx.1 hx.2
      refine grd_nlt (by simp only [W.len]; omega) ⟨hx, (b, _, 1), rfl, ⟨hb, hl, hc.1, hc.2, ?_, ?_⟩, ?_⟩
      · show (0 : Int) ≤ 1; omega
      · show (1 : Int) ≤ b.length; omega
      · have := Sp.crc_drop (i := 0) (s := 4294967295) hb (by omega) (by omega) (by omega)
        rw [List.drop_zero] at this
        show _ = TV.int .u32 (4294967295 - Sp.crc 4294967295 b)
        rw [this]; rfl

theorem good21 {L : List TCtr} (hL : Goods Try.prog L) : GoodC Try.prog ctr21 := by
  have hK := knownL_ok wide hL blk21 noneK
  have inner : ∀ s Φ, loopP 33 [0, 2, 3, 4, 5] [] mk21i psi21i s Φ → Run Try.prog (.code (.block 2 (blkC (bodyOf Try.f21) 2))) s Φ := by
    refine run_loopB (lx := [0, 2, 3, 4, 5]) (kx := []) hK (fun i : List Int × Int × Int × Int => (8 - i.2.2.2).toNat) (by kernel_rfl) (lamOk_free (by kernel_rfl)) ?_
    rintro ⟨b, s, i, k⟩ Φ ⟨⟨h0, h1, h2, h3⟩, hΦ⟩
    refine Eq.mpr (nf21i L _ _ _ b s i k Φ _) ?_
    simp only at h0 h1 h2 h3 hΦ
    refine brc_ilt (fun h => ?_) fun h => ?_
    · have hc := Sp.cstep_in h0 h1
      have e : 8 - k.toNat = (8 - (k + 1).toNat) + 1 := by omega
      rw [e, Sp.citer_succ h0] at hΦ
      rw [Sp.and1_u32 h0 h1, W.add_i64 (by omega) (by omega)]
      refine brc_ieq (fun h' => ?_) fun h' => ?_
      · rw [Sp.cstep_ref h0 h1 h']
        refine ⟨(b, Sp.cstep s, i, k + 1), rfl, ?_, ⟨hc.1, hc.2, ?_, ?_⟩, hΦ⟩
        · show (8 - (k + 1)).toNat < (8 - k).toNat; omega
        · show 0 ≤ k + 1; omega
        · show k + 1 ≤ 8; omega
      · rw [Sp.cstep_ref0 h0 h']
        refine ⟨(b, Sp.cstep s, i, k + 1), rfl, ?_, ⟨hc.1, hc.2, ?_, ?_⟩, hΦ⟩
        · show (8 - (k + 1)).toNat < (8 - k).toNat; omega
        · show 0 ≤ k + 1; omega
        · show k + 1 ≤ 8; omega
    · have hk : k = 8 := by omega
      subst hk
      have e : Sp.citer (8 - (8 : Int).toNat) s = s := by
        show ((s.toNat : Nat) : Int) = s; omega
      rw [e] at hΦ; exact hΦ
  have outer : ∀ s Φ, loopP 33 [0, 2, 3, 4] [] mk21 psi21 s Φ → Run Try.prog (.code (.block 0 (blkC (bodyOf Try.f21) 0))) s Φ := by
    refine run_loopB (lx := [0, 2, 3, 4]) (kx := []) hK (fun i : List Int × Int × Int => (i.1.length - i.2.2).toNat) (by kernel_rfl) ?_ ?_
    · refine lamOk_of (fun id c' hm ψ hψ => ?_) (fun c' hm => ?_)
      · have hids : (blocksOf (loopOf (blkC (bodyOf Try.f21) 0))).map (·.1) = [1, 2, 3] := by kernel_rfl
        have hc : c' = blkC (loopOf (blkC (bodyOf Try.f21) 0)) id := findB_mem (by rw [hids]; rfl) hm
        have hid : id ∈ [1, 2, 3] := by rw [← hids]; exact List.mem_map.2 ⟨_, hm, rfl⟩
        simp only [List.mem_cons, List.not_mem_nil, or_false] at hid
        rcases hid with rfl | rfl | rfl
        · cases hψ
        · cases hψ
          rw [hc]
          have : blkC (loopOf (blkC (bodyOf Try.f21) 0)) 2 = blkC (bodyOf Try.f21) 2 := by kernel_rfl
          rw [this]; exact inner
        · cases hψ
      · have : scopesOf (loopOf (blkC (bodyOf Try.f21) 0)) = [] := by kernel_rfl
        rw [this] at hm; cases hm
    rintro ⟨b, s, i⟩ Φ ⟨⟨hb, hl, h0, h1, h2, h3⟩, hΦ⟩
    refine Eq.mpr (nf21s L _ _ _ b s i Φ _) ?_
    simp only at hb hl h0 h1 h2 h3 hΦ
    have e1 : W.ofNat (W.len b) = (b.length : Int) := rfl
    have e2 : W.toNat i = i.toNat := rfl
    have e3 : W.nth b i.toNat 0 = b.getD i.toNat 0 := rfl
    rw [e1, e2, e3]
    refine brc_ilt (fun h => ?_) fun h => ?_
    · obtain ⟨x0, x1⟩ := Sp.bytes_get hb i.toNat
      have hx := Sp.xor_in h0 h1 x0 x1
      have hc := Sp.citer_in (n := 8) hx.1 hx.2
      rw [Sp.crc_drop hb h0 h1 (by omega)] at hΦ
      refine grd_ile h2 (grd_nlt (by simp only [W.len]; omega) ⟨(b, _, i, 0), rfl, ⟨hx.1, hx.2, ?_, ?_⟩, (b, Sp.citer 8 (W.xor .u32 s (W.wrap .u32 (b.getD i.toNat 0))), i + 1), ?_, ?_, ⟨hb, hl, hc.1, hc.2, ?_, ?_⟩, ?_⟩)
      · show (0 : Int) ≤ 0; omega
      · show (0 : Int) ≤ 8; omega
      · show mkS 33 [(0, TV.l 5 (.int .u8) b), (2, TV.int .u32 0), (3, TV.int .u32 (Sp.citer (8 - (0 : Int).toNat) _)), (4, TV.int .i64 (W.add .i64 i 1))] [] = _
        rw [W.add_i64 (by omega) (by omega)]; rfl
      · show ((b.length : Int) - (i + 1)).toNat < ((b.length : Int) - i).toNat; omega
      · show 0 ≤ i + 1; omega
      · show i + 1 ≤ b.length; omega
      · intro n
        have e : (i + 1).toNat = i.toNat + 1 := by omega
        have := hΦ n
        show Φ .normal (mk21 (b, Sp.crc _ (b.drop (i + 1).toNat), n))
        rw [e]; exact this
    · have : b.drop i.toNat = [] := List.drop_eq_nil_of_le (by omega)
      rw [this] at hΦ
      have e : Sp.crc s [] = s := by show ((s.toNat : Nat) : Int) = s; omega
      rw [e] at hΦ; exact hΦ i
  refine good_by (blk := blk21) (lab := noneK) (fn := Try.f21) wide hL ⟨by kernel_rfl, by kernel_rfl, by kernel_rfl, by kernel_rfl⟩ (lamOk_body (by kernel_rfl) (by kernel_rfl) (fun id ψ h => ?_) (fun l rest ψ _ hl => by cases hl)) fun d hd => ?_
  · have h : blk21 id = some ψ := h
    unfold blk21 at h
    split at h
    · rename_i hb
      have := Nat.eq_of_beq_eq_true hb
      subst this
      cases h; exact outer
    · obtain ⟨rfl, rfl⟩ := one_some h
      exact inner
  · obtain ⟨b, x⟩ : List Int × Unit := d
    obtain ⟨hb, hl⟩ : Sp.bytes b ∧ b.length < 1000000 := hd
    refine Eq.mpr (nf21 L b _) ⟨(b, 4294967295, 0), rfl, ⟨hb, hl, ?_, ?_, ?_, ?_⟩, fun n => ?_⟩
    · show (0 : Int) ≤ 4294967295; omega
    · show (4294967295 : Int) < 4294967296; omega
    · show (0 : Int) ≤ 0; omega
    · show (0 : Int) ≤ b.length; omega
    · have hc := Sp.crc_in (l := b) (s := 4294967295) hb (by omega) (by omega)
      show TV.int .u32 (W.inv .u32 (Sp.crc 4294967295 b)) = TV.int .u32 (4294967295 - Sp.crc 4294967295 b)
      rw [Sp.inv_u32 hc.1 hc.2]
end Go.Proofs.Ytmfegciehdjicaa
