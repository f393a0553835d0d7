/-
  Texts of a proof over the translated program: N4D.
-/
import Derived.Test.YtijahjkcbphmcaaN4C
set_option linter.unusedVariables false
namespace Sp
open Go Go.AbsM
theorem one_shl : ∀ r : Fin 8, W.shl .u8 1 (r.val : Int) = (((1 <<< r.val : Nat)) : Int) := by decide +kernel
theorem one_lt : ∀ r : Fin 8, 1 <<< r.val < 256 := by decide
/-- A bit is laid. -/
theorem set_bit {b : List Int} {L v A : Nat} (hb : b = ofVal L v) (hA : A / 8 < L) : W.upd b (A / 8) (W.or .u8 (W.nth b (A / 8) 0) (W.shl .u8 1 ((A % 8 : Nat) : Int))) = ofVal L (v ||| 1 <<< A) := by
  subst hb
  have hm : A % 8 < 8 := Nat.mod_lt _ (by decide)
  have h1 := one_shl ⟨A % 8, hm⟩
  have h2 := one_lt ⟨A % 8, hm⟩
  simp only at h1 h2
  have e1 : W.nth (ofVal L v) (A / 8) 0 = ((v >>> (8 * (A / 8)) % 256 : Nat) : Int) := ofVal_get hA
  rw [e1, h1, or_u8n (Nat.mod_lt _ (by decide)) h2]
  have := ofVal_or (L := L) (v := v) hA h2
  rw [← Nat.shiftLeft_add] at this
  have e2 : A % 8 + 8 * (A / 8) = A := Nat.mod_add_div A 8
  rw [e2] at this
  exact this
end Sp
namespace Go.Proofs.Ytijahjkcbphmcaa
open Go.AbsM
theorem good18L : Goods Try.prog [ctr20, ctr25] := .cons good20 (.cons good25 .nil)
theorem good18 : GoodC Try.prog ctr18 := by
  have hK := knownL_ok wide good18L blk18 noneK
  have inner : ∀ s Φ, loopP 67 [0, 1, 6, 7, 8, 9] [29] mk18i psi18i s Φ → Run Try.prog (.code (.block 2 (blkC (bodyOf Try.f18) 2))) s Φ := by
    refine run_loopB (lx := [0, 1, 6, 7, 8]) (kx := [29]) hK (fun i : List Int × Int × Int × Int × Int × List Int => (i.2.1 - i.2.2.2.2.1).toNat) (by kernel_rfl) (lamOk_free (by kernel_rfl)) ?_
    rintro ⟨l, w, i, a, k, b⟩ Φ ⟨⟨hp, h0, h1, h2, h3, ha, v, hv, hvl, hin⟩, hΦ⟩
    have hp : preP l w := hp
    simp only at h0 h1 h2 h3 ha hv hvl hin hΦ
    obtain ⟨p1, p2, p3, p4, p5⟩ := id hp
    obtain ⟨W0, rfl⟩ : ∃ W0 : Nat, w = W0 := ⟨w.toNat, by omega⟩
    obtain ⟨n, rfl⟩ : ∃ n : Nat, i = n := ⟨i.toNat, by omega⟩
    obtain ⟨K, rfl⟩ : ∃ K : Nat, k = K := ⟨k.toNat, by omega⟩
    have hn : Sp.Num l W0 l.length := num_of hp
    have hnl : n < l.length := by omega
    have hm := hn.mul (i := n + 1) hnl
    have e0 : (n + 1) * W0 = n * W0 + W0 := by rw [Nat.add_mul, Nat.one_mul]
    obtain ⟨A, hA⟩ : ∃ A : Nat, A = n * W0 + K := ⟨_, rfl⟩
    have haA : a = (A : Int) := by rw [ha, hA]; push_cast; rfl
    subst haA
    simp only [Int.toNat_natCast] at hvl hin hv
    rw [hn.size, Int.toNat_natCast] at hv
    have hx := Sp.inU_getD p1 hnl
    have hf := (p5 (l.getD n 0) (by rw [List.getD_eq_getElem?_getD, List.getElem?_eq_getElem hnl]; exact List.getElem_mem hnl)).2
    rw [Int.toNat_natCast] at hf
    refine Eq.mpr (nf18i _ _ _ _ l W0 n A K b Φ _) ?_
    refine brc_ilt (fun h => ?_) fun h => ?_
    · have hA8 : A / 8 < (l.length * W0 + 7) / 8 := by omega
      have hbl : b.length = (l.length * W0 + 7) / 8 := by rw [hv, Sp.ofVal_len]
      have e1 : W.wrap .u64 (K : Int) = (K : Int) := W.wu64_in (by omega) (by omega)
      have e2 : W.nth l (W.toNat (n : Int)) 0 = (((l.getD n 0).toNat : Nat) : Int) := by show l.getD n 0 = _; omega
      have e3 := Sp.quo8 (A := A) (by omega)
      have e4 : W.wrap .u64 (W.rem (A : Int) 8) = ((A % 8 : Nat) : Int) := by rw [Sp.rem8, W.wu64_in (by omega) (by omega)]
      have e5 : W.toNat ((A / 8 : Nat) : Int) = A / 8 := rfl
      have e6 : W.add .i64 (A : Int) 1 = ((A + 1 : Nat) : Int) := by rw [W.add_i64 (by omega) (by omega)]; rfl
      have e7 : W.add .i64 (K : Int) 1 = ((K + 1 : Nat) : Int) := by rw [W.add_i64 (by omega) (by omega)]; rfl
      have hsx : (l.getD n 0).toNat >>> K < 18446744073709551616 := by
        rw [Nat.shiftRight_eq_div_pow]
        exact Nat.lt_of_le_of_lt (Nat.div_le_self _ _) (by omega)
      have e8 : W.and .u64 (W.shr .u64 (((l.getD n 0).toNat : Nat) : Int) (K : Int)) 1 = ((((l.getD n 0).toNat >>> K) % 2 : Nat) : Int) := by
        rw [Sp.shr_nat (k := .u64) (by show K ≤ 64; omega)]
        have := Sp.and_u64 (x := (l.getD n 0).toNat >>> K) (y := 1) hsx (by decide)
        rw [← Nat.and_one_is_mod]; exact this
      rw [e1, e2, e3, e4, e5, e6, e7, e8]
      have hsplit := Sp.bit_split (l.getD n 0).toNat K A
      have next : ∀ (b2 : List Int) (v2 : Nat), b2 = Sp.ofVal ((l.length * W0 + 7) / 8) v2 → v2 = v ||| (((l.getD n 0).toNat >>> K) % 2) <<< A → ∃ j, mkS 67 [(0, TV.l 39 (.int .u64) l), (1, TV.int .i64 (W0 : Int)), (6, TV.h 29), (7, TV.int .i64 ((A + 1 : Nat) : Int)), (8, TV.int .i64 (n : Int)), (9, TV.int .i64 ((K + 1 : Nat) : Int))] [(29, .arr false 5 (.int .u8) b2)] = mk18i j ∧ (fun i : List Int × Int × Int × Int × Int × List Int => (i.2.1 - i.2.2.2.2.1).toNat) j < (fun i : List Int × Int × Int × Int × Int × List Int => (i.2.1 - i.2.2.2.2.1).toNat) (l, (W0 : Int), (n : Int), (A : Int), (K : Int), b) ∧ psi18i j Φ := fun b2 v2 hb2 hv2 => by
        refine ⟨(l, (W0 : Int), (n : Int), ((A + 1 : Nat) : Int), ((K + 1 : Nat) : Int), b2), rfl, ?_, ⟨hp, h0, h1, ?_, ?_, ?_, v2, ?_, ?_, ?_⟩, hΦ⟩
        · show ((W0 : Int) - ((K + 1 : Nat) : Int)).toNat < ((W0 : Int) - (K : Int)).toNat; omega
        · show 0 ≤ ((K + 1 : Nat) : Int); omega
        · show ((K + 1 : Nat) : Int) ≤ (W0 : Int); omega
        · show ((A + 1 : Nat) : Int) = (n : Int) * (W0 : Int) + ((K + 1 : Nat) : Int)
          rw [hA]; push_cast; omega
        · show b2 = Sp.ofVal (Sp.size (l.length : Int) (W0 : Int)).toNat v2
          rw [hn.size, Int.toNat_natCast]; exact hb2
        · show v2 < 2 ^ (A + 1)
          rw [hv2]
          apply Nat.or_lt_two_pow
          · exact Nat.lt_of_lt_of_le hvl (Nat.pow_le_pow_right (by decide) (by omega))
          · rw [Nat.shiftLeft_eq, Nat.pow_succ]
            have : ((l.getD n 0).toNat >>> K) % 2 < 2 := Nat.mod_lt _ (by decide)
            calc ((l.getD n 0).toNat >>> K) % 2 * 2 ^ A < 2 * 2 ^ A := Nat.mul_lt_mul_of_pos_right this (Nat.two_pow_pos _)
              _ = 2 ^ A * 2 := Nat.mul_comm _ _
        · show v2 ||| ((l.getD n 0).toNat >>> (K + 1)) <<< (A + 1) = _
          rw [hv2, Nat.or_assoc, ← hsplit]; exact hin
      refine grd_ile (by omega) (grd_nlt hnl (grd_ile (by omega) (brc_ieq (fun hb1 => ?_) fun hb1 => ?_)))
      · have hbit : ((l.getD n 0).toNat >>> K) % 2 = 1 := by omega
        have hset := Sp.set_bit hv hA8
        have hbA : A / 8 < W.len b := by show A / 8 < b.length; rw [hbl]; exact hA8
        exact grd_ile (by omega) (grd_nlt hbA (grd_nlt hbA (grd_ile (by omega) (grd_ile (by omega) (grd_nlt hbA (grd_nlt hbA (next _ _ hset (by rw [hbit]))))))))
      · have hbit : ((l.getD n 0).toNat >>> K) % 2 = 0 := by
          have := Nat.mod_lt ((l.getD n 0).toNat >>> K) (show 0 < 2 by decide)
          omega
        exact next b v hv (by rw [hbit, Nat.zero_shiftLeft, Nat.or_zero])
    · have hK : K = W0 := by omega
      subst hK
      have hz : (l.getD n 0).toNat >>> K = 0 := by
        rw [Nat.shiftRight_eq_div_pow]; exact Nat.div_eq_of_lt hf
      rw [hz, Nat.zero_shiftLeft, Nat.or_zero] at hin
      have en : Sp.nextI (n : Int) = ((n + 1 : Nat) : Int) := rfl
      have e1 : Sp.mulI ((n + 1 : Nat) : Int) (K : Int) = (A : Int) := by
        show ((n + 1 : Nat) : Int) * (K : Int) = _
        rw [hA, ← Int.natCast_mul, e0]
      have e2 : Sp.putTo l (K : Int) ((n + 1 : Nat) : Int) = b := by rw [Sp.putTo_nat hn, hv, hin]
      rw [en, e1, e2] at hΦ
      exact hΦ
  have outer : ∀ s Φ, loopP 67 [0, 1, 6, 7, 8] [29] mk18 psi18 s Φ → Run Try.prog (.code (.block 0 (blkC (bodyOf Try.f18) 0))) s Φ := by
    refine run_loopB (lx := [6]) (kx := [29]) hK (fun i : List Int × Int × Int × Int × List Int => (i.1.length - i.2.2.1).toNat) (by kernel_rfl) ?_ ?_
    · refine lamOk_of (fun id c' hm ψ hψ => ?_) (fun c' hm => ?_)
      · have hids : (blocksOf (loopOf (blkC (bodyOf Try.f18) 0))).map (·.1) = [1, 2, 3] := by kernel_rfl
        have hc : c' = blkC (loopOf (blkC (bodyOf Try.f18) 0)) id := findB_mem (by rw [hids]; rfl) hm
        have hid : id ∈ [1, 2, 3] := by rw [← hids]; exact List.mem_map.2 ⟨_, hm, rfl⟩
        simp only [List.mem_cons, List.not_mem_nil, or_false] at hid
        rcases hid with rfl | rfl | rfl
        · cases hψ
        · cases hψ
          rw [hc]
          have : blkC (loopOf (blkC (bodyOf Try.f18) 0)) 2 = blkC (bodyOf Try.f18) 2 := by kernel_rfl
          rw [this]; exact inner
        · cases hψ
      · have : scopesOf (loopOf (blkC (bodyOf Try.f18) 0)) = [] := by kernel_rfl
        rw [this] at hm; cases hm
    rintro ⟨l, w, i, a, b⟩ Φ ⟨⟨hp, h0, h1, ha, hb⟩, hΦ⟩
    have hp : preP l w := hp
    simp only at h0 h1 ha hb hΦ
    obtain ⟨p1, p2, p3, p4, p5⟩ := id hp
    obtain ⟨W0, rfl⟩ : ∃ W0 : Nat, w = W0 := ⟨w.toNat, by omega⟩
    obtain ⟨n, rfl⟩ : ∃ n : Nat, i = n := ⟨i.toNat, by omega⟩
    have hn : Sp.Num l W0 l.length := num_of hp
    refine Eq.mpr (nf18s _ _ _ _ l W0 n a b Φ _) ?_
    refine brc_ilt (fun h => ?_) fun h => ?_
    · have h : n < l.length := by have : ((n : Nat) : Int) < ((l.length : Nat) : Int) := h; omega
      have e3 : W.add .i64 (n : Int) 1 = ((n + 1 : Nat) : Int) := by rw [W.add_i64 (by omega) (by omega)]; rfl
      have haN : a = ((n * W0 : Nat) : Int) := by rw [ha]; exact (Int.natCast_mul n W0).symm
      refine ⟨(l, (W0 : Int), (n : Int), a, 0, b), rfl, ⟨hp, h0, ?_, Int.le_refl _, p3, ?_, Sp.packN W0 (l.take n), ?_, ?_, ?_⟩, ?_⟩
      · show (n : Int) < l.length; omega
      · show a = (n : Int) * (W0 : Int) + 0; rw [Int.add_zero]; exact ha
      · show b = Sp.ofVal (Sp.size (l.length : Int) (W0 : Int)).toNat _
        rw [hn.size, Int.toNat_natCast, hb, Sp.putTo_nat hn]
      · show Sp.packN W0 (l.take n) < 2 ^ a.toNat
        rw [haN, Int.toNat_natCast]; exact hn.lt (by omega)
      · show Sp.packN W0 (l.take n) ||| ((l.getD n 0).toNat >>> 0) <<< a.toNat = Sp.packN W0 (l.take (n + 1))
        rw [haN, Int.toNat_natCast, Nat.shiftRight_zero, Sp.packN_take h]
      · show ∃ j, mkS 67 [(0, TV.l 39 (.int .u64) l), (1, TV.int .i64 (W0 : Int)), (6, TV.h 29), (7, TV.int .i64 (Sp.mulI ((n + 1 : Nat) : Int) (W0 : Int))), (8, TV.int .i64 (W.add .i64 (n : Int) 1))] [(29, .arr false 5 (.int .u8) (Sp.putTo l (W0 : Int) ((n + 1 : Nat) : Int)))] = mk18 j ∧ _ ∧ psi18 j Φ
        rw [e3]
        refine ⟨(l, (W0 : Int), ((n + 1 : Nat) : Int), _, _), rfl, ?_, ⟨hp, ?_, ?_, rfl, rfl⟩, hΦ⟩
        · show ((l.length : Int) - ((n + 1 : Nat) : Int)).toNat < ((l.length : Int) - (n : Int)).toNat; omega
        · show 0 ≤ ((n + 1 : Nat) : Int); omega
        · show ((n + 1 : Nat) : Int) ≤ (l.length : Int); omega
    · have h : ((l.length : Nat) : Int) ≤ (n : Int) := h
      have : n = l.length := by omega
      subst this
      rw [hb, Sp.putTo_end hn]; exact hΦ
  refine good_by (blk := blk18) (lab := noneK) (fn := Try.f18) wide good18L ⟨by kernel_rfl, by kernel_rfl, by kernel_rfl, by kernel_rfl⟩ (lamOk_body (by kernel_rfl) (by kernel_rfl) (fun id ψ h => ?_) (fun l rest ψ _ hl => by cases hl)) fun d hd => ?_
  · have h : blk18 id = some ψ := h
    unfold blk18 at h
    split at h
    · rename_i hb
      have := Nat.eq_of_beq_eq_true hb
      subst this
      cases h; exact outer
    · obtain ⟨rfl, rfl⟩ := one_some h
      exact inner
  · obtain ⟨l, w, u⟩ : List Int × Int × Unit := d
    obtain ⟨hu, hlen⟩ : Sp.inU l ∧ l.length < 9223372036854775807 := hd
    refine Eq.mpr (nf18 l w _) (enterP (f := 18) (u := u) hu hlen fun hp he hr => ⟨(l, w, 0, 0, _), rfl, ⟨hp, Int.le_refl _, ?_, ?_, hr⟩, outOk0 he⟩)
    · show (0 : Int) ≤ l.length; omega
    · show (0 : Int) = 0 * w; rw [Int.zero_mul]
end Go.Proofs.Ytijahjkcbphmcaa
