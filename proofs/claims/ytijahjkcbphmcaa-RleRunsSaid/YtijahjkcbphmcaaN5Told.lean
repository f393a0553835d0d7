/-
  Texts of a proof over the translated program: N5Told.
-/
import Derived.Test.YtijahjkcbphmcaaN5ToldNf
set_option linter.unusedVariables false
namespace Go.Proofs.Ytijahjkcbphmcaa
open Go.AbsM
theorem good53L : Goods Try.prog [ctr53] := .cons (good53 .nil) .nil
theorem good47 : GoodC Try.prog ctr47 := by
  refine good_plain (fn := Try.f47) wide good53L ⟨by kernel_rfl, by kernel_rfl, by kernel_rfl, by kernel_rfl⟩ (by kernel_rfl) fun d hd => ?_
  obtain ⟨b, a, x⟩ : List Int × Int × Unit := d
  obtain ⟨hb, hl, h0, h1⟩ : Sp.bytes b ∧ b.length < 4611686018427387904 ∧ -9223372036854775808 ≤ a ∧ a < 9223372036854775808 := hd
  refine Eq.mpr (nf47 b a _) ⟨⟨hb, hl, h0, h1⟩, brc_ine (fun h => ?_) fun h => ?_⟩
  · show _ = TV.tup [.agg [.a (.x (.int .u64 (Sp.next b a).1.1)), .a (.x (.int .u64 (Sp.next b a).1.2))], .c (.a (.x (.int .i64 (Sp.next b a).2.1))), .c (.a (.x (.int .i64 (Sp.next b a).2.2)))]
    unfold Sp.next; rw [if_pos h]
  · refine ⟨⟨hb, hl, Sp.add_in _ _⟩, brc_ine (fun h2 => ?_) fun h2 => ?_⟩
    · show _ = TV.tup [.agg [.a (.x (.int .u64 (Sp.next b a).1.1)), .a (.x (.int .u64 (Sp.next b a).1.2))], .c (.a (.x (.int .i64 (Sp.next b a).2.1))), .c (.a (.x (.int .i64 (Sp.next b a).2.2)))]
      unfold Sp.next; rw [if_neg (fun y => y h), if_pos h2]
    · show _ = TV.tup [.agg [.a (.x (.int .u64 (Sp.next b a).1.1)), .a (.x (.int .u64 (Sp.next b a).1.2))], .c (.a (.x (.int .i64 (Sp.next b a).2.1))), .c (.a (.x (.int .i64 (Sp.next b a).2.2)))]
      unfold Sp.next; rw [if_neg (fun y => y h), if_neg (fun y => y h2)]
theorem add_u64 {a b : Int} (h0 : 0 ≤ a + b) (h1 : a + b < 18446744073709551616) : W.add .u64 a b = a + b := by
  unfold W.add; rw [wrap_u64]; omega
theorem inP_get {l : List (Int × Int × Unit)} (h : Sp.inP l) {i : Nat} (hi : i < l.length) : (0 ≤ (l.getD i (0, 0, ())).1 ∧ (l.getD i (0, 0, ())).1 < 18446744073709551616) ∧ 0 ≤ (l.getD i (0, 0, ())).2.1 ∧ (l.getD i (0, 0, ())).2.1 < 18446744073709551616 := by
  rw [List.getD_eq_getElem?_getD, List.getElem?_eq_getElem hi]; exact h _ (List.getElem_mem hi)
theorem good46 : GoodC Try.prog ctr46 := by
  have hK := knownL_ok wide .nil blk46 noneK
  have inner : ∀ s Φ, loopP 28 [5, 7, 10, 11, 12, 17, 18] [7, 9] mk46i psi46i s Φ → Run Try.prog (.code (.block 2 (blkC (bodyOf Try.f46) 2))) s Φ := by
    refine run_loopB (lx := [5, 10, 11, 12]) (kx := [9]) hK (fun i : List (Int × Int × Unit) × Int × List Int × Int × Int × Int => (i.2.2.2.1 - i.2.2.2.2.2).toNat) (by kernel_rfl) (lamOk_free (by kernel_rfl)) ?_
    rintro ⟨l, i, xs, c, x, j⟩ Φ ⟨⟨h0, h1, hc, h2⟩, hΦ⟩
    simp only at h0 h1 hc h2 hΦ
    refine Eq.mpr (nf46i _ _ _ _ l i c x j xs Φ _) ?_
    refine brc_ilt (fun h => ?_) fun h => ?_
    · obtain ⟨k, hk⟩ : ∃ k : Nat, (c - j).toNat = k + 1 := ⟨(c - j).toNat - 1, by omega⟩
      rw [hk, List.replicate_succ] at hΦ
      rw [hk] at h2
      have hk2 : (c - (j + 1)).toNat = k := by omega
      have hadd : W.add .u64 j 1 = j + 1 := add_u64 (by omega) (by omega)
      rw [hadd]
      refine grd_nle (by simp only [W.nmul, W.nadd, W.len, List.length_cons, List.length_nil]; omega) ⟨(l, i, xs ++ [x], c, x, j + 1), rfl, ?_, ⟨?_, ?_, hc, ?_⟩, ?_⟩
      · show (c - (j + 1)).toNat < (c - j).toNat; omega
      · show 0 ≤ j + 1; omega
      · show j + 1 ≤ c; omega
      · show (xs ++ [x]).length + (c - (j + 1)).toNat < 1000000
        rw [List.length_append]; simp only [List.length_cons, List.length_nil]; omega
      · show Φ .normal (mk46 (l, i, (xs ++ [x]) ++ List.replicate (c - (j + 1)).toNat x))
        rw [hk2, List.append_assoc]; exact hΦ
    · have e : (c - j).toNat = 0 := by omega
      rw [e, List.replicate_zero, List.append_nil] at hΦ
      exact hΦ
  have outer : ∀ s Φ, loopP 28 [5, 10, 11, 12] [9] mk46 psi46 s Φ → Run Try.prog (.code (.block 0 (blkC (bodyOf Try.f46) 0))) s Φ := by
    refine run_loopB (lx := [5]) (kx := [9]) hK (fun i : List (Int × Int × Unit) × Int × List Int => (i.1.length - i.2.1).toNat) (by kernel_rfl) ?_ ?_
    · refine lamOk_of (fun id c' hm ψ hψ => ?_) (fun c' hm => ?_)
      · have hids : (blocksOf (loopOf (blkC (bodyOf Try.f46) 0))).map (·.1) = [1, 2, 3] := by kernel_rfl
        have hc : c' = blkC (loopOf (blkC (bodyOf Try.f46) 0)) id := findB_mem (by rw [hids]; rfl) hm
        have hid : id ∈ [1, 2, 3] := by rw [← hids]; exact List.mem_map.2 ⟨_, hm, rfl⟩
        simp only [List.mem_cons, List.not_mem_nil, or_false] at hid
        rcases hid with rfl | rfl | rfl
        · cases hψ
        · cases hψ
          rw [hc]
          have : blkC (loopOf (blkC (bodyOf Try.f46) 0)) 2 = blkC (bodyOf Try.f46) 2 := by kernel_rfl
          rw [this]; exact inner
        · cases hψ
      · have : scopesOf (loopOf (blkC (bodyOf Try.f46) 0)) = [] := by kernel_rfl
        rw [this] at hm; cases hm
    rintro ⟨l, i, xs⟩ Φ ⟨⟨hl, hn, h0, h1, h2⟩, hΦ⟩
    simp only at hl hn h0 h1 h2 hΦ
    obtain ⟨n, rfl⟩ : ∃ n : Nat, i = n := ⟨i.toNat, by omega⟩
    have e4 : ((n : Int)).toNat = n := rfl
    rw [e4] at h2 hΦ
    refine Eq.mpr (nf46s _ _ _ l n xs Φ _) ?_
    have e1 : Int.ofNat (List.length l) = (l.length : Int) := rfl
    have e2 : W.toNat (n : Int) = n := rfl
    have e3 : W.nth l n (0, 0, ()) = l.getD n (0, 0, ()) := rfl
    rw [e1, e2, e3]
    refine brc_ilt (fun h => ?_) fun h => ?_
    · have hlt : n < l.length := by omega
      have hg := inP_get hl hlt
      rw [Sp.told_drop hlt] at h2 hΦ
      rw [List.length_append, List.length_replicate] at h2
      refine grd_ile (by omega) (grd_nlt hlt ⟨(l, (n : Int), xs, (l.getD n (0, 0, ())).1, (l.getD n (0, 0, ())).2.1, 0), rfl, ⟨Int.le_refl _, hg.1.1, hg.1.2, ?_⟩, (l, (n : Int) + 1, xs ++ List.replicate (l.getD n (0, 0, ())).1.toNat (l.getD n (0, 0, ())).2.1), ?_, ?_, ⟨hl, hn, ?_, ?_, ?_⟩, ?_⟩)
      · show xs.length + ((l.getD n (0, 0, ())).1 - 0).toNat < 1000000
        rw [Int.sub_zero]; omega
      · show mkS 28 [(5, TV.h 9), (10, .o (.c (.sl 71 (.pair (.int .u64) (.pair (.int .u64) .unit)) (.mk l)))), (11, TV.int .i64 l.length), (12, TV.int .i64 (W.add .i64 (n : Int) 1))] [(9, .arr false 39 (.int .u64) (xs ++ List.replicate ((l.getD n (0, 0, ())).1 - 0).toNat (l.getD n (0, 0, ())).2.1))] = _
        rw [W.add_i64 (by omega) (by omega), Int.sub_zero]; rfl
      · show ((l.length : Int) - ((n : Int) + 1)).toNat < ((l.length : Int) - (n : Int)).toNat; omega
      · show 0 ≤ (n : Int) + 1; omega
      · show (n : Int) + 1 ≤ l.length; omega
      · show (xs ++ List.replicate (l.getD n (0, 0, ())).1.toNat (l.getD n (0, 0, ())).2.1).length + (Sp.told (l.drop ((n : Int) + 1).toNat)).length < 1000000
        have e5 : ((n : Int) + 1).toNat = n + 1 := by omega
        rw [e5, List.length_append, List.length_replicate]; omega
      · show Φ .normal (mkS 28 [(5, TV.h 9)] [(9, .arr false 39 (.int .u64) ((xs ++ List.replicate (l.getD n (0, 0, ())).1.toNat (l.getD n (0, 0, ())).2.1) ++ Sp.told (l.drop ((n : Int) + 1).toNat)))])
        have e5 : ((n : Int) + 1).toNat = n + 1 := by omega
        rw [e5]
        exact Eq.mpr (congrArg (fun y : List Int => Φ .normal (mkS 28 [(5, TV.h 9)] [(9, .arr false 39 (.int .u64) y)])) (List.append_assoc xs _ _)) hΦ
    · have : l.drop n = [] := List.drop_eq_nil_of_le (by omega)
      rw [this, Sp.told, List.append_nil] at hΦ
      exact hΦ
  refine good_by (blk := blk46) (lab := noneK) (fn := Try.f46) wide .nil ⟨by kernel_rfl, by kernel_rfl, by kernel_rfl, by kernel_rfl⟩ (lamOk_body (by kernel_rfl) (by kernel_rfl) (fun id ψ h => ?_) (fun l rest ψ _ hl => by cases hl)) fun d hd => ?_
  · have h : blk46 id = some ψ := h
    unfold blk46 at h
    split at h
    · rename_i hb
      have := Nat.eq_of_beq_eq_true hb
      subst this
      cases h; exact outer
    · obtain ⟨rfl, rfl⟩ := one_some h
      exact inner
  · obtain ⟨l, n, x⟩ : List (Int × Int × Unit) × Int × Unit := d
    obtain ⟨hl, hn, ht, h0, h1⟩ : Sp.inP l ∧ l.length < 1000000 ∧ (Sp.told l).length < 1000000 ∧ 0 ≤ n ∧ n < 1000000 := hd
    refine Eq.mpr (nf46 l n _) ?_
    refine grd_ile h0 (grd_ile (by omega) (grd_ile (by simp only [W.bys]; omega) ⟨(l, 0, []), rfl, ⟨hl, hn, Int.le_refl _, ?_, ?_⟩, rfl⟩))
    · show (0 : Int) ≤ l.length; omega
    · show ([] : List Int).length + (Sp.told l).length < 1000000
      simp only [List.length_nil]; omega
end Go.Proofs.Ytijahjkcbphmcaa
