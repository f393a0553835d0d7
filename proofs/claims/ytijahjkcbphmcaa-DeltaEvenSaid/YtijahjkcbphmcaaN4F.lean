/-
  Texts of a proof over the translated program: N4F.
-/
import Derived.Test.YtijahjkcbphmcaaN4E
set_option linter.unusedVariables false
namespace Sp
open Go Go.AbsM
theorem getB_end {b : List Int} {N M : Nat} (h : Fit b N M) {i : Nat} (hi : i < N) : gotN b (N : Int) (M : Int) ((i + 1 : Nat) : Int) = gotN b (N : Int) (M : Int) (i : Int) ++ [getB b (mulI (i : Int) (M : Int)) (M : Int)] := by
  rw [gotN_step hi]
  have : mulI (i : Int) (M : Int) = ((i * M : Nat) : Int) := (Int.natCast_mul i M).symm
  rw [this]
theorem rest_next {V c a : Nat} (h : (V >>> c) % 2 ^ (a - c) = 0) (hc : c ≤ a) (hz : (V >>> a) % 2 = 0) : (V >>> c) % 2 ^ (a + 1 - c) = 0 := by
  have e : a + 1 - c = (a - c) + 1 := by omega
  have e2 : c + (a - c) = a := by omega
  rw [e, bit_next, h, e2, hz, Nat.zero_shiftLeft]; rfl
theorem rest_no {V c a : Nat} (hc : c ≤ a) (h1 : (V >>> a) % 2 = 1) : V >>> c ≠ 0 := fun h => by
  have e : V >>> a = (V >>> c) >>> (a - c) := by rw [← Nat.shiftRight_add]; congr 1; omega
  rw [e, h, Nat.zero_shiftRight] at h1
  exact absurd h1 (by decide)
end Sp
namespace Go.Proofs.Ytijahjkcbphmcaa
open Go.AbsM
theorem cleanT_mono4 {n : Nat} {ls ks : List Nat} {s : TSt} {K K' : TSt → Prop} (h : ∀ s, K s → K' s) : cleanT n ls ks s K → cleanT n ls ks s K' := by
  unfold cleanT
  intro hh
  simp only at hh ⊢
  split at hh
  · rename_i hc
    rw [if_pos hc]; exact h _ hh
  · exact hh.elim
theorem good25L : Goods Try.prog [ctr25] := .cons good25 .nil
theorem known24 : KnownOk Try.prog (envL [ctr25]) (knownL [ctr25] blk24 noneK) := knownL_ok wide good25L blk24 noneK
abbrev I24 := (List Int × Int × Int × Int × Int) ⊕ (List Int × Int × Int × Int × Int × Int × Int × List Int)
def mk24s : I24 → TSt
  | .inl i => mk24ia i
  | .inr i => mk24ib i
def psi24s : I24 → Post → Prop
  | .inl i => psi24ia i
  | .inr i => psi24ib i
def mu24s : I24 → Nat
  | .inl i => (i.2.2.1 - i.2.2.2.1).toNat
  | .inr i => (i.2.2.1 - i.2.2.2.2.2.1).toNat
theorem inner24 : ∀ s Φ, piece24i s Φ → Run Try.prog (.code (.block 2 (blkC (bodyOf Try.f24) 2))) s Φ := by
  intro s Φ hp
  refine run_loopB (n := 90) (ls := [0, 1, 2, 8, 9, 10, 11, 12]) (ks := [70]) (lx := [0, 1, 2, 8, 9, 10, 11]) (kx := [70]) (mk := mk24s) (ψ := psi24s) known24 mu24s (by kernel_rfl) (lamOk_free (by kernel_rfl)) ?_ s Φ (cleanT_mono4 (fun s2 h => by
    rcases h with ⟨i, h1, h2⟩ | ⟨i, h1, h2⟩
    · exact ⟨.inl i, h1, h2⟩
    · exact ⟨.inr i, h1, h2⟩) hp)
  rintro (⟨b, n, w, k, v⟩ | ⟨b, n, w, i, a, k, v, xs⟩) Φ ⟨hpre, hΦ⟩
  · obtain ⟨hf, hn0, h0, h1, hv⟩ := hpre
    simp only at hf hn0 h0 h1 hv hΦ
    have hfb := hf
    obtain ⟨N, M, rfl, rfl, hF⟩ := Sp.fit_of hf
    obtain ⟨K, rfl⟩ : ∃ K : Nat, k = K := ⟨k.toNat, by omega⟩
    have hm := hF.mul (i := 1) (by omega)
    have hl := hF.len
    have hw := hF.hw
    refine Eq.mpr (nf24ia _ mk24s psi24s mu24s b N M K v Φ _) ?_
    refine brc_ilt (fun h => ?_) fun h => ?_
    · have hj : K / 8 < b.length := by omega
      have e1 := Sp.quo8 (A := K) (by omega)
      have e2 : W.wrap .u64 (W.rem (K : Int) 8) = ((K % 8 : Nat) : Int) := by rw [Sp.rem8, W.wu64_in (by omega) (by omega)]
      have e3 : W.wrap .u64 (K : Int) = (K : Int) := W.wu64_in (by omega) (by omega)
      have e4 : W.toNat ((K / 8 : Nat) : Int) = K / 8 := rfl
      have e5 : W.add .i64 (K : Int) 1 = ((K + 1 : Nat) : Int) := by rw [W.add_i64 (by omega) (by omega)]; rfl
      rw [e1, e2, e3, e4, e5, Sp.read_bit hF.hb hj]
      have next : ∀ v2 : Int, v2 = Sp.getB b 0 ((K + 1 : Nat) : Int) → ∃ j, mkS 90 [(0, TV.l 5 (.int .u8) b), (1, TV.int .i64 (N : Int)), (2, TV.int .i64 (M : Int)), (8, .a .nils), (9, TV.int .i64 ((K + 1 : Nat) : Int)), (10, TV.int .i64 0), (11, TV.int .u64 v2), (12, TV.int .i64 ((K + 1 : Nat) : Int))] [] = mk24s j ∧ mu24s j < mu24s (.inl (b, (N : Int), (M : Int), (K : Int), v)) ∧ psi24s j Φ := fun v2 hv2 => by
        refine ⟨.inl (b, (N : Int), (M : Int), ((K + 1 : Nat) : Int), v2), rfl, ?_, ⟨hfb, hn0, ?_, ?_, hv2⟩, hΦ⟩
        · show ((M : Int) - ((K + 1 : Nat) : Int)).toNat < ((M : Int) - (K : Int)).toNat; omega
        · show 0 ≤ ((K + 1 : Nat) : Int); omega
        · show ((K + 1 : Nat) : Int) ≤ (M : Int); omega
      refine grd_ile (by omega) (grd_nlt hj (grd_ile (by omega) (brc_ieq (fun hb1 => grd_ile (by omega) (next _ ?_)) fun hb1 => next _ ?_)))
      · rw [hv]
        have hz : 0 + K = K := by omega
        exact Sp.getB_one (a := 0) (by omega) (by rw [hz]; omega)
      · rw [hv]
        have hz : 0 + K = K := by omega
        have := Nat.mod_lt (Sp.valOf b >>> K) (show 0 < 2 by decide)
        exact Sp.getB_none (a := 0) (by rw [hz]; omega)
    · have : K = M := by omega
      subst this
      rw [hv]; exact hΦ
  · obtain ⟨hf, hi0, hi1, h0, h1, ha, hv⟩ := hpre
    simp only at hf hi0 hi1 h0 h1 ha hv hΦ
    have hfb := hf
    obtain ⟨N, M, rfl, rfl, hF⟩ := Sp.fit_of hf
    obtain ⟨K, rfl⟩ : ∃ K : Nat, k = K := ⟨k.toNat, by omega⟩
    obtain ⟨I, rfl⟩ : ∃ I : Nat, i = I := ⟨i.toNat, by omega⟩
    have hm := hF.mul (i := I + 1) (by omega)
    have e0 : (I + 1) * M = I * M + M := by rw [Nat.add_mul, Nat.one_mul]
    obtain ⟨A, hA⟩ : ∃ A : Nat, A = I * M + K := ⟨_, rfl⟩
    have haA : a = (A : Int) := by
      have ha : a = (I : Int) * (M : Int) + (K : Int) := ha
      rw [ha, hA, ← Int.natCast_mul]; omega
    have emul : Sp.mulI (I : Int) (M : Int) = ((I * M : Nat) : Int) := (Int.natCast_mul I M).symm
    subst haA
    rw [emul] at hv hΦ
    have hl := hF.len
    have hw := hF.hw
    refine Eq.mpr (nf24ib _ mk24s psi24s mu24s b N M I A K v xs Φ _) ?_
    refine brc_ilt (fun h => ?_) fun h => ?_
    · have hj : A / 8 < b.length := by omega
      have e1 := Sp.quo8 (A := A) (by omega)
      have e2 : W.wrap .u64 (W.rem (A : Int) 8) = ((A % 8 : Nat) : Int) := by rw [Sp.rem8, W.wu64_in (by omega) (by omega)]
      have e3 : W.wrap .u64 (K : Int) = (K : Int) := W.wu64_in (by omega) (by omega)
      have e4 : W.toNat ((A / 8 : Nat) : Int) = A / 8 := rfl
      have e5 : W.add .i64 (K : Int) 1 = ((K + 1 : Nat) : Int) := by rw [W.add_i64 (by omega) (by omega)]; rfl
      have e6 : W.add .i64 (A : Int) 1 = ((A + 1 : Nat) : Int) := by rw [W.add_i64 (by omega) (by omega)]; rfl
      rw [e1, e2, e3, e4, e5, e6, Sp.read_bit hF.hb hj]
      have next : ∀ v2 : Int, v2 = Sp.getB b ((I * M : Nat) : Int) ((K + 1 : Nat) : Int) → ∃ j, mkS 90 [(0, TV.l 5 (.int .u8) b), (1, TV.int .i64 (N : Int)), (2, TV.int .i64 (M : Int)), (8, TV.h 70), (9, TV.int .i64 ((A + 1 : Nat) : Int)), (10, TV.int .i64 (I : Int)), (11, TV.int .u64 v2), (12, TV.int .i64 ((K + 1 : Nat) : Int))] [(70, .arr false 39 (.int .u64) xs)] = mk24s j ∧ mu24s j < mu24s (.inr (b, (N : Int), (M : Int), (I : Int), (A : Int), (K : Int), v, xs)) ∧ psi24s j Φ := fun v2 hv2 => by
        refine ⟨.inr (b, (N : Int), (M : Int), (I : Int), ((A + 1 : Nat) : Int), ((K + 1 : Nat) : Int), v2, xs), rfl, ?_, ⟨hfb, hi0, hi1, ?_, ?_, ?_, ?_⟩, ?_⟩
        · show ((M : Int) - ((K + 1 : Nat) : Int)).toNat < ((M : Int) - (K : Int)).toNat; omega
        · show 0 ≤ ((K + 1 : Nat) : Int); omega
        · show ((K + 1 : Nat) : Int) ≤ (M : Int); omega
        · show ((A + 1 : Nat) : Int) = (I : Int) * (M : Int) + ((K + 1 : Nat) : Int)
          rw [hA, ← Int.natCast_mul]; omega
        · show v2 = Sp.getB b (Sp.mulI (I : Int) (M : Int)) ((K + 1 : Nat) : Int)
          rw [emul]; exact hv2
        · show Φ .normal (mkS 90 [(0, TV.l 5 (.int .u8) b), (1, TV.int .i64 (N : Int)), (2, TV.int .i64 (M : Int)), (8, TV.h 70), (9, TV.int .i64 (Sp.mulI (Sp.nextI (I : Int)) (M : Int))), (10, TV.int .i64 (I : Int)), (11, TV.int .u64 (Sp.getB b (Sp.mulI (I : Int) (M : Int)) (M : Int)))] [(70, .arr false 39 (.int .u64) xs)])
          rw [emul]; exact hΦ
      refine grd_ile (by omega) (grd_nlt hj (grd_ile (by omega) (brc_ieq (fun hb1 => grd_ile (by omega) (next _ ?_)) fun hb1 => next _ ?_)))
      · rw [hv]
        exact Sp.getB_one (a := I * M) (by omega) (by rw [← hA]; omega)
      · rw [hv]
        have := Nat.mod_lt (Sp.valOf b >>> A) (show 0 < 2 by decide)
        exact Sp.getB_none (a := I * M) (by rw [← hA]; omega)
    · have : K = M := by omega
      subst this
      have en : Sp.mulI (Sp.nextI (I : Int)) (K : Int) = (A : Int) := by
        show ((I + 1 : Nat) : Int) * (K : Int) = _
        rw [← Int.natCast_mul, e0, hA]
      rw [en] at hΦ
      rw [hv]; exact hΦ
abbrev C24 := List Int ⊕ (List Int × Int × List Int)
def mk24c : C24 → TSt
  | .inl i => mk24ca i
  | .inr i => mk24cb i
def psi24c : C24 → Post → Prop
  | .inl i => psi24ca i
  | .inr i => psi24cb i
def mu24c : C24 → Nat
  | .inl i => 0
  | .inr i => (8 * (i.1.length : Int) - i.2.1).toNat
theorem rest24 : ∀ s Φ, piece24c s Φ → Run Try.prog (.code (.block 4 (blkC (bodyOf Try.f24) 4))) s Φ := by
  intro s Φ hp
  refine run_loopB (n := 90) (ls := [0, 8, 9]) (ks := [70]) (lx := [6, 7, 8]) (kx := [70]) (mk := mk24c) (ψ := psi24c) known24 mu24c (by kernel_rfl) (lamOk_free (by kernel_rfl)) ?_ s Φ (cleanT_mono4 (fun s2 h => by
    rcases h with ⟨i, h1, h2⟩ | ⟨i, h1, h2⟩
    · exact ⟨.inl i, h1, h2⟩
    · exact ⟨.inr i, h1, h2⟩) hp)
  rintro (b | ⟨b, a, xs⟩) Φ h
  · obtain ⟨hz, hΦ⟩ : b.length = 0 ∧ _ := h
    refine Eq.mpr (nf24ca _ mk24c psi24c mu24c b Φ _) ?_
    have e0 : W.ofNat (W.len b) = 0 := by show ((b.length : Nat) : Int) = 0; omega
    rw [e0]
    exact brc_ilt (fun h => absurd h (by decide)) fun _ => hΦ
  · obtain ⟨n, w, ⟨hf, hr, h1, h2⟩, hy, hno⟩ := h
    simp only at hf hr h1 h2 hy hno
    have hfb := hf
    obtain ⟨N, M, rfl, rfl, hF⟩ := Sp.fit_of hf
    have emul : Sp.mulI (N : Int) (M : Int) = ((N * M : Nat) : Int) := (Int.natCast_mul N M).symm
    rw [emul] at h1
    have h2 : a ≤ 8 * (b.length : Int) := h2
    obtain ⟨A, rfl⟩ : ∃ A : Nat, a = A := ⟨a.toNat, by omega⟩
    have hm := (hF.mul (Nat.le_refl _)).2
    have hl := hF.len
    have hr : (Sp.valOf b >>> ((N : Int) * (M : Int)).toNat) % 2 ^ ((A : Int).toNat - ((N : Int) * (M : Int)).toNat) = 0 := hr
    rw [← Int.natCast_mul, Int.toNat_natCast, Int.toNat_natCast] at hr
    have hall : Sp.allZ b (N : Int) (M : Int) ↔ Sp.valOf b >>> (N * M) = 0 := by
      unfold Sp.allZ
      rw [← Int.natCast_mul, Int.toNat_natCast]
    refine Eq.mpr (nf24cb _ mk24c psi24c mu24c b A xs Φ _) ?_
    have e0 : W.mul .i64 8 (W.ofNat (W.len b)) = ((8 * b.length : Nat) : Int) := by
      show W.mul .i64 8 ((b.length : Nat) : Int) = _
      rw [W.mul_i64 (by omega) (by omega)]; omega
    rw [e0]
    refine brc_ilt (fun h => ?_) fun h => ?_
    · have hj : A / 8 < b.length := by omega
      have e1 := Sp.quo8 (A := A) (by omega)
      have e2 : W.wrap .u64 (W.rem (A : Int) 8) = ((A % 8 : Nat) : Int) := by rw [Sp.rem8, W.wu64_in (by omega) (by omega)]
      have e4 : W.toNat ((A / 8 : Nat) : Int) = A / 8 := rfl
      have e6 : W.add .i64 (A : Int) 1 = ((A + 1 : Nat) : Int) := by rw [W.add_i64 (by omega) (by omega)]; rfl
      rw [e1, e2, e4, e6, Sp.read_bit hF.hb hj]
      refine grd_ile (by omega) (grd_nlt hj (grd_ile (by omega) (brc_ieq (fun hb1 => ?_) fun hb1 => ?_)))
      · exact hno fun hz => Sp.rest_no (V := Sp.valOf b) (c := N * M) (a := A) (by omega) (by omega) (hall.1 hz)
      · have hbit : (Sp.valOf b >>> A) % 2 = 0 := by
          have := Nat.mod_lt (Sp.valOf b >>> A) (show 0 < 2 by decide)
          omega
        refine ⟨.inr (b, ((A + 1 : Nat) : Int), xs), rfl, ?_, (N : Int), (M : Int), ⟨hfb, ?_, ?_, ?_⟩, hy, hno⟩
        · show (8 * (b.length : Int) - ((A + 1 : Nat) : Int)).toNat < (8 * (b.length : Int) - (A : Int)).toNat; omega
        · show (Sp.valOf b >>> ((N : Int) * (M : Int)).toNat) % 2 ^ (((A + 1 : Nat) : Int).toNat - ((N : Int) * (M : Int)).toNat) = 0
          rw [← Int.natCast_mul, Int.toNat_natCast, Int.toNat_natCast]
          exact Sp.rest_next hr (by omega) hbit
        · rw [emul]; show ((N * M : Nat) : Int) ≤ ((A + 1 : Nat) : Int); omega
        · show ((A + 1 : Nat) : Int) ≤ 8 * (b.length : Int); omega
    · have hA : A = 8 * b.length := by omega
      subst hA
      rw [hF.rest] at hr
      exact hy (hall.2 hr)
def mu24 (i : List Int × Int × Int × Nat × Int × List Int) : Nat := (i.2.1 - (i.2.2.2.1 : Int)).toNat
theorem outer24 : ∀ s Φ, loopP 90 [0, 1, 2, 8, 9, 10] [70] mk24 psi24 s Φ → Run Try.prog (.code (.block 0 (blkC (bodyOf Try.f24) 0))) s Φ := by
  refine run_loopB (lx := [0, 8, 9]) (kx := [70]) known24 mu24 (by kernel_rfl) ?_ ?_
  · refine lamOk_of (fun id c' hm ψ hψ => ?_) (fun c' hm => ?_)
    · have hids : (blocksOf (loopOf (blkC (bodyOf Try.f24) 0))).map (·.1) = [1, 2, 3] := by kernel_rfl
      have hc : c' = blkC (loopOf (blkC (bodyOf Try.f24) 0)) id := findB_mem (by rw [hids]; rfl) hm
      have hid : id ∈ [1, 2, 3] := by rw [← hids]; exact List.mem_map.2 ⟨_, hm, rfl⟩
      simp only [List.mem_cons, List.not_mem_nil, or_false] at hid
      rcases hid with rfl | rfl | rfl
      · cases hψ
      · cases hψ
        rw [hc]
        have : blkC (loopOf (blkC (bodyOf Try.f24) 0)) 2 = blkC (bodyOf Try.f24) 2 := by kernel_rfl
        rw [this]; exact inner24
      · cases hψ
    · have : scopesOf (loopOf (blkC (bodyOf Try.f24) 0)) = [] := by kernel_rfl
      rw [this] at hm; cases hm
  rintro ⟨b, n, w, i, a, xs⟩ Φ ⟨⟨hf, h1, ha, hx⟩, hz, hnz⟩
  simp only at hf h1 ha hx hz hnz
  have hfb := hf
  obtain ⟨N, M, rfl, rfl, hF⟩ := Sp.fit_of hf
  have hm := hF.mul (i := i) (by omega)
  have hnn := hF.hn
  have emul : ∀ j : Nat, Sp.mulI (j : Int) (M : Int) = ((j * M : Nat) : Int) := fun j => (Int.natCast_mul j M).symm
  have haA : a = ((i * M : Nat) : Int) := by
    have ha : a = (i : Int) * (M : Int) + 0 := ha
    rw [ha, Int.add_zero]; exact (Int.natCast_mul i M).symm
  cases i with
  | zero =>
    refine Eq.mpr (nf24a _ mk24 psi24 mu24 b N M Φ _) ?_
    refine brc_ilt (fun h => .inl ⟨(b, (N : Int), (M : Int), 0, 0), rfl, ⟨hfb, h, Int.le_refl _, ?_, (Sp.getB_zero b 0).symm⟩, (b, (N : Int), (M : Int), 1, (M : Int), [Sp.getB b 0 (M : Int)]), rfl, ?_, ⟨hfb, ?_, ?_, ?_⟩, hz, hnz⟩) fun h => ?_
    · show (0 : Int) ≤ (M : Int); omega
    · show ((N : Int) - ((1 : Nat) : Int)).toNat < ((N : Int) - ((0 : Nat) : Int)).toNat; omega
    · show ((1 : Nat) : Int) ≤ (N : Int); omega
    · show (M : Int) = ((1 : Nat) : Int) * (M : Int) + 0; rw [Int.add_zero]; exact (Int.one_mul _).symm
    · show [Sp.getB b 0 (M : Int)] = Sp.gotN b (N : Int) (M : Int) ((0 + 1 : Nat) : Int)
      rw [Sp.gotN_step (by omega), Nat.zero_mul]; rfl
    · have h : (N : Int) ≤ 0 := h
      exact hz (by omega)
  | succ i =>
    have hxl : xs.length = i + 1 := by rw [hx]; exact Sp.gotN_len (by omega)
    refine Eq.mpr (nf24b _ mk24 psi24 mu24 b N M ((i + 1 : Nat) : Int) a xs Φ _) ?_
    refine brc_ilt (fun h => .inr ⟨(b, (N : Int), (M : Int), ((i + 1 : Nat) : Int), a, 0, 0, xs), rfl, ⟨hfb, ?_, h, Int.le_refl _, ?_, ?_, ?_⟩, grd_nle ?_ ?_⟩) fun h => ?_
    · show 0 ≤ ((i + 1 : Nat) : Int); omega
    · show (0 : Int) ≤ (M : Int); omega
    · show a = ((i + 1 : Nat) : Int) * (M : Int) + 0
      rw [haA, Int.add_zero, ← Int.natCast_mul]
    · exact (Sp.getB_zero b _).symm
    · simp only [W.nmul, W.nadd, W.len, List.length_cons, List.length_nil]; omega
    · have e1 : W.add .i64 ((i + 1 : Nat) : Int) 1 = ((i + 2 : Nat) : Int) := by rw [W.add_i64 (by omega) (by omega)]; omega
      have e2 : Sp.mulI (Sp.nextI ((i + 1 : Nat) : Int)) (M : Int) = (((i + 2) * M : Nat) : Int) := emul (i + 2)
      show ∃ j, mkS 90 [(0, TV.l 5 (.int .u8) b), (1, TV.int .i64 (N : Int)), (2, TV.int .i64 (M : Int)), (8, TV.h 70), (9, TV.int .i64 (Sp.mulI (Sp.nextI ((i + 1 : Nat) : Int)) (M : Int))), (10, TV.int .i64 (W.add .i64 ((i + 1 : Nat) : Int) 1))] [(70, .arr false 39 (.int .u64) (xs ++ [Sp.getB b (Sp.mulI ((i + 1 : Nat) : Int) (M : Int)) (M : Int)]))] = mk24 j ∧ _ ∧ psi24 j Φ
      rw [e1, e2]
      refine ⟨(b, (N : Int), (M : Int), i + 2, _, _), rfl, ?_, ⟨hfb, ?_, ?_, ?_⟩, hz, hnz⟩
      · show ((N : Int) - ((i + 2 : Nat) : Int)).toNat < ((N : Int) - ((i + 1 : Nat) : Int)).toNat; omega
      · show ((i + 2 : Nat) : Int) ≤ (N : Int); omega
      · show (((i + 2) * M : Nat) : Int) = ((i + 2 : Nat) : Int) * (M : Int) + 0
        rw [Int.add_zero, ← Int.natCast_mul]
      · show xs ++ [Sp.getB b (Sp.mulI ((i + 1 : Nat) : Int) (M : Int)) (M : Int)] = Sp.gotN b (N : Int) (M : Int) ((i + 1 + 1 : Nat) : Int)
        rw [Sp.getB_end hF (by omega), hx]
    · have : i + 1 = N := by omega
      subst this
      have hne : ((i + 1 : Nat) : Int) ≠ 0 := by omega
      have := hnz hne
      rw [emul, ← haA, ← Sp.gotN_all, ← hx] at this
      exact this
theorem good24 : GoodC Try.prog ctr24 := by
  refine good_by (blk := blk24) (lab := noneK) (fn := Try.f24) wide good25L ⟨by kernel_rfl, by kernel_rfl, by kernel_rfl, by kernel_rfl⟩ (lamOk_body (by kernel_rfl) (by kernel_rfl) (fun id ψ h => ?_) (fun l rest ψ _ hl => by cases hl)) fun d hd => ?_
  · have h : blk24 id = some ψ := h
    unfold blk24 at h
    split at h
    · rename_i hb
      have := Nat.eq_of_beq_eq_true hb
      subst this
      cases h; exact outer24
    · split at h
      · rename_i hb
        have := Nat.eq_of_beq_eq_true hb
        subst this
        cases h; exact inner24
      · obtain ⟨rfl, rfl⟩ := one_some h
        exact rest24
  · obtain ⟨b, n, w, u⟩ : List Int × Int × Int × Unit := d
    obtain ⟨hb, hlen⟩ : Sp.bytes b ∧ b.length < 9223372036854775807 := hd
    have out1 : ∀ e : Int, e ≠ 0 → Sp.gerr b n w = e → errV e = ctr24.out (b, n, w, u) := fun e he h => by
      show _ = (if Sp.gerr b n w = 0 then (if n = 0 then _ else _) else _)
      rw [h, if_neg he]
    refine Eq.mpr (nf24 b n w _) ?_
    have e0 : W.ofNat (W.len b) = (b.length : Int) := rfl
    rw [e0]
    have nom : ¬ (0 ≤ n ∧ n ≤ 65536 ∧ 0 ≤ w ∧ w ≤ 64) → errV 1 = ctr24.out (b, n, w, u) := fun h => out1 1 (by decide) (if_pos (Sp.mayB_not.2 h))
    refine brc_ilt (fun h => nom (by omega)) fun h1 => brc_igt (fun h => nom (by omega)) fun h2 => brc_ilt (fun h => nom (by omega)) fun h3 => brc_igt (fun h => nom (by omega)) fun h4 => ⟨trivial, ?_⟩
    have hm : Sp.mayB n w = true := Sp.mayB_iff.2 ⟨h1, h2, h3, h4⟩
    refine brc_ilt (fun h => out1 5 (by decide) ?_) fun h5 => ⟨trivial, brc_igt (fun h => out1 4 (by decide) ?_) fun h6 => ?_⟩
    · unfold Sp.gerr; rw [hm, if_neg (by decide), if_pos h]
    · unfold Sp.gerr; rw [hm, if_neg (by decide), if_neg (by omega), if_pos h]
    · have hfb := fitB_of hb hm h5 h6
      have hf2 := hfb
      obtain ⟨N, M, rfl, rfl, hF⟩ := Sp.fit_of hfb
      have hge := Sp.gerr_fit hF
      have hall : Sp.allZ b (N : Int) (M : Int) ↔ Sp.valOf b >>> (N * M) = 0 := by
        unfold Sp.allZ
        rw [← Int.natCast_mul, Int.toNat_natCast]
      have hmu := (hF.mul (Nat.le_refl _)).2
      have hl := hF.len
      have emul : Sp.mulI (N : Int) (M : Int) = ((N * M : Nat) : Int) := (Int.natCast_mul N M).symm
      refine ⟨(b, (N : Int), (M : Int), 0, 0, []), rfl, ⟨hf2, by show ((0 : Nat) : Int) ≤ (N : Int); omega, by show (0 : Int) = ((0 : Nat) : Int) * (M : Int) + 0; rw [Int.add_zero]; exact (Int.zero_mul _).symm, rfl⟩, fun hz => .inl ⟨b, rfl, ?_, ?_⟩, fun hnz => .inr ⟨(b, Sp.mulI (N : Int) (M : Int), _), rfl, (N : Int), (M : Int), ⟨hf2, ?_, Int.le_refl _, ?_⟩, fun ha => ?_, fun ha => ?_⟩⟩
      · have hz : (N : Int) = 0 := hz
        have : N = 0 := by omega
        subst this
        rw [Nat.zero_mul] at hl; exact hl
      · have hz : (N : Int) = 0 := hz
        have : N = 0 := by omega
        subst this
        rw [Nat.zero_mul] at hl
        have hbn : b = [] := List.length_eq_zero_iff.1 hl
        subst hbn
        have hg0 : Sp.gerr [] ((0 : Nat) : Int) (M : Int) = 0 := by rw [hge]; simp [Sp.valOf]
        exact ctr24.outK_ok ([], ((0 : Nat) : Int), (M : Int), u) (fun x => TV.tup [.c (.a .nils), .c (.a (.x (.int .i64 0)))] = x) ⟨fun h => absurd hg0 h, fun _ => ⟨fun _ => rfl, fun h => absurd rfl h⟩⟩
      · show (Sp.valOf b >>> ((N : Int) * (M : Int)).toNat) % 2 ^ ((Sp.mulI (N : Int) (M : Int)).toNat - ((N : Int) * (M : Int)).toNat) = 0
        have : (Sp.mulI (N : Int) (M : Int)).toNat - ((N : Int) * (M : Int)).toNat = 0 := by unfold Sp.mulI; omega
        rw [this, Nat.pow_zero, Nat.mod_one]
      · show Sp.mulI (N : Int) (M : Int) ≤ 8 * (b.length : Int); rw [emul]; omega
      · have hz := hall.1 ha
        have hg0 : Sp.gerr b (N : Int) (M : Int) = 0 := by rw [hge, if_neg (by rw [hz]; decide)]
        exact ctr24.outK_ok (b, (N : Int), (M : Int), u) (fun x => TV.tup [.own 39 (.int .u64) (Sp.got b (N : Int) (M : Int)), .c (.a (.x (.int .i64 0)))] = x) ⟨fun h => absurd hg0 h, fun _ => ⟨fun h => absurd h hnz, fun _ => rfl⟩⟩
      · exact out1 2 (by decide) (by rw [hge, if_pos (fun hz => ha (hall.2 hz))])
end Go.Proofs.Ytijahjkcbphmcaa
