/-
  Texts of a proof over the translated program: NeExt7.
-/
import Derived.Test.YtpohkoijbocpcaaNeExt7Nf
set_option linter.unusedVariables false
namespace Go.Proofs.Ytpohkoijbocpcaa
open Go.AbsM
def mkj20 : JJ19 → TSt
  | .inl i => mk20n i
  | .inr i => mk20o i
def psij20 : JJ19 → Post → Prop
  | .inl i => psi20n i
  | .inr i => psi20o i
theorem known20 : KnownOk Try.prog (envL []) (knownL [] blk20 noneK) := knownL_ok wide .nil _ _
theorem fin20_at {i : I19} {Φ : Post} {k : Int} {o : List Sp.Rm} (h : inv19 i k o) (hk : (i.1.length : Int) ≤ k) (hF : fin20 i Φ) : (o = [] → Φ .normal (mkS 65 [(0, TV.l 28 PT i.1), (1, TV.int .i64 i.2.1), (4, .a (.ref 0 4 0)), (7, TV.int .i64 i.2.2), (8, .a .nils)] [box19 0 0])) ∧ (o ≠ [] → Φ .normal (mkS 65 [(0, TV.l 28 PT i.1), (1, TV.int .i64 i.2.1), (4, .a (.ref 0 4 0)), (7, TV.int .i64 i.2.2), (8, TV.h 55)] [box19 0 0, (55, .arr false 28 PT o)])) := by
  obtain ⟨_, _, _, _, k0, k1, ho⟩ := h
  have : k.toNat = i.1.length := by omega
  rw [this] at ho
  rw [ho]; exact hF

theorem step20n (f : List Sp.Rm) (n i k : Int) (Φ : Post)  (h : inv19 (f, n, i) k ([] : List Sp.Rm)) (hF : fin20 (f, n, i) Φ) : wpT Try.prog (knownL [] blk20 noneK) (loopOf (blkC (bodyOf Try.f20) 2)) (mk20n ((f, n, i), k)) (stepK 65 [0, 1, 4, 7, 8, 9] [4, 55] [0, 1, 4, 7, 8] [4, 55] 2 mkj20 muj19 psij20 (f.length - k).toNat Φ) := by
  obtain ⟨⟨hnear, hfl, hn⟩, ⟨n1, n2⟩, i0, i1, k0, k1, ho⟩ := id h
  simp only at hnear hfl hn n1 n2 i0 i1 k0 k1 ho
  obtain ⟨c, rfl⟩ : ∃ c : Nat, k = c := ⟨k.toNat, by omega⟩
  obtain ⟨a, rfl⟩ : ∃ a : Nat, i = a := ⟨i.toNat, by omega⟩
  rw [Int.toNat_natCast] at ho n2
  rw [Int.toNat_natCast] at ho
  refine Eq.mpr (nf20n _ mkj20 psij20 muj19 f n a c Φ _) ?_
  refine brc_ilt (fun hc => ?_) fun hc => (fin20_at h hc hF).1 rfl
  have hc : c < f.length := by have : ((c : Nat) : Int) < ((f.length : Nat) : Int) := hc; omega
  rw [W.add_i64 (a := (c : Int)) (b := 1) (by omega) (by omega)]
  have e1 : W.nth f (W.toNat (c : Int)) ((0 : Int), (0 : Int), PUnit.unit) = W.nth f c ((0 : Int), (0 : Int), ()) := rfl
  rw [e1]
  have hu := hnear _ (Sp.nth_mem hc)
  have hol : (([] : List Sp.Rm) : List Sp.Rm).length ≤ c := by rw [ho]; exact Sp.lefts_len _ _ _ _
  have hl : Sp.lefts f a n (c + 1) = if 0 < (Sp.piece f a n c).2.1 then ([] : List Sp.Rm) ++ [Sp.piece f a n c] else ([] : List Sp.Rm) := by rw [Sp.lefts, ← ho]
  have nxtN : Sp.lefts f a n (c + 1) = [] → ∃ j, mkS 65 [(0, TV.l 28 PT f), (1, TV.int .i64 n), (4, .a (.ref 0 4 0)), (7, TV.int .i64 (a : Int)), (8, .a .nils), (9, TV.int .i64 ((c : Int) + 1))] [box19 0 0] = mkj20 j ∧ muj19 j < ((f.length : Int) - (c : Int)).toNat ∧ psij20 j Φ := fun hq => by
    refine ⟨.inl ((f, n, (a : Int)), (c : Int) + 1), rfl, ?_, ⟨⟨hnear, hfl, hn⟩, ⟨n1, by rw [Int.toNat_natCast]; exact n2⟩, i0, i1, ?_, ?_, ?_⟩, hF⟩
    · show ((f.length : Int) - ((c : Int) + 1)).toNat < ((f.length : Int) - (c : Int)).toNat; omega
    · show 0 ≤ (c : Int) + 1; omega
    · show (c : Int) + 1 ≤ (f.length : Int); omega
    · show [] = Sp.lefts f ((a : Nat) : Int).toNat n ((c : Int) + 1).toNat
      rw [Int.toNat_natCast, show ((c : Int) + 1).toNat = c + 1 by omega, hq]
  have nxtO : ∀ w : List Sp.Rm, w ≠ [] → w = Sp.lefts f a n (c + 1) → ∃ j, mkS 65 [(0, TV.l 28 PT f), (1, TV.int .i64 n), (4, .a (.ref 0 4 0)), (7, TV.int .i64 (a : Int)), (8, TV.h 55), (9, TV.int .i64 ((c : Int) + 1))] [box19 0 0, (55, .arr false 28 PT w)] = mkj20 j ∧ muj19 j < ((f.length : Int) - (c : Int)).toNat ∧ psij20 j Φ := fun w hw hq => by
    refine ⟨.inr ((f, n, (a : Int)), (c : Int) + 1, w), rfl, ?_, ⟨hw, ⟨hnear, hfl, hn⟩, ⟨n1, by rw [Int.toNat_natCast]; exact n2⟩, i0, i1, ?_, ?_, ?_⟩, hF⟩
    · show ((f.length : Int) - ((c : Int) + 1)).toNat < ((f.length : Int) - (c : Int)).toNat; omega
    · show 0 ≤ (c : Int) + 1; omega
    · show (c : Int) + 1 ≤ (f.length : Int); omega
    · show w = Sp.lefts f ((a : Nat) : Int).toNat n ((c : Int) + 1).toNat
      rw [Int.toNat_natCast, show ((c : Int) + 1).toNat = c + 1 by omega, hq]
  refine grd_ile (by omega) (grd_nlt hc (brc_ieq (fun he => ?_) fun he => ?_))
  · have he : c = a := by omega
    subst he
    have hp : Sp.piece f c n c = ((W.nth f c ((0 : Int), (0 : Int), ())).1 + n, (W.nth f c ((0 : Int), (0 : Int), ())).2.1 - n, ()) := if_pos rfl
    rw [W.sub_i64 (by omega) (by omega), W.add_i64 (a := (W.nth f c ((0 : Int), (0 : Int), ())).1) (by omega) (by omega)]
    rw [hp] at hl
    generalize W.nth f c ((0 : Int), (0 : Int), ()) = r at hl hu n2 ⊢
    refine brc_igt (fun hg => ?_) fun hg => ?_
    · rw [if_pos hg] at hl
      exact nxtO _ (by simp) hl.symm
    · rw [if_neg (by show ¬ 0 < r.2.1 - n; omega)] at hl
      exact nxtN hl
  · have hp : Sp.piece f a n c = W.nth f c ((0 : Int), (0 : Int), ()) := if_neg (by omega)
    rw [hp] at hl
    generalize W.nth f c ((0 : Int), (0 : Int), ()) = r at hl hu ⊢
    obtain ⟨x, y, z⟩ := r
    refine brc_igt (fun hg => ?_) fun hg => ?_
    · rw [if_pos hg] at hl
      exact nxtO _ (by simp) hl.symm
    · rw [if_neg (by show ¬ 0 < y; have hg : y ≤ 0 := hg; omega)] at hl
      exact nxtN hl

theorem step20o (f : List Sp.Rm) (n i k : Int) (o : List Sp.Rm) (Φ : Post) (hne : o ≠ []) (h : inv19 (f, n, i) k o) (hF : fin20 (f, n, i) Φ) : wpT Try.prog (knownL [] blk20 noneK) (loopOf (blkC (bodyOf Try.f20) 2)) (mk20o ((f, n, i), k, o)) (stepK 65 [0, 1, 4, 7, 8, 9] [4, 55] [0, 1, 4, 7, 8] [4, 55] 2 mkj20 muj19 psij20 (f.length - k).toNat Φ) := by
  obtain ⟨⟨hnear, hfl, hn⟩, ⟨n1, n2⟩, i0, i1, k0, k1, ho⟩ := id h
  simp only at hnear hfl hn n1 n2 i0 i1 k0 k1 ho
  obtain ⟨c, rfl⟩ : ∃ c : Nat, k = c := ⟨k.toNat, by omega⟩
  obtain ⟨a, rfl⟩ : ∃ a : Nat, i = a := ⟨i.toNat, by omega⟩
  rw [Int.toNat_natCast] at ho n2
  rw [Int.toNat_natCast] at ho
  refine Eq.mpr (nf20o _ mkj20 psij20 muj19 f n a c o Φ _) ?_
  refine brc_ilt (fun hc => ?_) fun hc => (fin20_at h hc hF).2 hne
  have hc : c < f.length := by have : ((c : Nat) : Int) < ((f.length : Nat) : Int) := hc; omega
  rw [W.add_i64 (a := (c : Int)) (b := 1) (by omega) (by omega)]
  have e1 : W.nth f (W.toNat (c : Int)) ((0 : Int), (0 : Int), PUnit.unit) = W.nth f c ((0 : Int), (0 : Int), ()) := rfl
  rw [e1]
  have hu := hnear _ (Sp.nth_mem hc)
  have hol : (o : List Sp.Rm).length ≤ c := by rw [ho]; exact Sp.lefts_len _ _ _ _
  have hl : Sp.lefts f a n (c + 1) = if 0 < (Sp.piece f a n c).2.1 then o ++ [Sp.piece f a n c] else o := by rw [Sp.lefts, ← ho]
  have nxtN : Sp.lefts f a n (c + 1) = [] → ∃ j, mkS 65 [(0, TV.l 28 PT f), (1, TV.int .i64 n), (4, .a (.ref 0 4 0)), (7, TV.int .i64 (a : Int)), (8, .a .nils), (9, TV.int .i64 ((c : Int) + 1))] [box19 0 0] = mkj20 j ∧ muj19 j < ((f.length : Int) - (c : Int)).toNat ∧ psij20 j Φ := fun hq => by
    refine ⟨.inl ((f, n, (a : Int)), (c : Int) + 1), rfl, ?_, ⟨⟨hnear, hfl, hn⟩, ⟨n1, by rw [Int.toNat_natCast]; exact n2⟩, i0, i1, ?_, ?_, ?_⟩, hF⟩
    · show ((f.length : Int) - ((c : Int) + 1)).toNat < ((f.length : Int) - (c : Int)).toNat; omega
    · show 0 ≤ (c : Int) + 1; omega
    · show (c : Int) + 1 ≤ (f.length : Int); omega
    · show [] = Sp.lefts f ((a : Nat) : Int).toNat n ((c : Int) + 1).toNat
      rw [Int.toNat_natCast, show ((c : Int) + 1).toNat = c + 1 by omega, hq]
  have nxtO : ∀ w : List Sp.Rm, w ≠ [] → w = Sp.lefts f a n (c + 1) → ∃ j, mkS 65 [(0, TV.l 28 PT f), (1, TV.int .i64 n), (4, .a (.ref 0 4 0)), (7, TV.int .i64 (a : Int)), (8, TV.h 55), (9, TV.int .i64 ((c : Int) + 1))] [box19 0 0, (55, .arr false 28 PT w)] = mkj20 j ∧ muj19 j < ((f.length : Int) - (c : Int)).toNat ∧ psij20 j Φ := fun w hw hq => by
    refine ⟨.inr ((f, n, (a : Int)), (c : Int) + 1, w), rfl, ?_, ⟨hw, ⟨hnear, hfl, hn⟩, ⟨n1, by rw [Int.toNat_natCast]; exact n2⟩, i0, i1, ?_, ?_, ?_⟩, hF⟩
    · show ((f.length : Int) - ((c : Int) + 1)).toNat < ((f.length : Int) - (c : Int)).toNat; omega
    · show 0 ≤ (c : Int) + 1; omega
    · show (c : Int) + 1 ≤ (f.length : Int); omega
    · show w = Sp.lefts f ((a : Nat) : Int).toNat n ((c : Int) + 1).toNat
      rw [Int.toNat_natCast, show ((c : Int) + 1).toNat = c + 1 by omega, hq]
  refine grd_ile (by omega) (grd_nlt hc (brc_ieq (fun he => ?_) fun he => ?_))
  · have he : c = a := by omega
    subst he
    have hp : Sp.piece f c n c = ((W.nth f c ((0 : Int), (0 : Int), ())).1 + n, (W.nth f c ((0 : Int), (0 : Int), ())).2.1 - n, ()) := if_pos rfl
    rw [W.sub_i64 (by omega) (by omega), W.add_i64 (a := (W.nth f c ((0 : Int), (0 : Int), ())).1) (by omega) (by omega)]
    rw [hp] at hl
    generalize W.nth f c ((0 : Int), (0 : Int), ()) = r at hl hu n2 ⊢
    refine brc_igt (fun hg => ?_) fun hg => ?_
    · rw [if_pos hg] at hl
      exact grd_nle (by show (o.length + 1) * 16 ≤ 140737488355328; omega) (nxtO _ (by simp [W.app]) hl.symm)
    · rw [if_neg (by show ¬ 0 < r.2.1 - n; omega)] at hl
      exact nxtO _ hne hl.symm
  · have hp : Sp.piece f a n c = W.nth f c ((0 : Int), (0 : Int), ()) := if_neg (by omega)
    rw [hp] at hl
    generalize W.nth f c ((0 : Int), (0 : Int), ()) = r at hl hu ⊢
    obtain ⟨x, y, z⟩ := r
    refine brc_igt (fun hg => ?_) fun hg => ?_
    · rw [if_pos hg] at hl
      exact grd_nle (by show (o.length + 1) * 16 ≤ 140737488355328; omega) (nxtO _ (by simp [W.app]) hl.symm)
    · rw [if_neg (by show ¬ 0 < y; have hg : y ≤ 0 := hg; omega)] at hl
      exact nxtO _ hne hl.symm

theorem loop20b : ∀ s Φ, piece20 s Φ → Run Try.prog (.code (.block 2 (blkC (bodyOf Try.f20) 2))) s Φ := by
  intro s Φ hp
  have hp : loopP 65 [0, 1, 4, 7, 8, 9] [4, 55] mkj20 psij20 s Φ := cleanT_mono (fun s2 h => by
    rcases h with ⟨i, h1, h2⟩ | ⟨i, h1, h2⟩
    · exact ⟨.inl i, h1, h2⟩
    · exact ⟨.inr i, h1, h2⟩) hp
  refine run_loopB (lx := [0, 1, 4, 7, 8]) (kx := [4, 55]) known20 muj19 (by kernel_rfl) (lamOk_free (by kernel_rfl)) ?_ s Φ hp
  rintro (⟨⟨f, n, i⟩, k⟩ | ⟨⟨f, n, i⟩, k, o⟩) Φ h
  · exact step20n f n i k Φ h.1 h.2
  · exact step20o f n i k o Φ h.1.1 h.1.2 h.2
theorem loop20 : ∀ s Φ, loopP 65 [0, 1, 4, 7] [4] mk20 psi20 s Φ → Run Try.prog (.code (.block 0 (blkC (bodyOf Try.f20) 0))) s Φ := by
  refine run_loopB (lx := [4, 5, 6]) (kx := [4, 55]) known20 (fun i : I19 => (i.1.length - i.2.2).toNat) (by kernel_rfl) ?_ ?_
  · refine lamOk_of (fun id c' hm ψ hψ => ?_) (fun c' hm => ?_)
    · have hids : (blocksOf (loopOf (blkC (bodyOf Try.f20) 0))).map (·.1) = [1, 2, 3] := by kernel_rfl
      have hc : c' = blkC (loopOf (blkC (bodyOf Try.f20) 0)) id := findB_mem (by rw [hids]; rfl) hm
      have hid : id ∈ [1, 2, 3] := by rw [← hids]; exact List.mem_map.2 ⟨_, hm, rfl⟩
      simp only [List.mem_cons, List.not_mem_nil, or_false] at hid
      rcases hid with rfl | rfl | rfl
      · cases hψ
      · cases hψ
        rw [hc]
        have : blkC (loopOf (blkC (bodyOf Try.f20) 0)) 2 = blkC (bodyOf Try.f20) 2 := by kernel_rfl
        rw [this]; exact loop20b
      · cases hψ
    · have : scopesOf (loopOf (blkC (bodyOf Try.f20) 0)) = [] := by kernel_rfl
      rw [this] at hm; cases hm
  rintro ⟨f, n, i⟩ Φ ⟨⟨hpre, n1, i0, i1, i2⟩, hE⟩
  simp only at hpre n1 i0 i1 i2 hE
  obtain ⟨c, rfl⟩ : ∃ c : Nat, i = c := ⟨i.toNat, by omega⟩
  have hfl := hpre.2.1
  refine Eq.mpr (nf20a _ mk20 psi20 _ f n c Φ _) ?_
  refine brc_ilt (fun h => ?_) fun h => ?_
  · have hc : c < f.length := by have : ((c : Nat) : Int) < ((f.length : Nat) : Int) := h; omega
    have e1 : W.nth f (W.toNat (c : Int)) ((0 : Int), (0 : Int), PUnit.unit) = W.nth f c ((0 : Int), (0 : Int), ()) := rfl
    rw [e1, W.add_i64 (a := (c : Int)) (b := 1) (by omega) (by omega)]
    refine grd_ile (by omega) (grd_nlt hc (brc_ilt (fun hg => ?_) fun hg => ?_))
    · have hfi := Sp.fi_past (n := n) hc (by omega) (by omega)
      refine ⟨(f, n, (c : Int) + 1), rfl, ?_, ⟨hpre, n1, ?_, ?_, ?_⟩, hE⟩
      · show ((f.length : Int) - ((c : Int) + 1)).toNat < ((f.length : Int) - (c : Int)).toNat; omega
      · show 0 ≤ (c : Int) + 1; omega
      · show (c : Int) + 1 ≤ (f.length : Int); omega
      · show (c : Int) + 1 ≤ (Sp.fi f n : Int); omega
    · have hfi := Sp.fi_at hc (by omega) hg
      obtain ⟨hE0, hE1, hE2⟩ := hE
      subst hfi
      have hlt : Sp.fi f n < f.length := hc
      refine .inl ⟨((f, n, (Sp.fi f n : Int)), 0), rfl, ⟨hpre, ⟨n1, hg⟩, ?_, ?_, Int.le_refl _, ?_, rfl⟩, fun h => grd_ile ?_ (grd_nlt ?_ (hE1 hlt h)), fun h => grd_ile ?_ (grd_nlt ?_ (hE2 hlt h))⟩
      · show (0 : Int) ≤ (Sp.fi f n : Int); omega
      · show (Sp.fi f n : Int) < (f.length : Int); omega
      · show (0 : Int) ≤ (f.length : Int); omega
      · show (0 : Int) ≤ (Sp.fi f n : Int); omega
      · exact hlt
      · show (0 : Int) ≤ (Sp.fi f n : Int); omega
      · exact hlt
  · have h : (f.length : Int) ≤ (c : Int) := h
    have := Sp.fi_le f n
    exact hE.1 (by omega)
def ctr20 : TCtr where
  f := 20
  sig := [.l 28 PT, .v (.int .i64)]
  pre := fun (d : List Sp.Rm × Int × Unit) => Sp.pre19 d.1 d.2.1
  out := fun (d : List Sp.Rm × Int × Unit) => takeV 28 d.1 d.2.1
  outK := fun (d : List Sp.Rm × Int × Unit) K => takeK 28 d.1 d.2.1 K
  outK_ok := fun (d : List Sp.Rm × Int × Unit) K h => takeK_ok h
  outOk := fun (d : List Sp.Rm × Int × Unit) => takeV_out (by decide) d.1 d.2.1
theorem good20 : GoodC Try.prog ctr20 := by
  refine good_byDB (c := ctr20) (L := []) (DL := []) (blk := blk20) (lab := noneK) (fn := Try.f20) wide .nil (fun c h => by cases h) ⟨by kernel_rfl, by kernel_rfl, by kernel_rfl, by kernel_rfl⟩ (lamOk_body (by kernel_rfl) (by kernel_rfl) (fun id ψ h => ?_) (fun l rest ψ _ hl => by cases hl)) (fun d hd => ?_)
  · have h : blk20 id = some ψ := h
    unfold blk20 at h
    split at h
    · rename_i hb
      have := Nat.eq_of_beq_eq_true hb
      subst this
      cases h; exact loop20
    · obtain ⟨rfl, rfl⟩ := one_some h
      exact loop20b
  obtain ⟨f, n, x⟩ : List Sp.Rm × Int × Unit := d
  have hd : Sp.pre19 f n := hd
  have hfle := Sp.fi_le f n
  have v1 : n < 1 → takeE 1 = takeV 28 f n := fun h => by unfold takeV; rw [if_pos h]
  have v9 : 1 ≤ n → Sp.fi f n = f.length → takeE 9 = takeV 28 f n := fun h h2 => by unfold takeV; rw [if_neg (by omega), if_pos h2]
  have vN : 1 ≤ n → Sp.fi f n < f.length → Sp.lefts f (Sp.fi f n) n f.length = [] → takeN f n = takeV 28 f n := fun h h2 h3 => by unfold takeV; rw [if_neg (by omega), if_neg (by omega), if_pos h3]
  have vO : 1 ≤ n → Sp.fi f n < f.length → Sp.lefts f (Sp.fi f n) n f.length ≠ [] → takeO 28 f n = takeV 28 f n := fun h h2 h3 => by unfold takeV; rw [if_neg (by omega), if_neg (by omega), if_neg h3]
  exact Blk.nf (nf20 f n _) (brc_ilt v1 fun h1 => ⟨(f, n, 0), rfl, ⟨hd, h1, Int.le_refl _, by show (0 : Int) ≤ (f.length : Int); omega, by show (0 : Int) ≤ (Sp.fi f n : Int); omega⟩, fun q => v9 h1 q, fun q q2 => vN h1 q q2, fun q q2 => vO h1 q q2⟩)
end Go.Proofs.Ytpohkoijbocpcaa
