/-
  Texts of a proof over the translated program: NeExt6.
-/
import Derived.Test.YtpohkoijbocpcaaNeExt6Nf
set_option linter.unusedVariables false
namespace Sp
open Go Go.AbsM
theorem nth_get {f : List Rm} {k : Nat} (h : k < f.length) : W.nth f k ((0 : Int), (0 : Int), ()) = f[k] := by
  unfold W.nth
  rw [List.getD_eq_getElem?_getD, List.getElem?_eq_getElem h]; rfl
theorem fi_le (f : List Rm) (n : Int) : fi f n ≤ f.length := List.findIdx_le_length
theorem fi_at {f : List Rm} {n : Int} {i : Nat} (h : i < f.length) (hi : i ≤ fi f n) (hn : n ≤ (W.nth f i ((0 : Int), (0 : Int), ())).2.1) : fi f n = i := by
  rw [nth_get h] at hn
  refine Nat.le_antisymm ?_ hi
  refine Nat.le_of_not_lt fun hlt => ?_
  have := List.not_of_lt_findIdx (p := fun u : Rm => decide (n ≤ u.2.1)) (xs := f) hlt
  simp at this
  omega
theorem fi_past {f : List Rm} {n : Int} {i : Nat} (h : i < f.length) (hi : i ≤ fi f n) (hn : ¬ n ≤ (W.nth f i ((0 : Int), (0 : Int), ())).2.1) : i + 1 ≤ fi f n := by
  rw [nth_get h] at hn
  refine Nat.lt_of_le_of_ne hi fun he => ?_
  subst he
  have := List.findIdx_getElem (p := fun u : Rm => decide (n ≤ u.2.1)) (xs := f) (w := h)
  exact hn (of_decide_eq_true this)
theorem fi_has {f : List Rm} {n : Int} (h : fi f n < f.length) : n ≤ (W.nth f (fi f n) ((0 : Int), (0 : Int), ())).2.1 := by
  rw [nth_get h]
  exact of_decide_eq_true (List.findIdx_getElem (p := fun u : Rm => decide (n ≤ u.2.1)) (xs := f) (w := h))
theorem lefts_len (f : List Rm) (i : Nat) (n : Int) : ∀ k, (lefts f i n k).length ≤ k
  | 0 => Nat.le_refl _
  | k + 1 => by
    have := lefts_len f i n k
    rw [lefts]
    split
    · simp; omega
    · omega
end Sp
namespace Go.Proofs.Ytpohkoijbocpcaa
open Go.AbsM
abbrev JJ19 := J19n ⊕ J19
def mkj19 : JJ19 → TSt
  | .inl i => mk19n i
  | .inr i => mk19o i
def psij19 : JJ19 → Post → Prop
  | .inl i => psi19n i
  | .inr i => psi19o i
def muj19 : JJ19 → Nat
  | .inl i => (i.1.1.length - i.2).toNat
  | .inr i => (i.1.1.length - i.2.1).toNat
theorem known19 (lab : Nat → Option Piece) : KnownOk Try.prog (envL []) (knownL [] blk19 lab) := knownL_ok wide .nil _ _
theorem fin19_at {i : I19} {Φ : Post} {k : Int} {o : List Sp.Rm} (h : inv19 i k o) (hk : (i.1.length : Int) ≤ k) (hF : fin19 i Φ) : (o = [] → Φ .normal (mkS 63 [(0, TV.l 23 PT i.1), (1, TV.int .i64 i.2.1), (4, .a (.ref 0 4 0)), (7, TV.int .i64 i.2.2), (8, .a .nils)] [box19 0 0])) ∧ (o ≠ [] → Φ .normal (mkS 63 [(0, TV.l 23 PT i.1), (1, TV.int .i64 i.2.1), (4, .a (.ref 0 4 0)), (7, TV.int .i64 i.2.2), (8, TV.h 53)] [box19 0 0, (53, .arr false 23 PT o)])) := by
  obtain ⟨_, _, _, _, k0, k1, ho⟩ := h
  have : k.toNat = i.1.length := by omega
  rw [this] at ho
  rw [ho]; exact hF

theorem step19n (f : List Sp.Rm) (n i k : Int) (Φ : Post)  (h : inv19 (f, n, i) k ([] : List Sp.Rm)) (hF : fin19 (f, n, i) Φ) : wpT Try.prog (knownL [] blk19 lab19) (loopOf (blkC (bodyOf Try.f19) 0)) (mk19n ((f, n, i), k)) (stepK 63 [0, 1, 4, 7, 8, 28, 29, 30] [4, 53] [0, 1, 4, 7, 8] [4, 53] 0 mkj19 muj19 psij19 (f.length - k).toNat Φ) := by
  obtain ⟨⟨hnear, hfl, hn⟩, ⟨n1, n2⟩, i0, i1, k0, k1, ho⟩ := id h
  simp only at hnear hfl hn n1 n2 i0 i1 k0 k1 ho
  obtain ⟨c, rfl⟩ : ∃ c : Nat, k = c := ⟨k.toNat, by omega⟩
  obtain ⟨a, rfl⟩ : ∃ a : Nat, i = a := ⟨i.toNat, by omega⟩
  rw [Int.toNat_natCast] at ho n2
  rw [Int.toNat_natCast] at ho
  refine Eq.mpr (nf19n _ mkj19 psij19 muj19 f n a c Φ _) ?_
  refine brc_ilt (fun hc => ?_) fun hc => (fin19_at h hc hF).1 rfl
  have hc : c < f.length := by have : ((c : Nat) : Int) < ((f.length : Nat) : Int) := hc; omega
  rw [W.add_i64 (a := (c : Int)) (b := 1) (by omega) (by omega)]
  have e1 : W.nth f (W.toNat (c : Int)) ((0 : Int), (0 : Int), PUnit.unit) = W.nth f c ((0 : Int), (0 : Int), ()) := rfl
  rw [e1]
  have hu := hnear _ (Sp.nth_mem hc)
  have hol : (([] : List Sp.Rm) : List Sp.Rm).length ≤ c := by rw [ho]; exact Sp.lefts_len _ _ _ _
  have hl : Sp.lefts f a n (c + 1) = if 0 < (Sp.piece f a n c).2.1 then ([] : List Sp.Rm) ++ [Sp.piece f a n c] else ([] : List Sp.Rm) := by rw [Sp.lefts, ← ho]
  have nxtN : Sp.lefts f a n (c + 1) = [] → ∃ j, mkS 63 [(0, TV.l 23 PT f), (1, TV.int .i64 n), (4, .a (.ref 0 4 0)), (7, TV.int .i64 (a : Int)), (8, .a .nils), (28, TV.l 23 PT f), (29, TV.int .i64 f.length), (30, TV.int .i64 ((c : Int) + 1))] [box19 0 0] = mkj19 j ∧ muj19 j < ((f.length : Int) - (c : Int)).toNat ∧ psij19 j Φ := fun hq => by
    refine ⟨.inl ((f, n, (a : Int)), (c : Int) + 1), rfl, ?_, ⟨⟨hnear, hfl, hn⟩, ⟨n1, by rw [Int.toNat_natCast]; exact n2⟩, i0, i1, ?_, ?_, ?_⟩, hF⟩
    · show ((f.length : Int) - ((c : Int) + 1)).toNat < ((f.length : Int) - (c : Int)).toNat; omega
    · show 0 ≤ (c : Int) + 1; omega
    · show (c : Int) + 1 ≤ (f.length : Int); omega
    · show [] = Sp.lefts f ((a : Nat) : Int).toNat n ((c : Int) + 1).toNat
      rw [Int.toNat_natCast, show ((c : Int) + 1).toNat = c + 1 by omega, hq]
  have nxtO : ∀ w : List Sp.Rm, w ≠ [] → w = Sp.lefts f a n (c + 1) → ∃ j, mkS 63 [(0, TV.l 23 PT f), (1, TV.int .i64 n), (4, .a (.ref 0 4 0)), (7, TV.int .i64 (a : Int)), (8, TV.h 53), (28, TV.l 23 PT f), (29, TV.int .i64 f.length), (30, TV.int .i64 ((c : Int) + 1))] [box19 0 0, (53, .arr false 23 PT w)] = mkj19 j ∧ muj19 j < ((f.length : Int) - (c : Int)).toNat ∧ psij19 j Φ := fun w hw hq => by
    refine ⟨.inr ((f, n, (a : Int)), (c : Int) + 1, w), rfl, ?_, ⟨hw, ⟨hnear, hfl, hn⟩, ⟨n1, by rw [Int.toNat_natCast]; exact n2⟩, i0, i1, ?_, ?_, ?_⟩, hF⟩
    · show ((f.length : Int) - ((c : Int) + 1)).toNat < ((f.length : Int) - (c : Int)).toNat; omega
    · show 0 ≤ (c : Int) + 1; omega
    · show (c : Int) + 1 ≤ (f.length : Int); omega
    · show w = Sp.lefts f ((a : Nat) : Int).toNat n ((c : Int) + 1).toNat
      rw [Int.toNat_natCast, show ((c : Int) + 1).toNat = c + 1 by omega, hq]
  refine grd_ile (by omega) (grd_nlt hc (brc_ieq (fun he => ?_) fun he => ?_))
  · have he : c = a := by omega
    subst he
    have hp : Sp.piece f c n c = ((W.nth f c ((0 : Int), (0 : Int), ())).1 + n, (W.nth f c ((0 : Int), (0 : Int), ())).2.1 - n, ()) := if_pos rfl
    rw [W.sub_i64 (by omega) (by omega), W.add_i64 (a := (W.nth f c ((0 : Int), (0 : Int), ())).1) (by omega) (by omega)]
    rw [hp] at hl
    generalize W.nth f c ((0 : Int), (0 : Int), ()) = r at hl hu n2 ⊢
    refine brc_igt (fun hg => ?_) fun hg => ?_
    · rw [if_pos hg] at hl
      exact nxtO _ (by simp) hl.symm
    · rw [if_neg (by show ¬ 0 < r.2.1 - n; omega)] at hl
      exact nxtN hl
  · have hp : Sp.piece f a n c = W.nth f c ((0 : Int), (0 : Int), ()) := if_neg (by omega)
    rw [hp] at hl
    generalize W.nth f c ((0 : Int), (0 : Int), ()) = r at hl hu ⊢
    obtain ⟨x, y, z⟩ := r
    refine brc_igt (fun hg => ?_) fun hg => ?_
    · rw [if_pos hg] at hl
      exact nxtO _ (by simp) hl.symm
    · rw [if_neg (by show ¬ 0 < y; have hg : y ≤ 0 := hg; omega)] at hl
      exact nxtN hl

theorem step19o (f : List Sp.Rm) (n i k : Int) (o : List Sp.Rm) (Φ : Post) (hne : o ≠ []) (h : inv19 (f, n, i) k o) (hF : fin19 (f, n, i) Φ) : wpT Try.prog (knownL [] blk19 lab19) (loopOf (blkC (bodyOf Try.f19) 0)) (mk19o ((f, n, i), k, o)) (stepK 63 [0, 1, 4, 7, 8, 28, 29, 30] [4, 53] [0, 1, 4, 7, 8] [4, 53] 0 mkj19 muj19 psij19 (f.length - k).toNat Φ) := by
  obtain ⟨⟨hnear, hfl, hn⟩, ⟨n1, n2⟩, i0, i1, k0, k1, ho⟩ := id h
  simp only at hnear hfl hn n1 n2 i0 i1 k0 k1 ho
  obtain ⟨c, rfl⟩ : ∃ c : Nat, k = c := ⟨k.toNat, by omega⟩
  obtain ⟨a, rfl⟩ : ∃ a : Nat, i = a := ⟨i.toNat, by omega⟩
  rw [Int.toNat_natCast] at ho n2
  rw [Int.toNat_natCast] at ho
  refine Eq.mpr (nf19o _ mkj19 psij19 muj19 f n a c o Φ _) ?_
  refine brc_ilt (fun hc => ?_) fun hc => (fin19_at h hc hF).2 hne
  have hc : c < f.length := by have : ((c : Nat) : Int) < ((f.length : Nat) : Int) := hc; omega
  rw [W.add_i64 (a := (c : Int)) (b := 1) (by omega) (by omega)]
  have e1 : W.nth f (W.toNat (c : Int)) ((0 : Int), (0 : Int), PUnit.unit) = W.nth f c ((0 : Int), (0 : Int), ()) := rfl
  rw [e1]
  have hu := hnear _ (Sp.nth_mem hc)
  have hol : (o : List Sp.Rm).length ≤ c := by rw [ho]; exact Sp.lefts_len _ _ _ _
  have hl : Sp.lefts f a n (c + 1) = if 0 < (Sp.piece f a n c).2.1 then o ++ [Sp.piece f a n c] else o := by rw [Sp.lefts, ← ho]
  have nxtN : Sp.lefts f a n (c + 1) = [] → ∃ j, mkS 63 [(0, TV.l 23 PT f), (1, TV.int .i64 n), (4, .a (.ref 0 4 0)), (7, TV.int .i64 (a : Int)), (8, .a .nils), (28, TV.l 23 PT f), (29, TV.int .i64 f.length), (30, TV.int .i64 ((c : Int) + 1))] [box19 0 0] = mkj19 j ∧ muj19 j < ((f.length : Int) - (c : Int)).toNat ∧ psij19 j Φ := fun hq => by
    refine ⟨.inl ((f, n, (a : Int)), (c : Int) + 1), rfl, ?_, ⟨⟨hnear, hfl, hn⟩, ⟨n1, by rw [Int.toNat_natCast]; exact n2⟩, i0, i1, ?_, ?_, ?_⟩, hF⟩
    · show ((f.length : Int) - ((c : Int) + 1)).toNat < ((f.length : Int) - (c : Int)).toNat; omega
    · show 0 ≤ (c : Int) + 1; omega
    · show (c : Int) + 1 ≤ (f.length : Int); omega
    · show [] = Sp.lefts f ((a : Nat) : Int).toNat n ((c : Int) + 1).toNat
      rw [Int.toNat_natCast, show ((c : Int) + 1).toNat = c + 1 by omega, hq]
  have nxtO : ∀ w : List Sp.Rm, w ≠ [] → w = Sp.lefts f a n (c + 1) → ∃ j, mkS 63 [(0, TV.l 23 PT f), (1, TV.int .i64 n), (4, .a (.ref 0 4 0)), (7, TV.int .i64 (a : Int)), (8, TV.h 53), (28, TV.l 23 PT f), (29, TV.int .i64 f.length), (30, TV.int .i64 ((c : Int) + 1))] [box19 0 0, (53, .arr false 23 PT w)] = mkj19 j ∧ muj19 j < ((f.length : Int) - (c : Int)).toNat ∧ psij19 j Φ := fun w hw hq => by
    refine ⟨.inr ((f, n, (a : Int)), (c : Int) + 1, w), rfl, ?_, ⟨hw, ⟨hnear, hfl, hn⟩, ⟨n1, by rw [Int.toNat_natCast]; exact n2⟩, i0, i1, ?_, ?_, ?_⟩, hF⟩
    · show ((f.length : Int) - ((c : Int) + 1)).toNat < ((f.length : Int) - (c : Int)).toNat; omega
    · show 0 ≤ (c : Int) + 1; omega
    · show (c : Int) + 1 ≤ (f.length : Int); omega
    · show w = Sp.lefts f ((a : Nat) : Int).toNat n ((c : Int) + 1).toNat
      rw [Int.toNat_natCast, show ((c : Int) + 1).toNat = c + 1 by omega, hq]
  refine grd_ile (by omega) (grd_nlt hc (brc_ieq (fun he => ?_) fun he => ?_))
  · have he : c = a := by omega
    subst he
    have hp : Sp.piece f c n c = ((W.nth f c ((0 : Int), (0 : Int), ())).1 + n, (W.nth f c ((0 : Int), (0 : Int), ())).2.1 - n, ()) := if_pos rfl
    rw [W.sub_i64 (by omega) (by omega), W.add_i64 (a := (W.nth f c ((0 : Int), (0 : Int), ())).1) (by omega) (by omega)]
    rw [hp] at hl
    generalize W.nth f c ((0 : Int), (0 : Int), ()) = r at hl hu n2 ⊢
    refine brc_igt (fun hg => ?_) fun hg => ?_
    · rw [if_pos hg] at hl
      exact grd_nle (by show (o.length + 1) * 16 ≤ 140737488355328; omega) (nxtO _ (by simp [W.app]) hl.symm)
    · rw [if_neg (by show ¬ 0 < r.2.1 - n; omega)] at hl
      exact nxtO _ hne hl.symm
  · have hp : Sp.piece f a n c = W.nth f c ((0 : Int), (0 : Int), ()) := if_neg (by omega)
    rw [hp] at hl
    generalize W.nth f c ((0 : Int), (0 : Int), ()) = r at hl hu ⊢
    obtain ⟨x, y, z⟩ := r
    refine brc_igt (fun hg => ?_) fun hg => ?_
    · rw [if_pos hg] at hl
      exact grd_nle (by show (o.length + 1) * 16 ≤ 140737488355328; omega) (nxtO _ (by simp [W.app]) hl.symm)
    · rw [if_neg (by show ¬ 0 < y; have hg : y ≤ 0 := hg; omega)] at hl
      exact nxtO _ hne hl.symm

theorem loop19 : ∀ s Φ, piece19 s Φ → Run Try.prog (.code (.block 0 (blkC (bodyOf Try.f19) 0))) s Φ := by
  intro s Φ hp
  have hp : loopP 63 [0, 1, 4, 7, 8, 28, 29, 30] [4, 53] mkj19 psij19 s Φ := cleanT_mono (fun s2 h => by
    rcases h with ⟨i, h1, h2⟩ | ⟨i, h1, h2⟩
    · exact ⟨.inl i, h1, h2⟩
    · exact ⟨.inr i, h1, h2⟩) hp
  refine run_loopB (lx := [0, 1, 4, 7, 8]) (kx := [4, 53]) (known19 lab19) muj19 (by kernel_rfl) (lamOk_free (by kernel_rfl)) ?_ s Φ hp
  rintro (⟨⟨f, n, i⟩, k⟩ | ⟨⟨f, n, i⟩, k, o⟩) Φ h
  · exact step19n f n i k Φ h.1 h.2
  · exact step19o f n i k o Φ h.1.1 h.1.2 h.2
theorem rest19 (lab : Nat → Option Piece) (l : Nat) (hb : (blocksOf (restC (bodyOf Try.f19) l)).map (·.1) = [0, 1]) (h0 : blkC (restC (bodyOf Try.f19) l) 0 = blkC (bodyOf Try.f19) 0) (hs : scopesOf (restC (bodyOf Try.f19) l) = []) : LamOk Try.prog (knownL [] blk19 lab) (restC (bodyOf Try.f19) l) := by
  refine lamOk_of (fun id c' hm ψ hψ => ?_) (fun c' hm => ?_)
  · have hc : c' = blkC (restC (bodyOf Try.f19) l) id := findB_mem (by rw [hb]; rfl) hm
    obtain ⟨rfl, rfl⟩ := one_some (hψ : blk19 id = some ψ)
    rw [hc, h0]; exact loop19
  · rw [hs] at hm; cases hm
theorem jump19b : ∀ rest, findLabel (scC (bodyOf Try.f19)) 1 = some rest → ∀ s Φ, loopP 63 [0, 1, 4, 7, 8] [4] mk19 psi19b s Φ → Run Try.prog (.within (scC (bodyOf Try.f19)) rest) s Φ := by
  intro rest hr s Φ hp
  have h3 : findLabel (scC (bodyOf Try.f19)) 1 = some (restC (bodyOf Try.f19) 1) := by kernel_rfl
  rw [h3] at hr
  simp only [Option.some.injEq] at hr; subst hr
  refine run_jump (lx := [4, 5, 6]) (kx := [4, 53]) (known19 noneK) (fun _ => 0) (rest19 noneK 1 (by kernel_rfl) (by kernel_rfl) (by kernel_rfl)) h3 (fun l'' rest' ψ'' hne hf' hl' => by cases hl') ?_ s Φ hp
  rintro ⟨f, n, i⟩ Φ ⟨⟨hpre, n1, hi, hlt⟩, hE0, hE1, hE2⟩
  simp only at hpre n1 hi hlt hE0 hE1 hE2
  subst hi
  have hn := Sp.fi_has hlt
  refine Eq.mpr (nf19b _ mk19 psi19b _ f n _ Φ _) (.inl ⟨((f, n, (Sp.fi f n : Int)), 0), rfl, ⟨hpre, ⟨n1, hn⟩, ?_, ?_, Int.le_refl _, ?_, rfl⟩, fun h => grd_ile ?_ (grd_nlt ?_ (hE1 hlt h)), fun h => grd_ile ?_ (grd_nlt ?_ (hE2 hlt h))⟩)
  · show (0 : Int) ≤ (Sp.fi f n : Int); omega
  · show (Sp.fi f n : Int) < (f.length : Int); omega
  · show (0 : Int) ≤ (f.length : Int); omega
  · show (0 : Int) ≤ (Sp.fi f n : Int); omega
  · exact hlt
  · show (0 : Int) ≤ (Sp.fi f n : Int); omega
  · exact hlt
theorem jump19a : ∀ rest, findLabel (scC (bodyOf Try.f19)) 0 = some rest → ∀ s Φ, loopP 63 [0, 1, 4, 7, 8] [4] mk19 psi19a s Φ → Run Try.prog (.within (scC (bodyOf Try.f19)) rest) s Φ := by
  intro rest hr s Φ hp
  have h3 : findLabel (scC (bodyOf Try.f19)) 0 = some (restC (bodyOf Try.f19) 0) := by kernel_rfl
  rw [h3] at hr
  simp only [Option.some.injEq] at hr; subst hr
  refine run_jump (lx := [4, 5, 6]) (kx := [4, 53]) (known19 lab19) (fun i : I19 => (i.1.length - i.2.2).toNat) (rest19 lab19 0 (by kernel_rfl) (by kernel_rfl) (by kernel_rfl)) h3 (fun l'' rest' ψ'' hne hf' hl' => ?_) ?_ s Φ hp
  · have hl' : lab19 l'' = some ψ'' := hl'
    unfold lab19 at hl'
    split at hl'
    · rename_i hb
      exact absurd (Nat.eq_of_beq_eq_true hb) hne
    · obtain ⟨rfl, rfl⟩ := one_some hl'
      exact jump19b rest' hf'
  rintro ⟨f, n, i⟩ Φ ⟨⟨hpre, n1, i0, i1, i2⟩, hE⟩
  simp only at hpre n1 i0 i1 i2 hE
  obtain ⟨c, rfl⟩ : ∃ c : Nat, i = c := ⟨i.toNat, by omega⟩
  have hfl := hpre.2.1
  refine Eq.mpr (nf19a _ mk19 psi19a _ f n c Φ _) ?_
  refine brc_ieq (fun h => ?_) fun h => ?_
  · have h : (c : Int) = (f.length : Int) := h
    have := Sp.fi_le f n
    exact hE.1 (by omega)
  · have h : (c : Int) ≠ (f.length : Int) := h
    have hc : c < f.length := by omega
    have e1 : W.nth f (W.toNat (c : Int)) ((0 : Int), (0 : Int), PUnit.unit) = W.nth f c ((0 : Int), (0 : Int), ()) := rfl
    rw [e1, W.add_i64 (a := (c : Int)) (b := 1) (by omega) (by omega)]
    refine grd_ile (by omega) (grd_nlt hc (brc_ige (fun hg => ?_) fun hg => ?_))
    · have hfi := Sp.fi_at hc (by omega) hg
      exact ⟨(f, n, (c : Int)), rfl, ⟨hpre, n1, by show (c : Int) = (Sp.fi f n : Int); omega, by show Sp.fi f n < f.length; omega⟩, hE⟩
    · have hfi := Sp.fi_past (n := n) hc (by omega) (by omega)
      refine ⟨(f, n, (c : Int) + 1), rfl, ?_, ⟨hpre, n1, ?_, ?_, ?_⟩, hE⟩
      · show ((f.length : Int) - ((c : Int) + 1)).toNat < ((f.length : Int) - (c : Int)).toNat; omega
      · show 0 ≤ (c : Int) + 1; omega
      · show (c : Int) + 1 ≤ (f.length : Int); omega
      · show (c : Int) + 1 ≤ (Sp.fi f n : Int); omega
theorem lab19_some : ∀ l rest ψ, findLabel (scC (bodyOf Try.f19)) l = some rest → lab19 l = some ψ → ∀ s Φ, ψ s Φ → Run Try.prog (.within (scC (bodyOf Try.f19)) rest) s Φ := by
  intro l rest ψ hf hl
  unfold lab19 at hl
  split at hl
  · rename_i hb
    have := Nat.eq_of_beq_eq_true hb
    subst this
    cases hl
    exact jump19a rest hf
  · obtain ⟨rfl, rfl⟩ := one_some hl
    exact jump19b rest hf
def takeE (k : Int) : TV := .tup [.agg [.a (.x (.int .i64 0)), .a (.x (.int .i64 0))], .c (.a .nils), .c (.a (.x (.int .i64 k)))]
def takeN (f : List Sp.Rm) (n : Int) : TV := .tup [.agg [.a (.x (.int .i64 (W.nth f (Sp.fi f n) ((0 : Int), (0 : Int), ())).1)), .a (.x (.int .i64 n))], .c (.a .nils), .c (.a (.x (.int .i64 0)))]
def takeO (e : TypeId) (f : List Sp.Rm) (n : Int) : TV := .tup [.agg [.a (.x (.int .i64 (W.nth f (Sp.fi f n) ((0 : Int), (0 : Int), ())).1)), .a (.x (.int .i64 n))], .own e PT (Sp.lefts f (Sp.fi f n) n f.length), .c (.a (.x (.int .i64 0)))]
def takeV (e : TypeId) (f : List Sp.Rm) (n : Int) : TV := if n < 1 then takeE 1 else if Sp.fi f n = f.length then takeE 9 else if Sp.lefts f (Sp.fi f n) n f.length = [] then takeN f n else takeO e f n
def takeK (e : TypeId) (f : List Sp.Rm) (n : Int) (K : TV → Prop) : Prop := (n < 1 → K (takeE 1)) ∧ (1 ≤ n → Sp.fi f n = f.length → K (takeE 9)) ∧ (1 ≤ n → Sp.fi f n < f.length → Sp.lefts f (Sp.fi f n) n f.length = [] → K (takeN f n)) ∧ (1 ≤ n → Sp.fi f n < f.length → Sp.lefts f (Sp.fi f n) n f.length ≠ [] → K (takeO e f n))
theorem takeK_ok {e : TypeId} {f : List Sp.Rm} {n : Int} {K : TV → Prop} (h : takeK e f n K) : K (takeV e f n) := by
  obtain ⟨h1, h2, h3, h4⟩ := h
  have := Sp.fi_le f n
  unfold takeV
  split
  · exact h1 (by assumption)
  · split
    · exact h2 (by omega) (by assumption)
    · split
      · exact h3 (by omega) (by omega) (by assumption)
      · exact h4 (by omega) (by omega) (by assumption)
theorem takeV_out {e : TypeId} (he : Nat.beq e objE = false) (f : List Sp.Rm) (n : Int) : (takeV e f n).outOk = true := by
  unfold takeV
  split
  · rfl
  · split
    · rfl
    · split
      · rfl
      · simp [takeO, TV.outOk, T1.outOk, he, TC.isVal, AV.isVal]
def ctr19 : TCtr where
  f := 19
  sig := [.l 23 PT, .v (.int .i64)]
  pre := fun (d : List Sp.Rm × Int × Unit) => Sp.pre19 d.1 d.2.1
  out := fun (d : List Sp.Rm × Int × Unit) => takeV 23 d.1 d.2.1
  outK := fun (d : List Sp.Rm × Int × Unit) K => takeK 23 d.1 d.2.1 K
  outK_ok := fun (d : List Sp.Rm × Int × Unit) K h => takeK_ok h
  outOk := fun (d : List Sp.Rm × Int × Unit) => takeV_out (by decide) d.1 d.2.1
theorem good19 : GoodC Try.prog ctr19 := by
  refine good_byDB (c := ctr19) (L := []) (DL := []) (blk := blk19) (lab := lab19) (fn := Try.f19) wide .nil (fun c h => by cases h) ⟨by kernel_rfl, by kernel_rfl, by kernel_rfl, by kernel_rfl⟩ (lamOk_body (by kernel_rfl) (by kernel_rfl) (fun id ψ h => ?_) lab19_some) (fun d hd => ?_)
  · obtain ⟨rfl, rfl⟩ := one_some (h : blk19 id = some ψ)
    exact loop19
  obtain ⟨f, n, x⟩ : List Sp.Rm × Int × Unit := d
  have hd : Sp.pre19 f n := hd
  have hfle := Sp.fi_le f n
  have v1 : n < 1 → takeE 1 = takeV 23 f n := fun h => by unfold takeV; rw [if_pos h]
  have v9 : 1 ≤ n → Sp.fi f n = f.length → takeE 9 = takeV 23 f n := fun h h2 => by unfold takeV; rw [if_neg (by omega), if_pos h2]
  have vN : 1 ≤ n → Sp.fi f n < f.length → Sp.lefts f (Sp.fi f n) n f.length = [] → takeN f n = takeV 23 f n := fun h h2 h3 => by unfold takeV; rw [if_neg (by omega), if_neg (by omega), if_pos h3]
  have vO : 1 ≤ n → Sp.fi f n < f.length → Sp.lefts f (Sp.fi f n) n f.length ≠ [] → takeO 23 f n = takeV 23 f n := fun h h2 h3 => by unfold takeV; rw [if_neg (by omega), if_neg (by omega), if_neg h3]
  refine Blk.nf (nf19 f n _) (brc_ilt v1 fun h1 => brc_ieq (fun h2 => v9 h1 ?_) fun h2 => grd_nlt ?_ (brc_ige (fun h3 => ?_) fun h3 => ?_))
  · have h2 : (0 : Int) = (f.length : Int) := h2
    omega
  · have h2 : (0 : Int) ≠ (f.length : Int) := h2
    show 0 < f.length; omega
  · have h2 : (0 : Int) ≠ (f.length : Int) := h2
    have hfi := Sp.fi_at (f := f) (n := n) (i := 0) (by omega) (Nat.zero_le _) h3
    exact ⟨(f, n, 0), rfl, ⟨hd, h1, by show (0 : Int) = (Sp.fi f n : Int); omega, by show Sp.fi f n < f.length; omega⟩, fun q => v9 h1 q, fun q q2 => vN h1 q q2, fun q q2 => vO h1 q q2⟩
  · have h2 : (0 : Int) ≠ (f.length : Int) := h2
    have h3 : (W.nth f 0 ((0 : Int), (0 : Int), ())).2.1 < n := h3
    have hfi := Sp.fi_past (f := f) (n := n) (i := 0) (by omega) (Nat.zero_le _) (by omega)
    exact ⟨(f, n, 1), rfl, ⟨hd, h1, by show (0 : Int) ≤ 1; omega, by show (1 : Int) ≤ (f.length : Int); omega, by show (1 : Int) ≤ (Sp.fi f n : Int); omega⟩, fun q => v9 h1 q, fun q q2 => vN h1 q q2, fun q q2 => vO h1 q q2⟩
end Go.Proofs.Ytpohkoijbocpcaa
