/-
  Texts of a proof over the translated program: NeExt10.
-/
import Derived.Test.YtpohkoijbocpcaaNeExt9
set_option linter.unusedVariables false
namespace Go.Proofs.Ytpohkoijbocpcaa
open Go.AbsM
attribute [local irreducible] Sp.mark Sp.fr Sp.frees Sp.tk Sp.fi Sp.lefts
abbrev JA7 := List Int ⊕ (I7B ⊕ I7C)
def mkja7 : JA7 → TSt
  | .inl i => mk7A i
  | .inr (.inl i) => mk7B i
  | .inr (.inr i) => mk7C i
def psija7 : JA7 → Post → Prop
  | .inl i => psi7A i
  | .inr (.inl i) => psi7B i
  | .inr (.inr i) => psi7C i
def muja7 : JA7 → Nat
  | .inl i => i.length
  | .inr (.inl i) => (i.1.length - i.2.1).toNat
  | .inr (.inr i) => (i.1.length - i.2.1).toNat
theorem num7 {l : List Int} (hl : Sp.bts l) {c : Nat} (h : c < l.length) : ∃ n, W.add .i64 1 (W.wrap .i64 (W.rem (W.nth l c (0 : Int)) 12)) = n ∧ 1 ≤ n ∧ n ≤ 12 := by
  have hx : 0 ≤ W.nth l c (0 : Int) ∧ W.nth l c (0 : Int) < 256 := by
    unfold W.nth
    rw [List.getD_eq_getElem?_getD, List.getElem?_eq_getElem h]; exact hl.1 _ (List.getElem_mem h)
  refine ⟨_, rfl, ?_⟩
  rw [W.rem_pos hx.1, W.wi64_in (by omega) (by omega), W.add_i64 (by omega) (by omega)]
  omega
theorem step7A (l : List Int) (Φ : Post) (hl : Sp.bts l) (hE : end7 Φ) : wpT Try.prog (knownL givL blk7 noneK) (loopOf (blkC (bodyOf Try.f7) 0)) (mk7A l) (stepK 93 [0, 3, 4, 5, 6] [19, 66, 103601] [2, 3, 4] [19, 66, 103601] 0 mkja7 muja7 psija7 l.length Φ) := by
  refine Eq.mpr (nf7A _ mkja7 psija7 muja7 l Φ _) (brc_ilt (fun hc => ?_) fun _ => hE.2.1)
  have hc : 0 < l.length := by have : (0 : Int) < ((l.length : Nat) : Int) := hc; omega
  obtain ⟨n, en, n1, n2⟩ := num7 hl hc
  rw [en]
  have hf : Sp.fi [((2 : Int), (98 : Int), PUnit.unit)] n = 0 := by
    have := Sp.fi_tail (s := 0) (n := n)
    rw [if_pos (by omega)] at this
    exact this
  have hlf : Sp.lefts [((2 : Int), (98 : Int), PUnit.unit)] 0 n 1 = Sp.tail n := by
    have := Sp.lefts_tail (s := 0) (n := n)
    rw [if_pos (by omega), Int.zero_add] at this
    exact this
  rw [hf, hlf]
  refine grd_nlt hc ⟨Sp.tail_pre (s := 0) (by omega) ⟨n1, n2⟩, fun h => (by exfalso; omega), fun _ h => (by cases h), fun _ _ h => (by simp [Sp.tail] at h), fun _ _ _ => .inl ⟨((l, 0, 0, n, 2), 0, Sp.tail n), rfl, ⟨⟨Int.le_refl _, Int.le_refl _, Nat.zero_le _⟩, ⟨by show (0 : Int) ≤ 2; omega, by show (2 : Int) ≤ 100; omega⟩, ⟨n1, n2⟩, fun u hu => by cases hu⟩, .inr (.inl (l, 1, n, [(2, n, ())], Sp.tail n)), ?_, ?_, ⟨⟨hl, ⟨by show (0 : Int) ≤ 1; omega, by show (1 : Int) ≤ (l.length : Int); omega⟩, ⟨rfl, n1, trivial⟩, ?_, by show n ≤ 98; omega, rfl⟩, by show n < 98; omega, rfl⟩, hE⟩⟩
  · dsimp only
    rw [W.add_i64 (a := 0) (b := n) (by omega) (by omega), W.add_i64 (a := 0) (b := 1) (by omega) (by omega), Int.zero_add, Int.zero_add]
    rfl
  · show ((l.length : Int) - 1).toNat < l.length; omega
  · show n = Sp.sumN [(2, n, ())]
    simp [Sp.sumN]
theorem inn7_of {l : List Int} {i s n : Int} {h : List Sp.Rm} (hi : inv7 l i s h) (hs : s < 98 ∨ s ≤ 98) (n1 : 1 ≤ n) (n2 : n ≤ 12) : inn7 (l, i, s, n, 2 + s) h 0 := by
  obtain ⟨hl, ⟨i0, i1⟩, hc, hsum, hs2, hlen⟩ := hi
  have hin := Sp.chain_in hc
  have hb := hl.2
  refine ⟨⟨Int.le_refl _, by omega, by omega⟩, ⟨by show 0 ≤ 2 + s; omega, by show 2 + s ≤ 100; omega⟩, ⟨n1, n2⟩, fun u hu => ?_⟩
  have := hin.2 u hu
  refine ⟨by omega, by show u.1 + u.2.1 ≤ 2 + s; omega⟩
theorem inv7_next {l : List Int} {i s n : Int} {h : List Sp.Rm} (hi : inv7 l i s h) (hil : i < l.length) (hs : s + n ≤ 98) (n1 : 1 ≤ n) : inv7 l (i + 1) (s + n) (h ++ [(2 + s, n, ())]) := by
  obtain ⟨hl, ⟨i0, i1⟩, hc, hsum, hs2, hlen⟩ := hi
  refine ⟨hl, ⟨by omega, by omega⟩, ?_, ?_, hs, ?_⟩
  · rw [hsum]; exact Sp.chain_app hc n1
  · rw [Sp.sumN_app, hsum]
  · rw [List.length_append]; simp; omega
theorem step7B (l : List Int) (i s : Int) (h : List Sp.Rm) (Φ : Post) (hi : inv7 l i s h) (hs : s < 98) (hE : end7 Φ) : wpT Try.prog (knownL givL blk7 noneK) (loopOf (blkC (bodyOf Try.f7) 0)) (mk7B (l, i, s, h, Sp.tail s)) (stepK 93 [0, 3, 4, 5, 6] [19, 66, 103601] [2, 3, 4] [19, 66, 103601] 0 mkja7 muja7 psija7 (l.length - i).toNat Φ) := by
  obtain ⟨hl, ⟨i0, i1⟩, hc, hsum, hs2, hlen⟩ := id hi
  have hb := hl.2
  have hn0 := (Sp.chain_in hc).1
  obtain ⟨c, rfl⟩ : ∃ c : Nat, i = c := ⟨i.toNat, by omega⟩
  refine Eq.mpr (nf7B _ mkja7 psija7 muja7 l c s h (Sp.tail s) Φ _) (brc_ilt (fun hq => ?_) fun _ => by rw [hsum]; exact hE.2.2.1 h (by omega) hc (by omega))
  have hq : c < l.length := by have : ((c : Nat) : Int) < ((l.length : Nat) : Int) := hq; omega
  obtain ⟨n, en, n1, n2⟩ := num7 hl hq
  have en2 : W.add .i64 1 (W.wrap .i64 (W.rem (W.nth l (W.toNat (c : Int)) (0 : Int)) 12)) = n := en
  have hlen1 : (Sp.tail s).length = 1 := rfl
  rw [en2, hlen1, W.sub_i64 (a := 98) (b := s) (by omega) (by omega)]
  have hnx : s + n ≤ 98 → inv7 l ((c : Int) + 1) (s + n) (h ++ [(2 + s, n, ())]) := fun hle => inv7_next hi (by omega) hle n1
  have hin := inn7_of hi (.inl hs) n1 n2
  refine grd_ile (by omega) (grd_nlt hq ⟨Sp.tail_pre ⟨by omega, by omega⟩ ⟨n1, n2⟩, fun q => (by exfalso; omega), fun _ q => ?_, fun _ q q2 => ?_, fun _ q q2 => ?_⟩)
  · rw [Sp.fi_tail] at q
    have hgt : ¬ n ≤ 98 - s := fun hle => by rw [if_pos hle] at q; cases q
    have e : W.ilt (98 - s) n = true := decide_eq_true (by omega)
    rw [e]; exact hE.1 _ _ _
  · have hle : n ≤ 98 - s := by
      rw [Sp.fi_tail] at q
      by_cases hle : n ≤ 98 - s
      · exact hle
      · rw [if_neg hle] at q; omega
    have hf : Sp.fi (Sp.tail s) n = 0 := by rw [Sp.fi_tail, if_pos hle]
    rw [hf, Sp.lefts_tail] at q2
    have hs98 : s + n = 98 := by
      by_cases hlt : s + n < 98
      · rw [if_pos hlt] at q2; simp [Sp.tail] at q2
      · omega
    rw [hf]
    refine .inr (.inr ⟨((l, (c : Int), s, n, 2 + s), 0, h, Sp.tail s), rfl, hin, grd_nle (by show (h.length + 1) * 16 ≤ 140737488355328; omega) ⟨.inr (.inr (l, (c : Int) + 1, s + n, h ++ [(2 + s, n, ())], Sp.tail s)), ?_, ?_, ⟨hnx (by omega), hs98⟩, hE⟩⟩)
    · dsimp only
      rw [W.add_i64 (a := s) (b := n) (by omega) (by omega), W.add_i64 (a := (c : Int)) (b := 1) (by omega) (by omega)]
      rfl
    · show ((l.length : Int) - ((c : Int) + 1)).toNat < ((l.length : Int) - (c : Int)).toNat; omega
  · have hle : n ≤ 98 - s := by
      rw [Sp.fi_tail] at q
      by_cases hle : n ≤ 98 - s
      · exact hle
      · rw [if_neg hle] at q; omega
    have hf : Sp.fi (Sp.tail s) n = 0 := by rw [Sp.fi_tail, if_pos hle]
    rw [hf] at q2 ⊢
    have hlt : s + n < 98 := by
      by_cases hlt : s + n < 98
      · exact hlt
      · rw [Sp.lefts_tail, if_neg hlt] at q2; exact absurd rfl q2
    rw [Sp.lefts_tail, if_pos hlt]
    refine .inr (.inl ⟨((l, (c : Int), s, n, 2 + s), 0, h, Sp.tail (s + n)), rfl, hin, grd_nle (by show (h.length + 1) * 16 ≤ 140737488355328; omega) ⟨.inr (.inl (l, (c : Int) + 1, s + n, h ++ [(2 + s, n, ())], Sp.tail (s + n))), ?_, ?_, ⟨hnx (by omega), hlt, rfl⟩, hE⟩⟩)
    · dsimp only
      rw [W.add_i64 (a := s) (b := n) (by omega) (by omega), W.add_i64 (a := (c : Int)) (b := 1) (by omega) (by omega)]
      rfl
    · show ((l.length : Int) - ((c : Int) + 1)).toNat < ((l.length : Int) - (c : Int)).toNat; omega
theorem step7C (l : List Int) (i s : Int) (h g : List Sp.Rm) (Φ : Post) (hi : inv7 l i s h) (hs : s = 98) (hE : end7 Φ) : wpT Try.prog (knownL givL blk7 noneK) (loopOf (blkC (bodyOf Try.f7) 0)) (mk7C (l, i, s, h, g)) (stepK 93 [0, 3, 4, 5, 6] [19, 66, 103601] [2, 3, 4] [19, 66, 103601] 0 mkja7 muja7 psija7 (l.length - i).toNat Φ) := by
  obtain ⟨hl, ⟨i0, i1⟩, hc, hsum, hs2, hlen⟩ := id hi
  have hb := hl.2
  subst hs
  obtain ⟨c, rfl⟩ : ∃ c : Nat, i = c := ⟨i.toNat, by omega⟩
  refine Eq.mpr (nf7C _ mkja7 psija7 muja7 l c 98 h g Φ _) (brc_ilt (fun hq => ?_) fun _ => hE.2.2.2 h g (by omega) hc hsum.symm)
  have hq : c < l.length := by have : ((c : Nat) : Int) < ((l.length : Nat) : Int) := hq; omega
  obtain ⟨n, en, n1, n2⟩ := num7 hl hq
  have en2 : W.add .i64 1 (W.wrap .i64 (W.rem (W.nth l (W.toNat (c : Int)) (0 : Int)) 12)) = n := en
  rw [en2, W.sub_i64 (a := 98) (b := 98) (by omega) (by omega)]
  have e : W.ilt (98 - 98) n = true := decide_eq_true (by omega)
  refine grd_ile (by omega) (grd_nlt hq ⟨⟨fun u hu => (by cases hu), (by show 0 < 1000000; omega), (by unfold Sp.i64; omega)⟩, fun q => (by exfalso; omega), fun _ q => ?_, fun _ q => absurd q (Nat.not_lt_zero _), fun _ q => absurd q (Nat.not_lt_zero _)⟩)
  rw [e]; exact hE.1 _ _ _
theorem loop7 : ∀ s Φ, piece7 s Φ → Run Try.prog (.code (.block 0 (blkC (bodyOf Try.f7) 0))) s Φ := by
  intro s Φ hp
  have hp : loopP 93 [0, 3, 4, 5, 6] [19, 66, 103601] mkja7 psija7 s Φ := cleanT_mono (fun s2 h => by
    rcases h with ⟨i, h1, h2⟩ | ⟨i, h1, h2⟩ | ⟨i, h1, h2⟩
    · exact ⟨.inl i, h1, h2⟩
    · exact ⟨.inr (.inl i), h1, h2⟩
    · exact ⟨.inr (.inr i), h1, h2⟩) hp
  refine run_loopB (lx := [2, 3, 4]) (kx := [19, 66, 103601]) known7 muja7 (by kernel_rfl) ?_ ?_ s Φ hp
  · refine lamOk_of (fun id c' hm ψ hψ => ?_) (fun c' hm => ?_)
    · have hids : (blocksOf (loopOf (blkC (bodyOf Try.f7) 0))).map (·.1) = [1, 2, 3] := by kernel_rfl
      have hc : c' = blkC (loopOf (blkC (bodyOf Try.f7) 0)) id := findB_mem (by rw [hids]; rfl) hm
      have hid : id ∈ [1, 2, 3] := by rw [← hids]; exact List.mem_map.2 ⟨_, hm, rfl⟩
      simp only [List.mem_cons, List.not_mem_nil, or_false] at hid
      rcases hid with rfl | rfl | rfl
      · cases hψ
      · cases hψ
        rw [hc]
        have : blkC (loopOf (blkC (bodyOf Try.f7) 0)) 2 = blkC (bodyOf Try.f7) 2 := by kernel_rfl
        rw [this]; exact loop7b
      · cases hψ
    · have : scopesOf (loopOf (blkC (bodyOf Try.f7) 0)) = [] := by kernel_rfl
      rw [this] at hm; cases hm
  rintro (l | ⟨l, i, s, h, f⟩ | ⟨l, i, s, h, g⟩) Φ hh
  · exact step7A l Φ hh.1 hh.2
  · obtain ⟨⟨hi, hs, hf⟩, hE⟩ := hh
    have hf : f = Sp.tail s := hf
    subst hf
    exact step7B l i s h Φ hi hs hE
  · exact step7C l i s h g Φ hh.1.1 hh.1.2 hh.2
def law7 : TCtr := lawC 7 [.l 5 (.int .u8)] (fun (d : List Int × Unit) => ∀ x, x ∈ d.1 → 0 ≤ x ∧ x < 256)
theorem good7 : GoodC Try.prog law7 := by
  refine good_byDB (c := law7) (DL := []) (blk := blk7) (lab := noneK) (fn := Try.f7) wide good7L (fun c h => by cases h) ⟨by kernel_rfl, by kernel_rfl, by kernel_rfl, by kernel_rfl⟩ (lamOk_body (by kernel_rfl) (by kernel_rfl) (fun id ψ h => ?_) (fun l rest ψ _ hl => by cases hl)) (fun d hd => ?_)
  · have h : blk7 id = some ψ := h
    unfold blk7 at h
    split at h
    · rename_i hb
      have := Nat.eq_of_beq_eq_true hb
      subst this
      cases h; exact loop7
    · split at h
      · rename_i hb
        have := Nat.eq_of_beq_eq_true hb
        subst this
        cases h; exact loop7b
      · obtain ⟨rfl, rfl⟩ := one_some h
        exact loop7d
  obtain ⟨l, x⟩ : List Int × Unit := d
  have hd : ∀ x, x ∈ l → 0 ≤ x ∧ x < 256 := hd
  have g0 : (100 : Int) = 100 ∧ True ∧ Int.NonNeg 98 := ⟨rfl, trivial, ⟨98⟩⟩
  have bad : ∀ {p : Prop}, (98 : Int) ≤ 0 → p := fun h => by exfalso; omega
  refine Blk.nf (nf7 l _) ⟨trivial, brc_igt (fun _ => rfl) fun hl => ⟨g0, fun _ => .inl ⟨l, rfl, ⟨hd, ?_⟩, fun _ _ _ => rfl, ⟨g0, fun _ => .inl ⟨(Sp.tail 0, 0), rfl, ⟨by show 1 ≤ 1; omega, Int.le_refl _, by show (0 : Int) ≤ 1; omega⟩, rfl⟩, fun h => bad h⟩, fun h h1 h2 h3 => ⟨⟨rfl, h2, by omega⟩, fun _ => .inr (.inl ⟨(Sp.tail (Sp.sumN h), 0), rfl, ⟨by show 1 ≤ 1; omega, Int.le_refl _, by show (0 : Int) ≤ 1; omega⟩, rfl⟩), fun h4 => by exfalso; omega⟩, fun h g h1 h2 h3 => ⟨⟨rfl, h2, by omega⟩, fun h4 => by exfalso; omega, fun _ => .inr (.inr ⟨(0, g), rfl, rfl, rfl⟩)⟩⟩, fun h => bad h⟩⟩
  have hl : (l.length : Int) ≤ 40 := hl
  show l.length ≤ 40; omega
end Go.Proofs.Ytpohkoijbocpcaa
