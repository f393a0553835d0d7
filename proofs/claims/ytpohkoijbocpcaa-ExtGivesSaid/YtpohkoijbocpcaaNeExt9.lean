/-
  Texts of a proof over the translated program: NeExt9.
-/
import Derived.Test.YtpohkoijbocpcaaNeExt9Nf
set_option linter.unusedVariables false
namespace Sp
open Go Go.AbsM
theorem sumN_cons (u : Rm) (r : List Rm) : sumN (u :: r) = u.2.1 + sumN r := by simp [sumN]
theorem chain_in : ∀ {h : List Rm} {a : Int}, chain a h → 0 ≤ sumN h ∧ ∀ u, u ∈ h → a ≤ u.1 ∧ 1 ≤ u.2.1 ∧ u.1 + u.2.1 ≤ a + sumN h
  | [], a, _ => ⟨Int.le_refl _, fun u hu => by cases hu⟩
  | v :: r, a, hc => by
    obtain ⟨h1, h2, h3⟩ := hc
    obtain ⟨q1, q2⟩ := chain_in h3
    rw [sumN_cons]
    refine ⟨by omega, fun u hu => ?_⟩
    rcases List.mem_cons.1 hu with rfl | hu
    · omega
    · have := q2 u hu; omega
theorem chain_len : ∀ {h : List Rm} {a : Int}, chain a h → (h.length : Int) ≤ sumN h
  | [], a, _ => Int.le_refl _
  | v :: r, a, hc => by
    obtain ⟨h1, h2, h3⟩ := hc
    have := chain_len h3
    rw [sumN_cons, List.length_cons]
    omega
theorem chain_app : ∀ {h : List Rm} {a n : Int}, chain a h → 1 ≤ n → chain a (h ++ [(a + sumN h, n, ())])
  | [], a, n, _, hn => ⟨by simp [sumN], hn, trivial⟩
  | v :: r, a, n, hc, hn => by
    obtain ⟨h1, h2, h3⟩ := hc
    refine ⟨h1, h2, ?_⟩
    have := chain_app h3 hn
    rw [sumN_cons, ← Int.add_assoc]
    exact this
theorem tk_chain : ∀ {h : List Rm} {a : Int}, chain a h → 2 ≤ a → a + sumN h ≤ 100 → ∀ i : Nat, tk 100 h i = decide (a ≤ i ∧ (i : Int) < a + sumN h)
  | [], a, _, h2, _, i => by
    have : ¬ (a ≤ (i : Int) ∧ (i : Int) < a + sumN []) := by
      have : sumN [] = 0 := rfl
      omega
    rw [decide_eq_false this]; rfl
  | v :: r, a, hc, h2, hs, i => by
    obtain ⟨q1, q2, q3⟩ := hc
    have hn := (chain_in q3).1
    rw [sumN_cons] at hs ⊢
    have ih := tk_chain q3 (by omega) (by omega) i
    have e : tk 100 (v :: r) i = (decide (check v.1 v.2.1 100 = 0 ∧ v.1 ≤ i ∧ (i : Int) < v.1 + v.2.1) || tk 100 r i) := rfl
    rw [e, ih, ← Bool.decide_or]
    have hck : check v.1 v.2.1 100 = 0 := check_zero (by omega) (by omega) (by omega) (by omega)
    refine bool_dec ?_
    constructor
    · rintro (⟨_, h⟩ | h) <;> omega
    · intro h
      by_cases hv : (i : Int) < v.1 + v.2.1
      · exact .inl ⟨hck, by omega, hv⟩
      · exact .inr (by omega)
theorem fr_none {t : List Bool} : ∀ (k : Nat), (∀ j, j < k → t.getD (2 + j) false = true) → fr t k = []
  | 0, _ => rfl
  | k + 1, h => by rw [fr_pos (h k (by omega))]; exact fr_none k fun j hj => h j (by omega)
theorem frees_chain {h : List Rm} (hc : chain 2 h) (hs : sumN h ≤ 98) : frees 100 h = if sumN h < 98 then tail (sumN h) else [] := by
  have hn := (chain_in hc).1
  have hm : W.imin 100 1024 = 100 := rfl
  rw [frees_eq, hm]
  obtain ⟨s, hs2⟩ : ∃ s : Nat, sumN h = s := ⟨(sumN h).toNat, by omega⟩
  have ht : ∀ j, j < 98 → (mark 100 h).getD (2 + j) false = decide (j < s) := fun j hj => by
    rw [mark_get (by omega), tk_chain hc (by omega) (by omega)]
    exact bool_dec (by omega)
  have h98 : ((100 : Int) - 2).toNat = 98 := rfl
  rw [h98, hs2]
  have h0 : fr (mark 100 h) s = [] := fr_none s fun j hj => by rw [ht j (by omega), decide_eq_true hj]
  by_cases hlt : s < 98
  · rw [if_pos (by omega)]
    have hk : s = 0 ∨ (mark 100 h).getD (2 + s - 1) false = true := by
      by_cases hz : s = 0
      · exact .inl hz
      · refine .inr ?_
        have := ht (s - 1) (by omega)
        rw [show 2 + s - 1 = 2 + (s - 1) by omega, this, decide_eq_true (by omega)]
    have hr := fr_run hk (98 - s - 1) fun j hj => by
      rw [show 2 + s + j = 2 + (s + j) by omega, ht (s + j) (by omega), decide_eq_false (by omega)]
    rw [show s + (98 - s - 1 + 1) = 98 by omega, h0] at hr
    rw [hr]
    unfold tail
    rw [List.nil_append, show ((98 - s - 1 + 1 : Nat) : Int) = 98 - (s : Int) by omega]
  · have : s = 98 := by omega
    subst this
    rw [if_neg (by omega), h0]
theorem fi_tail {s n : Int} : fi (tail s) n = if n ≤ 98 - s then 0 else 1 := by
  unfold fi tail
  by_cases h : n ≤ 98 - s
  · rw [if_pos h]; simp [List.findIdx_cons, h]
  · rw [if_neg h]; simp [List.findIdx_cons, h]
theorem lefts_tail {s n : Int} : lefts (tail s) 0 n 1 = if s + n < 98 then tail (s + n) else [] := by
  have hp : piece (tail s) 0 n 0 = (2 + s + n, 98 - s - n, ()) := rfl
  show (if 0 < (piece (tail s) 0 n 0).2.1 then lefts (tail s) 0 n 0 ++ [piece (tail s) 0 n 0] else lefts (tail s) 0 n 0) = _
  rw [hp]
  have h0 : lefts (tail s) 0 n 0 = [] := rfl
  rw [h0]
  by_cases h : s + n < 98
  · rw [if_pos h, if_pos (by show 0 < 98 - s - n; omega)]
    unfold tail
    rw [List.nil_append, show 2 + s + n = 2 + (s + n) by omega, show 98 - s - n = 98 - (s + n) by omega]
  · rw [if_neg h, if_neg (by show ¬ 0 < 98 - s - n; omega)]
theorem tail_pre {s n : Int} (hs : 0 ≤ s ∧ s ≤ 98) (hn : 1 ≤ n ∧ n ≤ 12) : pre19 (tail s) n := by
  refine ⟨fun u hu => ?_, by show 1 < 1000000; omega, ?_⟩
  · simp only [tail, List.mem_singleton] at hu
    subst hu
    show 0 ≤ 2 + s ∧ 2 + s ≤ 1000000 ∧ 0 ≤ 98 - s ∧ 98 - s ≤ 1000000
    omega
  · unfold i64; omega
end Sp
namespace Go.Proofs.Ytpohkoijbocpcaa
open Go.AbsM
attribute [local irreducible] Sp.mark Sp.fr Sp.frees Sp.tk Sp.fi Sp.lefts
theorem out15g {h : List Sp.Rm} (hc : Sp.chain 2 h) (hs : Sp.sumN h ≤ 98) : freeV (Sp.frees 100 h) = if Sp.sumN h < 98 then TV.o (.own 23 PT (Sp.tail (Sp.sumN h))) else .a .nils := by
  rw [Sp.frees_chain hc hs]
  split
  · unfold freeV
    rw [if_neg (by simp [Sp.tail])]
  · rfl
theorem good15g : GoodC Try.prog ctr15g where
  there := good15.there
  cells := good15.cells
  call := fun d hp S => by
    obtain ⟨b, h, x⟩ : Int × List Sp.Rm × Unit := d
    obtain ⟨hb, hc, hs⟩ : b = 100 ∧ Sp.chain 2 h ∧ Sp.sumN h ≤ 98 := hp
    have hin := Sp.chain_in hc
    have hu : Sp.inR h := fun u hu => by have := hin.2 u hu; unfold Sp.i64; omega
    have hl := Sp.chain_len hc
    have e : ctr15.out (b, h, x) = ctr15g.out (b, h, x) := by rw [hb]; exact out15g hc hs
    exact Eq.mp (congrArg (fun y => CallC Try.prog ctr15.f ((t1s ctr15.sig (b, h, x)).map (T1.emb [])) S S y) (congrArg (TV.emb []) e)) (good15.call (b, h, x) ⟨hu, by show h.length < 1000000; omega⟩ S)
theorem good7L : Goods Try.prog givL := .cons good9 (.cons good15g (.cons good19 (.cons good13 .nil)))
theorem known7 : KnownOk Try.prog (envL givL) (knownL givL blk7 noneK) := knownL_ok wide good7L _ _
abbrev JB7 := (B7 × Int × List Sp.Rm) ⊕ ((B7 × Int × List Sp.Rm × List Sp.Rm) ⊕ (B7 × Int × List Sp.Rm × List Sp.Rm))
def mkjb7 : JB7 → TSt
  | .inl i => mk7Ab i
  | .inr (.inl i) => mk7Bb i
  | .inr (.inr i) => mk7Cb i
def psijb7 : JB7 → Post → Prop
  | .inl i => psi7Ab i
  | .inr (.inl i) => psi7Bb i
  | .inr (.inr i) => psi7Cb i
def mujb7 : JB7 → Nat
  | .inl i => 0
  | .inr (.inl i) => (i.2.2.1.length - i.2.1).toNat
  | .inr (.inr i) => (i.2.2.1.length - i.2.1).toNat
theorem loop7b : ∀ s Φ, piece7b s Φ → Run Try.prog (.code (.block 2 (blkC (bodyOf Try.f7) 2))) s Φ := by
  intro s Φ hp
  have hp : loopP 93 [0, 4, 5, 6, 7, 8, 9, 11] [8, 66, 103601] mkjb7 psijb7 s Φ := cleanT_mono (fun s2 h => by
    rcases h with ⟨i, h1, h2⟩ | ⟨i, h1, h2⟩ | ⟨i, h1, h2⟩
    · exact ⟨.inl i, h1, h2⟩
    · exact ⟨.inr (.inl i), h1, h2⟩
    · exact ⟨.inr (.inr i), h1, h2⟩) hp
  refine run_loopB (lx := [0, 4, 5, 6, 7, 8, 9]) (kx := [8, 66, 103601]) known7 mujb7 (by kernel_rfl) (lamOk_free (by kernel_rfl)) ?_ s Φ hp
  rintro (⟨⟨l, i, s, n, a⟩, k, f⟩ | ⟨⟨l, i, s, n, a⟩, k, h, f⟩ | ⟨⟨l, i, s, n, a⟩, k, h, g⟩) Φ hh
  · obtain ⟨⟨⟨k0, k1, _⟩, _⟩, hΦ⟩ := hh
    simp only at k0 k1
    exact Eq.mpr (nf7Ab _ mkjb7 psijb7 mujb7 l i s n a k f Φ _) (brc_ilt (fun h => by exfalso; have h : k < 0 := h; omega) fun _ => hΦ)
  · obtain ⟨hin, hΦ⟩ := hh
    obtain ⟨⟨k0, k1, hl⟩, ⟨a0, a1⟩, ⟨n0, n1⟩, hu⟩ := id hin
    simp only at k0 k1 hl a0 a1 n0 n1 hu
    obtain ⟨c, rfl⟩ : ∃ c : Nat, k = c := ⟨k.toNat, by omega⟩
    refine Eq.mpr (nf7Bb _ mkjb7 psijb7 mujb7 l i s n a c h f Φ _) (brc_ilt (fun hc => ?_) fun _ => hΦ)
    have hc : c < h.length := by have : ((c : Nat) : Int) < ((h.length : Nat) : Int) := hc; omega
    have e1 : W.nth h (W.toNat (c : Int)) ((0 : Int), (0 : Int), PUnit.unit) = W.nth h c ((0 : Int), (0 : Int), ()) := rfl
    rw [e1, W.add_i64 (a := (c : Int)) (b := 1) (by omega) (by omega)]
    have hv := hu _ (Sp.nth_mem hc)
    generalize W.nth h c ((0 : Int), (0 : Int), ()) = v at hv ⊢
    refine grd_ile (by omega) (grd_nlt hc (grd_nlt hc ⟨⟨by unfold Sp.i64; omega, by unfold Sp.i64; omega, by unfold Sp.i64; omega, by unfold Sp.i64; omega⟩, brc_no (Sp.over_not.2 (by omega)) ⟨.inr (.inl ((l, i, s, n, a), (c : Int) + 1, h, f)), rfl, ?_, ⟨⟨?_, ?_, hl⟩, ⟨a0, a1⟩, ⟨n0, n1⟩, hu⟩, hΦ⟩⟩))
    · show ((h.length : Int) - ((c : Int) + 1)).toNat < ((h.length : Int) - (c : Int)).toNat; omega
    · show 0 ≤ (c : Int) + 1; omega
    · show (c : Int) + 1 ≤ (h.length : Int); omega
  · obtain ⟨hin, hΦ⟩ := hh
    obtain ⟨⟨k0, k1, hl⟩, ⟨a0, a1⟩, ⟨n0, n1⟩, hu⟩ := id hin
    simp only at k0 k1 hl a0 a1 n0 n1 hu
    obtain ⟨c, rfl⟩ : ∃ c : Nat, k = c := ⟨k.toNat, by omega⟩
    refine Eq.mpr (nf7Cb _ mkjb7 psijb7 mujb7 l i s n a c h g Φ _) (brc_ilt (fun hc => ?_) fun _ => hΦ)
    have hc : c < h.length := by have : ((c : Nat) : Int) < ((h.length : Nat) : Int) := hc; omega
    have e1 : W.nth h (W.toNat (c : Int)) ((0 : Int), (0 : Int), PUnit.unit) = W.nth h c ((0 : Int), (0 : Int), ()) := rfl
    rw [e1, W.add_i64 (a := (c : Int)) (b := 1) (by omega) (by omega)]
    have hv := hu _ (Sp.nth_mem hc)
    generalize W.nth h c ((0 : Int), (0 : Int), ()) = v at hv ⊢
    refine grd_ile (by omega) (grd_nlt hc (grd_nlt hc ⟨⟨by unfold Sp.i64; omega, by unfold Sp.i64; omega, by unfold Sp.i64; omega, by unfold Sp.i64; omega⟩, brc_no (Sp.over_not.2 (by omega)) ⟨.inr (.inr ((l, i, s, n, a), (c : Int) + 1, h, g)), rfl, ?_, ⟨⟨?_, ?_, hl⟩, ⟨a0, a1⟩, ⟨n0, n1⟩, hu⟩, hΦ⟩⟩))
    · show ((h.length : Int) - ((c : Int) + 1)).toNat < ((h.length : Int) - (c : Int)).toNat; omega
    · show 0 ≤ (c : Int) + 1; omega
    · show (c : Int) + 1 ≤ (h.length : Int); omega
abbrev JD7 := (List Sp.Rm × Int) ⊕ ((List Sp.Rm × Int) ⊕ (Int × List Sp.Rm))
def mkjd7 : JD7 → TSt
  | .inl i => mk7Ad i
  | .inr (.inl i) => mk7Bd i
  | .inr (.inr i) => mk7Cd i
def psijd7 : JD7 → Post → Prop
  | .inl i => psi7Ad i
  | .inr (.inl i) => psi7Ad i
  | .inr (.inr i) => psi7Cd i
def mujd7 : JD7 → Nat
  | .inl i => (i.1.length - i.2).toNat
  | .inr (.inl i) => (i.1.length - i.2).toNat
  | .inr (.inr i) => 0
theorem loop7d : ∀ s Φ, piece7d s Φ → Run Try.prog (.code (.block 4 (blkC (bodyOf Try.f7) 4))) s Φ := by
  intro s Φ hp
  have hp : loopP 93 [3, 12, 13] [19, 72, 103601] mkjd7 psijd7 s Φ := cleanT_mono (fun s2 h => by
    rcases h with ⟨i, h1, h2⟩ | ⟨i, h1, h2⟩ | ⟨i, h1, h2⟩
    · exact ⟨.inl i, h1, h2⟩
    · exact ⟨.inr (.inl i), h1, h2⟩
    · exact ⟨.inr (.inr i), h1, h2⟩) hp
  refine run_loopB (lx := []) (kx := []) known7 mujd7 (by kernel_rfl) (lamOk_free (by kernel_rfl)) ?_ s Φ hp
  rintro (⟨f, k⟩ | ⟨f, k⟩ | ⟨k, g⟩) Φ hh
  · obtain ⟨⟨hl, k0, k1⟩, hΦ⟩ := hh
    simp only at hl k0 k1
    refine Eq.mpr (nf7Ad _ mkjd7 psijd7 mujd7 f k Φ _) (brc_ilt (fun hc => ?_) fun _ => hΦ)
    have hc : k < (f.length : Int) := hc
    have hk : W.toNat k < W.len f := by show k.toNat < f.length; omega
    rw [W.add_i64 (a := k) (b := 1) (by omega) (by omega)]
    refine grd_ile k0 (grd_nlt hk (grd_nlt hk (grd_ile k0 (grd_nlt hk (grd_nlt hk (brc_ieq (fun _ => brc_ieq (fun _ => ⟨.inl (f, k + 1), rfl, ?_, ⟨hl, ?_, ?_⟩, hΦ⟩) fun q => absurd rfl q) fun q => absurd rfl q))))))
    · show ((f.length : Int) - (k + 1)).toNat < ((f.length : Int) - k).toNat; omega
    · show 0 ≤ k + 1; omega
    · show k + 1 ≤ (f.length : Int); omega
  · obtain ⟨⟨hl, k0, k1⟩, hΦ⟩ := hh
    simp only at hl k0 k1
    refine Eq.mpr (nf7Bd _ mkjd7 psijd7 mujd7 f k Φ _) (brc_ilt (fun hc => ?_) fun _ => hΦ)
    have hc : k < (f.length : Int) := hc
    have hk : W.toNat k < W.len f := by show k.toNat < f.length; omega
    rw [W.add_i64 (a := k) (b := 1) (by omega) (by omega)]
    refine grd_ile k0 (grd_nlt hk (grd_nlt hk (grd_ile k0 (grd_nlt hk (grd_nlt hk (brc_ieq (fun _ => brc_ieq (fun _ => ⟨.inr (.inl (f, k + 1)), rfl, ?_, ⟨hl, ?_, ?_⟩, hΦ⟩) fun q => absurd rfl q) fun q => absurd rfl q))))))
    · show ((f.length : Int) - (k + 1)).toNat < ((f.length : Int) - k).toNat; omega
    · show 0 ≤ k + 1; omega
    · show k + 1 ≤ (f.length : Int); omega
  · obtain ⟨hk, hΦ⟩ := hh
    have hk : k = 0 := hk
    subst hk
    exact Eq.mpr (nf7Cd _ mkjd7 psijd7 mujd7 0 g Φ _) (brc_ilt (fun h => by exfalso; have h : (0 : Int) < 0 := h; omega) fun _ => hΦ)
end Go.Proofs.Ytpohkoijbocpcaa
