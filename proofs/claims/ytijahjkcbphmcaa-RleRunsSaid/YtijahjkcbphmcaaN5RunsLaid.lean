/-
  Texts of a proof over the translated program: N5RunsLaid.
-/
import Derived.Test.YtijahjkcbphmcaaN5RunsLaidNf
set_option linter.unusedVariables false
namespace Sp
open Go Go.AbsM
def lastV (p : Int × Int × Unit) : List (Int × Int × Unit) → Int
  | [] => p.2.1
  | q :: r => lastV q r
theorem told_pos {p : Int × Int × Unit} {r : List (Int × Int × Unit)} {y : Option Int} (h : chain y (p :: r)) : 0 < (told (p :: r)).length := by
  obtain ⟨c, x, u⟩ := p
  have h2 : 1 ≤ c := h.1.2
  simp only [told, List.length_append, List.length_replicate]; omega
theorem getD_rep (c : Nat) (x : Int) : (List.replicate (c + 1) x).getD c 0 = x := by
  rw [List.getD_eq_getElem?_getD, List.getElem?_replicate, if_pos (by omega)]; rfl
theorem getD_appR (a b : List Int) (i : Nat) : (a ++ b).getD (a.length + i) 0 = b.getD i 0 := by
  rw [List.getD_eq_getElem?_getD, List.getD_eq_getElem?_getD, List.getElem?_append_right (by omega)]
  congr 2; omega
theorem told_last : ∀ (r : List (Int × Int × Unit)) (p : Int × Int × Unit) (y : Option Int), chain y (p :: r) → (told (p :: r)).getD ((told (p :: r)).length - 1) 0 = lastV p r
  | [], (c, x, u), y, h => by
    have h2 : 1 ≤ c := h.1.2
    obtain ⟨k, hk⟩ : ∃ k : Nat, c = ((k + 1 : Nat) : Int) := ⟨c.toNat - 1, by omega⟩
    subst hk
    simp only [told, Int.toNat_natCast, List.append_nil, List.length_replicate, Nat.add_sub_cancel]
    exact getD_rep k x
  | q :: r, (c, x, u), y, h => by
    have ih := told_last r q (some x) h.2
    have hp := told_pos h.2
    have e : told ((c, x, u) :: q :: r) = List.replicate c.toNat x ++ told (q :: r) := rfl
    have e2 : (told ((c, x, u) :: q :: r)).length - 1 = (List.replicate c.toNat x).length + ((told (q :: r)).length - 1) := by
      rw [e, List.length_append]; omega
    rw [e2, e, getD_appR]; exact ih
theorem chain_snoc {k x : Int} (hk : 1 ≤ k) : ∀ (r : List (Int × Int × Unit)) (p : Int × Int × Unit) (y : Option Int), chain y (p :: r) → x ≠ lastV p r → chain y ((p :: r) ++ [(k, x, ())])
  | [], p, y, h, hx => ⟨h.1, ⟨fun e => hx (by cases e; rfl), hk⟩, trivial⟩
  | q :: r, p, y, h, hx => ⟨h.1, chain_snoc hk r q (some p.2.1) h.2 hx⟩
theorem laid_nil {i : Int} (h : 0 ≤ i) : laid i [] := ⟨(fun p hp => by cases hp), trivial, by simpa using h, Nat.le_refl _⟩
theorem told_one (rs : List (Int × Int × Unit)) (k x : Int) : told (rs ++ [(k, x, ())]) = rept (told rs) k x := by
  rw [told_app]; simp only [told, List.append_nil]; rfl
theorem encR_one (rs : List (Int × Int × Unit)) (k x : Int) : encR (rs ++ [(k, x, ())]) = (encR rs ++ enc k) ++ enc x := by
  rw [encR_app]; simp only [encR, List.append_nil, List.append_assoc]
theorem laid_snoc {i : Int} {rs : List (Int × Int × Unit)} {k x : Int} (h : laid i rs) (hk : 1 ≤ k) (hk2 : k ≤ 20) (hx : 0 ≤ x ∧ x < 18446744073709551616) (hc : chain none (rs ++ [(k, x, ())])) : laid (i + 1) (rs ++ [(k, x, ())]) := by
  obtain ⟨h1, h2, h3, h4⟩ := h
  refine ⟨fun p hp => ?_, hc, ?_, ?_⟩
  · rcases List.mem_append.1 hp with hp | hp
    · exact h1 p hp
    · rw [List.mem_singleton.1 hp]; exact ⟨⟨by show 0 ≤ k; omega, by show k < 18446744073709551616; omega⟩, hx⟩
  · rw [List.length_append]; simp only [List.length_cons, List.length_nil]; omega
  · rw [told_one, rept, List.length_append, List.length_append, List.length_replicate]; simp only [List.length_cons, List.length_nil]; omega
theorem told_inU : ∀ (rs : List (Int × Int × Unit)), inP rs → inU (told rs)
  | [], _ => fun x hx => by cases hx
  | (c, v, u) :: r, h => fun x hx => by
    rcases List.mem_append.1 hx with hx | hx
    · rw [(List.mem_replicate.1 hx).2]; exact (h _ List.mem_cons_self).2
    · exact told_inU r (fun p hp => h p (List.mem_cons_of_mem _ hp)) x hx
end Sp
namespace Go.Proofs.Ytijahjkcbphmcaa
open Go.AbsM
abbrev I9 := (List Int × List Int × Int × Int) ⊕ (List Int × List Int × Int × Int × Int × List Int) ⊕ (List Int × List Int × Int × Int × Int × List Int × List Int × Int)
def mk9s : I9 → TSt
  | .inl i => mk9i i
  | .inr (.inl i) => mk9j i
  | .inr (.inr i) => mk9k i
def psi9s : I9 → Post → Prop
  | .inl i => psi9i i
  | .inr (.inl i) => psi9j i
  | .inr (.inr i) => psi9k i
def mu9s : I9 → Nat
  | .inl i => i.2.2.2.toNat
  | .inr (.inl i) => (i.2.2.2.1 - i.2.2.2.2.1).toNat
  | .inr (.inr i) => (i.2.2.2.1 - i.2.2.2.2.1).toNat
theorem goodL9 : Goods Try.prog runsL9 := .cons good26 (.cons good27k (.cons good30 (.cons (good32 .nil) .nil)))
theorem known9 : KnownOk Try.prog (envL runsL9) (knownL runsL9 blk9 noneK) := knownL_ok wide goodL9 blk9 noneK
theorem rept_step {xs : List Int} {k j x : Int} (h0 : 0 ≤ j) (h : j < k) : Sp.rept xs (k - j) x = Sp.rept (xs ++ [x]) (k - (j + 1)) x := by
  obtain ⟨m, hm⟩ : ∃ m : Nat, (k - j).toNat = m + 1 := ⟨(k - j).toNat - 1, by omega⟩
  have h2 : (k - (j + 1)).toNat = m := by omega
  unfold Sp.rept
  rw [hm, h2, List.replicate_succ, List.append_assoc]; rfl
theorem rept_end {xs : List Int} {k j x : Int} (h : k ≤ j) : Sp.rept xs (k - j) x = xs := by
  unfold Sp.rept
  have : (k - j).toNat = 0 := by omega
  rw [this, List.replicate_zero, List.append_nil]
theorem inner9 : ∀ s Φ, piece9 s Φ → Run Try.prog (.code (.block 2 (blkC (bodyOf Try.f9) 2))) s Φ := by
  intro s Φ hp
  refine run_loopB (n := 87) (ls := [0, 1, 5, 6, 7, 8, 9, 10]) (ks := [63]) (lx := [0, 1, 5, 6, 7, 8, 9]) (kx := [63]) (mk := mk9s) (ψ := psi9s) known9 mu9s (by kernel_rfl) (lamOk_free (by kernel_rfl)) ?_ s Φ (cleanT_mono (fun s2 h => by
    rcases h with ⟨i, h1, h2⟩ | ⟨i, h1, h2⟩ | ⟨i, h1, h2⟩
    · exact ⟨.inl i, h1, h2⟩
    · exact ⟨.inr (.inl i), h1, h2⟩
    · exact ⟨.inr (.inr i), h1, h2⟩) hp)
  rintro (⟨n, v, i, k⟩ | ⟨n, v, i, k, j, xs⟩ | ⟨n, v, i, k, j, xs, w, r⟩) Φ ⟨hpre, hΦ⟩
  · obtain ⟨hp, hi, h1, h2⟩ := hpre
    have hp : pre9 n v i := hp
    obtain ⟨q1, q2, q3, q4, q5, q6⟩ := id hp
    simp only at hi h1 h2 hΦ
    refine Eq.mpr (nf9i _ mk9s psi9s mu9s n v i k Φ _) ?_
    have e1 : W.toNat i = i.toNat := rfl
    refine brc_ilt (fun h => grd_ile q6 (grd_nlt (by simp only [W.len, e1]; omega) ⟨.inr (.inl (n, v, i, k, 1, [W.nth v (W.toNat i) 0])), rfl, ?_, ⟨hp, hi, h1, (show (0 : Int) ≤ 1 by omega), h2, ?_⟩, ?_⟩)) fun h => by omega
    · show (k - 1).toNat < k.toNat; omega
    · show 1 + (k - 1).toNat < 1000; omega
    · have := rept_step (xs := []) (k := k) (j := 0) (x := Sp.at' v i) (Int.le_refl _) (by omega)
      rw [Int.sub_zero] at this
      rw [this] at hΦ; exact hΦ
  · obtain ⟨hp, hi, h1, h0, h2, hl⟩ := hpre
    have hp : pre9 n v i := hp
    obtain ⟨q1, q2, q3, q4, q5, q6⟩ := id hp
    simp only at hi h1 h0 h2 hl hΦ
    refine Eq.mpr (nf9j _ mk9s psi9s mu9s n v i k j xs Φ _) ?_
    have e1 : W.toNat i = i.toNat := rfl
    have e2 : W.add .i64 j 1 = j + 1 := W.add_i64 (by omega) (by omega)
    rw [e2]
    refine brc_ilt (fun h => grd_ile q6 (grd_nlt (by simp only [W.len, e1]; omega) (grd_nle (by simp only [W.nmul, W.nadd, W.len, List.length_cons, List.length_nil]; omega) ⟨.inr (.inl (n, v, i, k, j + 1, xs ++ [W.nth v (W.toNat i) 0])), rfl, ?_, ⟨hp, hi, ?_, ?_, h2, ?_⟩, ?_⟩))) fun h => ?_
    · show (k - (j + 1)).toNat < (k - j).toNat; omega
    · show j + 1 ≤ k; omega
    · show 0 ≤ j + 1; omega
    · show (xs ++ [W.nth v (W.toNat i) 0]).length + (k - (j + 1)).toNat < 1000
      rw [List.length_append]; simp only [List.length_cons, List.length_nil]; omega
    · rw [rept_step h0 h] at hΦ; exact hΦ
    · rw [rept_end h] at hΦ; exact hΦ
  · obtain ⟨hp, hi, h1, h0, h2, hl⟩ := hpre
    have hp : pre9 n v i := hp
    obtain ⟨q1, q2, q3, q4, q5, q6⟩ := id hp
    simp only at hi h1 h0 h2 hl hΦ
    refine Eq.mpr (nf9k _ mk9s psi9s mu9s n v i k j xs w r Φ _) ?_
    have e1 : W.toNat i = i.toNat := rfl
    have e2 : W.add .i64 j 1 = j + 1 := W.add_i64 (by omega) (by omega)
    rw [e2]
    refine brc_ilt (fun h => grd_ile q6 (grd_nlt (by simp only [W.len, e1]; omega) (grd_nle (by simp only [W.nmul, W.nadd, W.len, List.length_cons, List.length_nil]; omega) ⟨.inr (.inr (n, v, i, k, j + 1, xs ++ [W.nth v (W.toNat i) 0], w, r)), rfl, ?_, ⟨hp, hi, ?_, ?_, h2, ?_⟩, ?_⟩))) fun h => ?_
    · show (k - (j + 1)).toNat < (k - j).toNat; omega
    · show j + 1 ≤ k; omega
    · show 0 ≤ j + 1; omega
    · show (xs ++ [W.nth v (W.toNat i) 0]).length + (k - (j + 1)).toNat < 1000
      rw [List.length_append]; simp only [List.length_cons, List.length_nil]; omega
    · rw [rept_step h0 h] at hΦ; exact hΦ
    · rw [rept_end h] at hΦ; exact hΦ
theorem k9 {n : List Int} (h : Sp.bytes n) (i : Int) : ∃ k, W.add .i64 1 (W.wrap .i64 (W.rem (W.nth n (W.toNat i) 0) 20)) = k ∧ 1 ≤ k ∧ k ≤ 20 := by
  have hb := Sp.bytes_get h i.toNat
  have e : W.nth n (W.toNat i) 0 = n.getD i.toNat 0 := rfl
  rw [e, W.rem_pos hb.1, W.wi64_in (by omega) (by omega), W.add_i64 (by omega) (by omega)]
  exact ⟨_, rfl, by omega, by omega⟩
def law9 : TCtr := lawC 9 [.l 5 (.int .u8), .l 39 (.int .u64)] (fun (d : List Int × List Int × Unit) => Sp.bytes d.1 ∧ Sp.inU d.2.1 ∧ d.2.1.length < 9223372036854775808)
def mu9 (i : List Int × List Int × Int × List (Int × Int × Unit)) : Nat := (i.1.length - i.2.2.1).toNat
theorem outer9 : ∀ s Φ, loopP 87 [0, 1, 5, 6, 7, 8] [63] mk9 psi9 s Φ → Run Try.prog (.code (.block 0 (blkC (bodyOf Try.f9) 0))) s Φ := by
  refine run_loopB (lx := [5, 6, 7]) (kx := [63]) known9 mu9 (by kernel_rfl) ?_ ?_
  · refine lamOk_of (fun id c' hm ψ hψ => ?_) (fun c' hm => ?_)
    · have hids : (blocksOf (loopOf (blkC (bodyOf Try.f9) 0))).map (·.1) = [1, 2, 3] := by kernel_rfl
      have hc : c' = blkC (loopOf (blkC (bodyOf Try.f9) 0)) id := findB_mem (by rw [hids]; rfl) hm
      have hid : id ∈ [1, 2, 3] := by rw [← hids]; exact List.mem_map.2 ⟨_, hm, rfl⟩
      simp only [List.mem_cons, List.not_mem_nil, or_false] at hid
      rcases hid with rfl | rfl | rfl
      · cases hψ
      · cases hψ
        rw [hc]
        have : blkC (loopOf (blkC (bodyOf Try.f9) 0)) 2 = blkC (bodyOf Try.f9) 2 := by kernel_rfl
        rw [this]; exact inner9
      · cases hψ
    · have : scopesOf (loopOf (blkC (bodyOf Try.f9) 0)) = [] := by kernel_rfl
      rw [this] at hm; cases hm
  rintro ⟨n, v, i, rs⟩ Φ ⟨⟨hp, hi, hr⟩, hΦ⟩
  have hp : pre9 n v i := hp
  have hi : i ≤ n.length := hi
  have hr : Sp.laid i rs := hr
  obtain ⟨q1, q2, q3, q4, q5, q6⟩ := id hp
  have hr' : Sp.laid i rs := hr
  obtain ⟨r1, r2, r3, r4⟩ := hr'
  have hx : (i < n.length) → 0 ≤ Sp.at' v i ∧ Sp.at' v i < 18446744073709551616 := fun h => inU_get q2 (i := i.toNat) (by omega)
  have ei : W.add .i64 i 1 = i + 1 := W.add_i64 (by omega) (by omega)
  have ex : W.nth v (W.toNat i) 0 = Sp.at' v i := rfl
  have en : W.ofNat (W.len n) = (n.length : Int) := rfl
  obtain ⟨k, hk, hk1, hk2⟩ := k9 q1 i
  have hwk : W.wrap .u64 k = k := W.wu64_in (by omega) (by omega)
  have hel := Sp.enc_len (u := k) (by omega) (by omega)
  have hp2 : pre9 n v (i + 1) := ⟨q1, q2, q3, q4, q5, by omega⟩
  cases rs with
  | nil =>
    refine Eq.mpr (nf9a _ mk9 psi9 mu9 n v i Φ _) ?_
    rw [hk, en]
    refine brc_ilt (fun h => grd_ile q6 (grd_nlt (by simp only [W.len]; show i.toNat < n.length; omega) (.inl ⟨(n, v, i, k), rfl, ⟨hp, h, hk1, hk2⟩, ?_⟩))) fun h => hΦ.1
    simp only [asT, ex, hwk, ei]
    refine ⟨⟨by omega, by omega, by omega⟩, grd_ile q6 (grd_nlt (by simp only [W.len]; show i.toNat < v.length; omega) ⟨⟨(hx h).1, (hx h).2, by omega⟩, (n, v, i + 1, [(k, Sp.at' v i, ())]), ?_, ?_, ⟨hp2, ?_, ?_⟩, hΦ⟩)⟩
    · have e1 := Sp.told_one [] k (Sp.at' v i)
      have e2 := Sp.encR_one [] k (Sp.at' v i)
      rw [List.nil_append] at e1 e2
      show _ = mk9b (n, v, Sp.told [(k, Sp.at' v i, ())], Sp.encR [(k, Sp.at' v i, ())], 1, i + 1)
      rw [e1, e2]; rfl
    · show ((n.length : Int) - (i + 1)).toNat < ((n.length : Int) - i).toNat; omega
    · show i + 1 ≤ n.length; omega
    · exact Sp.laid_snoc (rs := []) hr hk1 hk2 (hx h) ⟨⟨(fun e => by cases e), hk1⟩, trivial⟩
  | cons p rs =>
    have htp := Sp.told_pos r2
    have hlen : ((Sp.told (p :: rs)).length : Int) < 1000 := by omega
    have hrl : (((p :: rs).length : Nat) : Int) ≤ 40 := by omega
    have hen := Sp.encR_len (p :: rs) r1
    refine Eq.mpr (nf9b _ mk9 psi9 mu9 n v (Sp.told (p :: rs)) (Sp.encR (p :: rs)) ((p :: rs).length : Int) i Φ _) ?_
    rw [hk, en]
    have el : W.ofNat (W.len (Sp.told (p :: rs))) = ((Sp.told (p :: rs)).length : Int) := rfl
    have es : W.sub .i64 ((Sp.told (p :: rs)).length : Int) 1 = ((Sp.told (p :: rs)).length : Int) - 1 := Sp.sub_i64' (by omega) (by omega)
    have et : W.toNat (((Sp.told (p :: rs)).length : Int) - 1) = (Sp.told (p :: rs)).length - 1 := by show Int.toNat _ = _; omega
    have eg : W.nth (Sp.told (p :: rs)) ((Sp.told (p :: rs)).length - 1) 0 = Sp.lastV p rs := Sp.told_last rs p none r2
    rw [el, es, et, eg, ex, ei]
    refine brc_ilt (fun h => grd_ile q6 (grd_nlt (by simp only [W.len]; show i.toNat < n.length; omega) (brc_igt (fun _ => grd_ile (by omega) (grd_nlt (by simp only [W.len]; omega) (grd_nlt (by simp only [W.len]; omega) (grd_ile q6 (grd_nlt (by simp only [W.len]; show i.toNat < v.length; omega) (brc_ieq (fun heq => ?_) fun hne => .inr (.inr ⟨(n, v, i, k, 0, Sp.told (p :: rs), Sp.encR (p :: rs), ((p :: rs).length : Int)), rfl, ⟨hp, h, ?_, Int.le_refl _, hk2, ?_⟩, ?_⟩)))))) ) fun h => by omega))) fun h => hΦ.2 _ _ _ ⟨p :: rs, (fun h => by cases h), ⟨r1, r2, hrl, r4⟩, rfl, rfl, rfl⟩
    · refine ⟨(n, v, i + 1, p :: rs), rfl, ?_, ⟨hp2, ?_, r1, r2, ?_, r4⟩, hΦ⟩
      · show ((n.length : Int) - (i + 1)).toNat < ((n.length : Int) - i).toNat; omega
      · show i + 1 ≤ n.length; omega
      · show (((p :: rs).length : Nat) : Int) ≤ i + 1; omega
    · show 0 ≤ k; omega
    · show (Sp.told (p :: rs)).length + (k - 0).toNat < 1000; omega
    · simp only [asT, ex, hwk, ei]
      refine ⟨⟨by omega, by omega, by omega⟩, grd_ile q6 (grd_nlt (by simp only [W.len]; show i.toNat < v.length; omega) ⟨⟨(hx h).1, (hx h).2, ?_⟩, (n, v, i + 1, (p :: rs) ++ [(k, Sp.at' v i, ())]), ?_, ?_, ⟨hp2, ?_, ?_⟩, hΦ⟩)⟩
      · show (Sp.encR (p :: rs) ++ Sp.enc k).length < 100000
        rw [List.length_append]; omega
      · have e1 := Sp.told_one (p :: rs) k (Sp.at' v i)
        have e2 := Sp.encR_one (p :: rs) k (Sp.at' v i)
        have e3 : W.add .i64 ((p :: rs).length : Int) 1 = (((p :: rs) ++ [(k, Sp.at' v i, ())]).length : Int) := by
          rw [W.add_i64 (by omega) (by omega), List.length_append]; rfl
        show _ = mk9b (n, v, Sp.told ((p :: rs) ++ [(k, Sp.at' v i, ())]), Sp.encR ((p :: rs) ++ [(k, Sp.at' v i, ())]), (((p :: rs) ++ [(k, Sp.at' v i, ())]).length : Int), i + 1)
        rw [e1, e2, ← e3, Int.sub_zero]; rfl
      · show ((n.length : Int) - (i + 1)).toNat < ((n.length : Int) - i).toNat; omega
      · show i + 1 ≤ n.length; omega
      · exact Sp.laid_snoc hr hk1 hk2 (hx h) (Sp.chain_snoc hk1 rs p none r2 (fun e => hne e.symm))
theorem good9 : GoodC Try.prog law9 := by
  refine good_by (blk := blk9) (lab := noneK) (fn := Try.f9) wide goodL9 ⟨by kernel_rfl, by kernel_rfl, by kernel_rfl, by kernel_rfl⟩ (lamOk_body (by kernel_rfl) (by kernel_rfl) (fun id ψ h => ?_) (fun l rest ψ _ hl => by cases hl)) fun d hd => ?_
  · have h : blk9 id = some ψ := h
    unfold blk9 at h
    split at h
    · rename_i hb
      have := Nat.eq_of_beq_eq_true hb
      subst this
      cases h; exact outer9
    · obtain ⟨rfl, rfl⟩ := one_some h
      exact inner9
  · obtain ⟨n, v, x⟩ : List Int × List Int × Unit := d
    obtain ⟨hn, hv, hl⟩ : Sp.bytes n ∧ Sp.inU v ∧ v.length < 9223372036854775808 := hd
    refine Eq.mpr (nf9 n v _) ⟨trivial, ?_⟩
    have e1 : W.ofNat (W.len n) = (n.length : Int) := rfl
    have e2 : W.ofNat (W.len v) = (v.length : Int) := rfl
    rw [e1, e2]
    refine brc_igt (fun _ => rfl) fun hla => brc_ilt (fun _ => rfl) fun hlb => ⟨(n, v, 0, []), rfl, ⟨⟨hn, hv, (show n.length ≤ 40 by omega), (show n.length ≤ v.length by omega), hl, Int.le_refl _⟩, ?_, Sp.laid_nil (Int.le_refl _)⟩, ⟨(show 1 ≤ 1000000 by omega), ⟨(fun x hx => by cases hx), (show 1 ≤ 999999 by omega)⟩, fun _ => rfl, fun _ => rfl⟩, ?_⟩
    · show (0 : Int) ≤ n.length; omega
    · rintro l w r ⟨rs, hne, ⟨h1, h2, h3, h4⟩, rfl, rfl, rfl⟩
      have hrt := Sp.runs_of_told rs none h2
      rw [hrt]
      have hpos : 0 < (Sp.told rs).length := by
        cases rs with
        | nil => exact absurd rfl hne
        | cons p rs => exact Sp.told_pos h2
      refine ⟨by omega, brc_ieq (fun _ => ⟨⟨Sp.told_inU rs h1, by omega⟩, fun h => by omega, fun _ => ?_⟩) fun h => absurd rfl h⟩
      have : W.seq (W.b8s (Sp.encR rs)) (W.b8s (Sp.encR rs)) = true := by simp [W.seq]
      rw [this]; rfl
end Go.Proofs.Ytijahjkcbphmcaa
