/-
  Texts of a proof over the translated program: N1Rows.
-/
import Derived.Test.YtmfegciehdjicaaN1RowsNf
set_option linter.unusedVariables false
namespace Go.Proofs.Ytmfegciehdjicaa
open Go.AbsM
theorem goodR : Goods Try.prog rowsL := .cons good9 (.cons (good10 .nil) (.cons (good11 .nil) .nil))
theorem knownR : KnownOk Try.prog (envL rowsL) (knownL rowsL blk7 noneK) := knownL_ok wide goodR blk7 noneK

theorem loop7 : ∀ s Φ, loopP 100 [0, 1, 4, 5, 6, 7] [30, 35] mk7 psi7 s Φ → Run Try.prog (.code (.block 0 (blkC (bodyOf Try.f7) 0))) s Φ := by
  refine run_loopB (lx := [0, 1, 4, 5, 6, 7]) (kx := [30, 35]) knownR (fun i : List Int × Int × Nat => i.1.length - i.2.2) (by kernel_rfl) (lamOk_free (by kernel_rfl)) ?_
  rintro ⟨l, c, n⟩ Φ ⟨⟨⟨hl, hx⟩, hn⟩, hΦ0, hΦ1⟩
  simp only at hl hx hn hΦ0 hΦ1
  have elem : ∀ i, i < l.length → 0 ≤ l.getD i 0 ∧ l.getD i 0 < 18446744073709551616 := fun i hi => by
    rw [List.getD_eq_getElem?_getD, List.getElem?_eq_getElem hi]; exact hx _ (List.getElem_mem hi)
  have e1 : W.ofNat (W.len l) = (l.length : Int) := rfl
  cases n with
  | zero =>
    refine Eq.mpr (nf7s0 _ _ _ l c Φ _) ?_
    rw [e1]
    refine brc_ilt (fun h => ?_) fun h => ?_
    · have e2 : W.nth l 0 0 = l.getD 0 0 := rfl
      rw [e2]
      refine grd_nlt (by simp only [W.len]; omega) ⟨⟨(elem 0 (by omega)).1, (elem 0 (by omega)).2, by decide⟩, (l, c, 1), ?_, ?_, ⟨⟨hl, hx⟩, ?_⟩, hΦ0, hΦ1⟩
      · have h1 := Sp.encs_succ (l := l) (i := 0) (by omega)
        have h2 := Sp.ends_succ (l := l) (i := 0) (by omega)
        simp only [List.take_zero, Sp.encs, List.nil_append] at h1
        have h3 : Sp.ends (List.take 0 l) = [] := rfl
        show _ = mk7b (l, c, ((0 + 1 : Nat) : Int), Sp.encs (l.take (0 + 1)), Sp.ends (l.take (0 + 1)))
        rw [h2, h3, h1]; rfl
      · show l.length - 1 < l.length - 0; omega
      · show 1 ≤ l.length; omega
    · exact hΦ0 (by omega)
  | succ n =>
    refine Eq.mpr (nf7s1 _ _ _ l c ((n + 1 : Nat) : Int) _ _ Φ _) ?_
    rw [e1]
    refine brc_ilt (fun h => ?_) fun h => ?_
    · have e3 : W.toNat ((n + 1 : Nat) : Int) = n + 1 := rfl
      have e2 : W.nth l (n + 1) 0 = l.getD (n + 1) 0 := rfl
      have hlen := Sp.encs_len (l.take (n + 1)) fun y hy => hx y (List.mem_of_mem_take hy)
      have htl : (l.take (n + 1)).length ≤ 60 := by simp; omega
      have hel := Sp.ends_len (l.take (n + 1))
      rw [e3, e2, W.add_i64 (by omega) (by omega)]
      refine grd_ile (by omega) (grd_nlt (by simp only [W.len]; omega) ⟨⟨(elem _ (by omega)).1, (elem _ (by omega)).2, by show (Sp.encs (l.take (n + 1))).length < 100000; omega⟩, grd_nle (by simp only [W.nmul, W.nadd, W.len, List.length_cons, List.length_nil]; omega) ⟨(l, c, n + 2), ?_, ?_, ⟨⟨hl, hx⟩, ?_⟩, hΦ0, hΦ1⟩⟩)
      · have h1 := Sp.encs_succ (l := l) (i := n + 1) (by omega)
        have h2 := Sp.ends_succ (l := l) (i := n + 1) (by omega)
        show _ = mk7b (l, c, ((n + 1 + 1 : Nat) : Int), Sp.encs (l.take (n + 1 + 1)), Sp.ends (l.take (n + 1 + 1)))
        rw [h2, h1]; rfl
      · show l.length - (n + 2) < l.length - (n + 1); omega
      · show n + 2 ≤ l.length; omega
    · have hn1 : n + 1 = l.length := by omega
      have := hΦ1 (by omega)
      rw [← hn1] at this
      have ht : l.take (n + 1) = l := List.take_of_length_le (by omega)
      rw [ht]
      exact this

theorem cleanT_mono {n : Nat} {ls ks : List Nat} {s : TSt} {K K' : TSt → Prop} (h : ∀ s, K s → K' s) : cleanT n ls ks s K → cleanT n ls ks s K' := by
  unfold cleanT
  intro hh
  simp only at hh ⊢
  split at hh
  · rename_i hc
    rw [if_pos hc]; exact h _ hh
  · exact hh.elim

def mk7j : (List Int × Int) ⊕ (List Int × Int × Int × Int × List Int × List Int) → TSt
  | .inl i => mk7n i
  | .inr i => mk7k i
def psi7j : (List Int × Int) ⊕ (List Int × Int × Int × Int × List Int × List Int) → Post → Prop
  | .inl i => psi7n i
  | .inr i => psi7k i
def mu7j : (List Int × Int) ⊕ (List Int × Int × Int × Int × List Int × List Int) → Nat
  | .inl _ => 0
  | .inr i => (i.1.length - i.2.2.2.1).toNat
theorem piece7_loop {s : TSt} {Φ : Post} (h : piece7 s Φ) : loopP 100 [0, 4, 5, 6, 8, 9, 10] [30, 35] mk7j psi7j s Φ :=
  cleanT_mono (fun s2 h => by
    rcases h with ⟨i, h1, h2⟩ | ⟨i, h1, h2⟩
    · exact ⟨.inl i, h1, h2⟩
    · exact ⟨.inr i, h1, h2⟩) h

theorem loop7j : ∀ s Φ, piece7 s Φ → Run Try.prog (.code (.block 2 (blkC (bodyOf Try.f7) 2))) s Φ := by
  intro s Φ hp
  refine run_loopB (lx := [4, 5, 9]) (kx := [30]) knownR mu7j (by kernel_rfl) (lamOk_free (by kernel_rfl)) ?_ s Φ (piece7_loop hp)
  rintro (⟨l, k⟩ | ⟨l, k, a, i, bs, es⟩) Φ h
  · obtain ⟨h0, hΦ⟩ : l.length = 0 ∧ Φ .normal (mkS 100 [(4, TV.bool false), (5, .a .nils), (9, TV.int .i64 0)] []) := h
    refine Eq.mpr (nf7n _ mk7j psi7j mu7j l k Φ _) ?_
    have e1 : W.ofNat (W.len l) = (l.length : Int) := rfl
    rw [e1]
    exact brc_ilt (fun h => by omega) fun _ => hΦ
  · obtain ⟨⟨⟨hl, hx⟩, hbs, hes, hi0, hi1, ha, hak, hkb⟩, hR, hN⟩ := h
    simp only at hl hx hbs hes hi0 hi1 ha hak hkb hR hN
    subst hbs
    subst hes
    refine Eq.mpr (nf7k _ mk7j psi7j mu7j l k a i _ _ Φ _) ?_
    have e1 : W.ofNat (W.len l) = (l.length : Int) := rfl
    have e1b : W.ofNat (W.len (Sp.encs l)) = ((Sp.encs l).length : Int) := rfl
    have hlen := Sp.encs_len l hx
    rw [e1, e1b]
    refine brc_ilt (fun h => ?_) fun h => ?_
    · obtain ⟨n, rfl⟩ : ∃ n : Nat, i = n := ⟨i.toNat, by omega⟩
      obtain ⟨m, rfl⟩ : ∃ m : Nat, k = m := ⟨k.toNat, by omega⟩
      have ha : a = ((Sp.encs (l.take n)).length : Int) := ha
      subst ha
      have e2 : W.toNat (n : Int) = n := rfl
      have e3 : W.toNat (m : Int) = m := rfl
      have e4 : W.take (W.nsub m 0) (W.drop 0 (Sp.encs l)) = (Sp.encs l).take m := rfl
      have e5 : W.nth (Sp.ends l) n 0 = ((Sp.encs (l.take (n + 1))).length : Int) := Sp.ends_get (by omega)
      have e6 : W.nth l n 0 = l.getD n 0 := rfl
      have g := Sp.get_front hx (i := n) (k := m) (by omega) (by omega) (by omega)
      have hsuc := Sp.encs_succ (l := l) (i := n) (by omega)
      have hsl : (Sp.encs (l.take (n + 1))).length = (Sp.encs (l.take n)).length + (Sp.enc (l.getD n 0)).length := by rw [hsuc, List.length_append]
      have hel := Sp.ends_len l
      have hto : ((Sp.encs l).take m).length = m := by simp; omega
      have g1 : W.ile 0 (n : Int) = true := decide_eq_true (by omega)
      have g2 : W.nlt n (W.len (Sp.ends l)) = true := decide_eq_true (by simp only [W.len]; omega)
      have g3 : W.nlt n (W.len l) = true := decide_eq_true (by simp only [W.len]; omega)
      rw [e2, e3, e4, e5, e6, g]
      refine grd_ile (by omega) (grd_ile (by omega) (grd_neq rfl ⟨⟨Sp.bytes_take (Sp.encs_bytes l) m, by rw [hto]; omega, by omega, by omega⟩, grd_true g1 (grd_true g2 (grd_true g2 ?_))⟩))
      refine brc_igt (fun h' => ?_) fun h' => ?_
      · rw [if_neg (by omega)]
        exact brc_ieq (fun _ => brc_ieq (fun _ => hR _) fun h => absurd rfl h) fun h => absurd rfl h
      · rw [if_pos (by omega)]
        refine brc_ine (fun h => absurd rfl h) fun _ => grd_true g1 (grd_true g3 (brc_ine (fun h => absurd rfl h) fun _ => grd_true g1 (grd_true g2 (grd_true g2 ?_))))
        simp only
        rw [W.add_i64 (by omega) (by omega), W.add_i64 (by omega) (by omega)]
        refine brc_ine (fun h => absurd (by omega) h) fun _ => ⟨.inr (l, (m : Int), ((Sp.encs (l.take n)).length : Int) + ((Sp.enc (l.getD n 0)).length : Int), (n : Int) + 1, Sp.encs l, Sp.ends l), rfl, ?_, ⟨⟨hl, hx⟩, rfl, rfl, ?_, ?_, ?_, ?_, ?_⟩, hR, hN⟩
        · show ((l.length : Int) - ((n : Int) + 1)).toNat < ((l.length : Int) - (n : Int)).toNat; omega
        · show 0 ≤ (n : Int) + 1; omega
        · show (n : Int) + 1 ≤ l.length; omega
        · show ((Sp.encs (l.take n)).length : Int) + ((Sp.enc (l.getD n 0)).length : Int) = ((Sp.encs (l.take (n + 1))).length : Int); omega
        · show ((Sp.encs (l.take n)).length : Int) + ((Sp.enc (l.getD n 0)).length : Int) ≤ (m : Int); omega
        · show (m : Int) ≤ ((Sp.encs l).length : Int); omega
    · have hi : i.toNat = l.length := by omega
      have ha : a = ((Sp.encs (l.take i.toNat)).length : Int) := ha
      rw [hi, List.take_length] at ha
      subst ha
      exact hN

def law7 : TCtr := lawC 7 [.l 23 (.int .u64), .v (.int .u8)] (fun (d : List Int × Int × Unit) => (∀ x, x ∈ d.1 → 0 ≤ x ∧ x < 18446744073709551616) ∧ 0 ≤ d.2.1 ∧ d.2.1 < 256)
theorem good7 : GoodC Try.prog law7 := by
  refine good_by (blk := blk7) (lab := noneK) (fn := Try.f7) wide goodR ⟨by kernel_rfl, by kernel_rfl, by kernel_rfl, by kernel_rfl⟩ (lamOk_body (by kernel_rfl) (by kernel_rfl) (fun id ψ h => ?_) (fun l rest ψ _ hl => by cases hl)) fun d hd => ?_
  · have h : blk7 id = some ψ := h
    unfold blk7 at h
    split at h
    · rename_i hb
      have := Nat.eq_of_beq_eq_true hb
      subst this
      cases h; exact loop7
    · obtain ⟨rfl, rfl⟩ := one_some h
      exact loop7j
  · obtain ⟨l, c, x⟩ : List Int × Int × Unit := d
    obtain ⟨hx, h0, h1⟩ : (∀ x, x ∈ l → 0 ≤ x ∧ x < 18446744073709551616) ∧ 0 ≤ c ∧ c < 256 := hd
    refine Eq.mpr (nf7 l c _) ⟨trivial, ?_⟩
    have e1 : W.ofNat (W.len l) = (l.length : Int) := rfl
    rw [e1]
    refine brc_igt (fun _ => rfl) fun hl => ?_
    refine ⟨(l, c, 0), rfl, ⟨⟨by show l.length ≤ 60; omega, hx⟩, Nat.zero_le _⟩, fun hn => ?_, fun hn => ?_⟩
    · exact .inl ⟨(l, _), rfl, hn, rfl⟩
    · have hlen := Sp.encs_len l hx
      have hn : l.length ≠ 0 := hn
      have e2 : W.wrap .i64 c = c := W.wi64_in (by omega) (by omega)
      have e3 : W.add .i64 (W.ofNat (W.len (Sp.encs l))) 1 = ((Sp.encs l).length : Int) + 1 := W.add_i64 (by show (-9223372036854775808 : Int) ≤ ((Sp.encs l).length : Int) + 1; omega) (by show ((Sp.encs l).length : Int) + 1 < 9223372036854775808; omega)
      simp only [e2, e3]
      refine brc_ieq (fun h => by omega) fun _ => .inr ⟨(l, c % (((Sp.encs l).length : Int) + 1), 0, 0, Sp.encs l, Sp.ends l), ?_, ⟨⟨by show l.length ≤ 60; omega, hx⟩, rfl, rfl, Int.le_refl _, ?_, rfl, ?_, ?_⟩, fun _ => rfl, ?_⟩
      · rw [W.rem_pos h0]
      · show (0 : Int) ≤ l.length; omega
      · show (0 : Int) ≤ c % (((Sp.encs l).length : Int) + 1)
        exact Int.emod_nonneg _ (by omega)
      · show c % (((Sp.encs l).length : Int) + 1) ≤ (Sp.encs l).length
        have := Int.emod_lt_of_pos c (b := ((Sp.encs l).length : Int) + 1) (by omega); omega
      · show TV.bool (W.ieq ((Sp.encs l).length : Int) ((Sp.encs l).length : Int)) = TV.bool true
        have : W.ieq ((Sp.encs l).length : Int) ((Sp.encs l).length : Int) = true := by simp [W.ieq]
        rw [this]
end Go.Proofs.Ytmfegciehdjicaa
