/-
  Texts of a proof over the translated program: N5Ref.
-/
import Derived.Test.YtijahjkcbphmcaaN5RefNf
set_option linter.unusedVariables false
namespace Sp
open Go Go.AbsM
theorem runs_len (l : List Int) : (runs l).length ≤ l.length := by
  cases l with
  | nil => exact Nat.le_refl _
  | cons x r => have := (runsG_len 1 x r).2; simpa [runs] using this
theorem left_zero (l : List Int) : runsLeft l 0 = ((runs l).length : Int) := if_pos rfl
theorem left_pos (l : List Int) (n : Nat) : runsLeft l ((n + 1 : Nat) : Int) = ((runsG 1 (l.getD n 0) (l.drop (n + 1))).length : Int) - 1 := by
  unfold runsLeft
  rw [if_neg (by omega)]; rfl
theorem left_nonneg (l : List Int) (i : Int) : 0 ≤ runsLeft l i := by
  unfold runsLeft
  split
  · omega
  · have := (runsG_len 1 (prev l i) (l.drop i.toNat)).1; omega
theorem left_one {l : List Int} (h : 0 < l.length) : runsLeft l 1 = ((runs l).length : Int) - 1 := by
  rw [runs_pos h]; exact left_pos l 0
theorem left_same {l : List Int} {n : Nat} (h : n + 1 < l.length) (e : l.getD (n + 1) 0 = l.getD n 0) : runsLeft l ((n + 2 : Nat) : Int) = runsLeft l ((n + 1 : Nat) : Int) := by
  have h1 := left_pos l (n + 1)
  have h2 := left_pos l n
  rw [runsG_drop 1 (l.getD n 0) h, if_pos e, runsG_any (1 + 1) 1] at h2
  rw [e] at h1
  have h1 : runsLeft l ((n + 2 : Nat) : Int) = ((runsG 1 (l.getD n 0) (l.drop (n + 1 + 1))).length : Int) - 1 := h1
  rw [h1, h2]
theorem left_new {l : List Int} {n : Nat} (h : n + 1 < l.length) (e : l.getD (n + 1) 0 ≠ l.getD n 0) : runsLeft l ((n + 2 : Nat) : Int) + 1 = runsLeft l ((n + 1 : Nat) : Int) := by
  have h1 := left_pos l (n + 1)
  have h2 := left_pos l n
  rw [runsG_drop 1 (l.getD n 0) h, if_neg e, List.length_cons] at h2
  have h1 : runsLeft l ((n + 2 : Nat) : Int) = ((runsG 1 (l.getD (n + 1) 0) (l.drop (n + 1 + 1))).length : Int) - 1 := h1
  rw [h1, h2]; omega
theorem left_end (l : List Int) : runsLeft l (l.length : Int) = 0 := by
  cases hl : l.length with
  | zero =>
    have : l = [] := List.length_eq_zero_iff.1 hl
    subst this; rfl
  | succ n =>
    have := left_pos l n
    rw [List.drop_eq_nil_of_le (by omega)] at this
    exact this
end Sp
namespace Go.Proofs.Ytijahjkcbphmcaa
open Go.AbsM
theorem good31 : GoodC Try.prog ctr31 := by
  refine good_loop (fn := Try.f31) [3] [] (fun i : List Int × Int × Int => (i.1.length - i.2.2).toNat) wide .nil ⟨by kernel_rfl, by kernel_rfl, by kernel_rfl, by kernel_rfl⟩ (by kernel_rfl) (by kernel_rfl) (by kernel_rfl) (by kernel_rfl) (n := 28) (ls := [0, 3, 4]) (ks := []) (mk := mk31) (ψ := psi31) (id := 0) ?_ ?_
  · rintro ⟨l, k, i⟩ Φ ⟨⟨hl, h0, h1, hk, hs⟩, hΦ⟩
    simp only at hl h0 h1 hk hs hΦ
    obtain ⟨n, rfl⟩ : ∃ n : Nat, i = n := ⟨i.toNat, by omega⟩
    have hr := Sp.runs_len l
    have hnn := Sp.left_nonneg l n
    refine Eq.mpr (nf31s _ _ _ _ l k n Φ _) ?_
    have e1 : W.ofNat (W.len l) = (l.length : Int) := rfl
    have e2 : W.toNat (n : Int) = n := rfl
    have e3 : W.nth l n 0 = l.getD n 0 := rfl
    have e8 : W.add .i64 k 1 = k + 1 := W.add_i64 (by omega) (by omega)
    have e9 : W.add .i64 (n : Int) 1 = (n : Int) + 1 := W.add_i64 (by omega) (by omega)
    rw [e1, e2, e3, e8, e9]
    have key : ∀ k2 : Int, (n : Int) < l.length → 0 ≤ k2 → k2 + Sp.runsLeft l ((n : Int) + 1) = (Sp.runs l).length → ∃ j, mkS 28 [(0, TV.l 39 (.int .u64) l), (3, TV.int .i64 k2), (4, TV.int .i64 ((n : Int) + 1))] [] = mk31 j ∧ (fun i : List Int × Int × Int => (i.1.length - i.2.2).toNat) j < (fun i : List Int × Int × Int => (i.1.length - i.2.2).toNat) (l, k, (n : Int)) ∧ psi31 j Φ := fun k2 hlt hk2 hs2 => by
      refine ⟨(l, k2, (n : Int) + 1), rfl, ?_, ⟨hl, ?_, ?_, hk2, hs2⟩, hΦ⟩
      · show ((l.length : Int) - ((n : Int) + 1)).toNat < ((l.length : Int) - (n : Int)).toNat; omega
      · show 0 ≤ (n : Int) + 1; omega
      · show (n : Int) + 1 ≤ l.length; omega
    refine brc_ilt (fun h => ?_) fun h => ?_
    · refine brc_ieq (fun h0 => ?_) fun h0 => ?_
      · refine key (k + 1) h (by omega) ?_
        have hz := Sp.left_zero l
        rw [h0] at hs ⊢
        have h1 := Sp.left_one (l := l) (by omega)
        have : (0 : Int) + 1 = 1 := rfl
        rw [this, h1]; omega
      · obtain ⟨m, rfl⟩ : ∃ m, n = m + 1 := ⟨n - 1, by omega⟩
        have hlt : m + 1 < l.length := by omega
        have e5 : W.sub .i64 ((m + 1 : Nat) : Int) 1 = (m : Int) := by rw [Sp.sub_i64' (by omega) (by omega)]; omega
        have e6 : W.toNat (m : Int) = m := rfl
        have e7 : W.nth l m 0 = l.getD m 0 := rfl
        rw [e5, e6, e7]
        have ex : ((m + 1 : Nat) : Int) + 1 = ((m + 2 : Nat) : Int) := rfl
        refine grd_ile (by omega) (grd_nlt hlt (grd_ile (by omega) (grd_nlt (by simp only [W.len]; omega) (brc_ine (fun hne => ?_) fun heq => ?_))))
        · have := Sp.left_new hlt hne
          exact key (k + 1) h (by omega) (by rw [ex]; omega)
        · have := Sp.left_same hlt heq
          exact key k h hk (by rw [ex]; omega)
    · have hn : (n : Int) = l.length := by omega
      rw [hn, Sp.left_end] at hs
      have : k = ((Sp.runs l).length : Int) := by omega
      rw [this]; exact hΦ
  · intro d hd
    obtain ⟨l, x⟩ : List Int × Unit := d
    have hl : l.length < 1000000 := hd
    refine Eq.mpr (nf31 l _) ⟨(l, 0, 0), rfl, ⟨hl, Int.le_refl _, ?_, Int.le_refl _, ?_⟩, rfl⟩
    · show (0 : Int) ≤ l.length; omega
    · show 0 + Sp.runsLeft l 0 = ((Sp.runs l).length : Int)
      rw [Sp.left_zero]; omega
end Go.Proofs.Ytijahjkcbphmcaa
