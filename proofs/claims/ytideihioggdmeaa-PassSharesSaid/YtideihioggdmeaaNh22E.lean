/-
  Texts of a proof over the translated program: Nh22E.
-/
import Derived.Test.YtideihioggdmeaaNh22ENf
set_option linter.unusedVariables false
namespace Go.Proofs.Ytideihioggdmeaa
open Go.AbsM
theorem goodEach : Goods Try.prog eachL := .cons good6 (.cons good7 (.cons good10 (.cons good12 .nil)))
theorem ng_mod {f k i : Int} (hf : 0 ≤ f ∧ f < k) (hi : 0 ≤ i ∧ i < k) : Sp.ng f k i = (f + i) % k := by
  have hb : Sp.nb f k i = true := Sp.nb_yes (by omega)
  by_cases h : k - f ≤ i
  · rw [Sp.ng_far hb h]
    have e : f + i = (i - (k - f)) + k * 1 := by omega
    rw [e, Int.add_mul_emod_self_left]
    exact (Int.emod_eq_of_lt (by omega) (by omega)).symm
  · rw [Sp.ng_near hb h]
    exact (Int.emod_eq_of_lt (by omega) (by omega)).symm
theorem bnot_of {b c : Bool} (h : b = c) : W.bnot b = !c := by rw [h]; rfl
def pre5 (d : Int × Int × Unit) : Prop := (0 ≤ d.1 ∧ d.1 < 256) ∧ 0 ≤ d.2.1 ∧ d.2.1 < 256
def law5 : TCtr := lawC 5 [.v (.int .u8), .v (.int .u8)] (fun (d : Int × Int × Unit) => pre5 d)
theorem good5 : GoodC Try.prog law5 := by
  refine good_loop (fn := Try.f5) [4, 5, 7] [7] (fun i : Int × Int × Int => (i.2.1 - i.2.2).toNat) wide goodEach ⟨by kernel_rfl, by kernel_rfl, by kernel_rfl, by kernel_rfl⟩ (by kernel_rfl) (by kernel_rfl) (by kernel_rfl) (by kernel_rfl) (n := 80) (ls := [4, 5, 6, 7, 8]) (ks := [7]) (mk := mk5) (ψ := psi5) (id := 0) ?_ ?_
  · rintro ⟨f, k, i⟩ Φ ⟨⟨hk, hf, h0, h1⟩, hΦ⟩
    simp only at hk hf h0 h1 hΦ
    refine Eq.mpr (nf5s _ _ _ _ f k i Φ _) ?_
    have p : Sp.i64 f ∧ Sp.i64 k ∧ Sp.i64 i := by unfold Sp.i64; omega
    refine brc_ilt (fun h => ⟨p, ?_⟩) fun h => ?_
    · have hb : Sp.nb f k i = true := Sp.nb_yes (by omega)
      have hn := ng_mod hf ⟨h0, h⟩
      have hl : Sp.lf f k i = k - i := by unfold Sp.lf; rw [if_pos hb]
      have hs : Sp.st f k i = i + 1 := by unfold Sp.st; rw [if_pos hb]
      rw [bnot_of hb, hn, hl, hs, W.add_i64 (a := f) (b := i) (by omega) (by omega), W.rem_pos (by omega), W.sub_i64 (by omega) (by omega), W.add_i64 (a := i) (b := 1) (by omega) (by omega)]
      refine brc_no rfl (brc_ieq (fun h => by omega) fun _ => brc_ine (fun h => absurd rfl h) fun _ => ⟨p, brc_ine (fun h => absurd rfl h) fun _ => ⟨p, (f, k, i + 1), rfl, ?_, ⟨hk, hf, ?_, ?_⟩, hΦ⟩⟩)
      · show (k - (i + 1)).toNat < (k - i).toNat; omega
      · show 0 ≤ i + 1; omega
      · show i + 1 ≤ k; omega
    · obtain rfl : i = k := by omega
      exact hΦ
  · intro d hd
    obtain ⟨a, b, x⟩ : Int × Int × Unit := d
    obtain ⟨ha, hb⟩ : (0 ≤ a ∧ a < 256) ∧ 0 ≤ b ∧ b < 256 := hd
    refine Eq.mpr (nf5 a b _) ⟨trivial, ?_⟩
    have e1 : W.add .i64 1 (W.wrap .i64 b) = 1 + b := by rw [W.wi64_in (by omega) (by omega), W.add_i64 (by omega) (by omega)]
    have e2 : W.wrap .i64 a = a := W.wi64_in (by omega) (by omega)
    rw [e1, e2, W.rem_pos ha.1]
    have m0 := Int.emod_nonneg a (b := 1 + b) (by omega)
    have m1 := Int.emod_lt_of_pos a (b := 1 + b) (by omega)
    have hk : 1 ≤ 1 + b ∧ 1 + b ≤ 256 := by omega
    clear e1 e2
    generalize a % (1 + b) = f at m0 m1 ⊢
    generalize 1 + b = k at m1 hk ⊢
    have q : Sp.i64 f ∧ Sp.i64 k ∧ Sp.i64 k := by unfold Sp.i64; omega
    have hb : Sp.nb f k k = false := Sp.nb_no (by omega)
    have hl : Sp.lf f k k = 0 := by unfold Sp.lf; rw [if_neg (by rw [hb]; decide)]
    have hs : Sp.st f k k = k := by unfold Sp.st; rw [if_neg (by rw [hb]; decide)]
    refine brc_ieq (fun h => by omega) fun _ => ⟨(f, k, 0), rfl, ⟨hk, ⟨m0, m1⟩, Int.le_refl _, by show (0 : Int) ≤ k; omega⟩, q, ?_⟩
    show brc (W.bnot (Sp.nb f k k)) (_ ∧ brc (W.ieq (Sp.lf f k k) 0) (brc (W.ieq k k) (_ ∧ brc (W.ieq f f) (brc (W.ieq k k) (brc (W.ieq (Sp.st f k k) k) _ _) _) _) _) _) _
    rw [bnot_of hb, hl, hs]
    exact brc_yes rfl ⟨q, brc_yes rfl (brc_yes (Sp.ieq_self _) ⟨q, brc_yes (Sp.ieq_self _) (brc_yes (Sp.ieq_self _) (brc_yes (Sp.ieq_self _) rfl))⟩)⟩
end Go.Proofs.Ytideihioggdmeaa
