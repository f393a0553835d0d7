/-
  Texts of a proof over the translated program: NeExt1.
-/
import Derived.Test.YtpohkoijbocpcaaNeExt1Nf
set_option linter.unusedVariables false
namespace Sp
open Go Go.AbsM
theorem over_iff {a an b bn : Int} : over a an b bn = true ↔ (1 ≤ an ∧ 1 ≤ bn ∧ a < b + bn ∧ b < a + an) := decide_eq_true_iff
theorem over_not {a an b bn : Int} : over a an b bn = false ↔ ¬ (1 ≤ an ∧ 1 ≤ bn ∧ a < b + bn ∧ b < a + an) := decide_eq_false_iff_not
theorem bool_dec {p q : Prop} [Decidable p] [Decidable q] (h : p ↔ q) : decide p = decide q := by
  by_cases hp : p
  · rw [decide_eq_true hp, decide_eq_true (h.1 hp)]
  · rw [decide_eq_false hp, decide_eq_false (fun hq => hp (h.2 hq))]
theorem over_comm (a an b bn : Int) : over a an b bn = over b bn a an := bool_dec (by omega)
theorem imin_eq (a b : Int) : W.imin a b = min a b := by unfold W.imin; omega
theorem check_zero {a n k : Int} (h1 : 1 ≤ n) (h2 : 2 ≤ a) (h3 : a + n ≤ k) (h4 : a + n ≤ 1024) : check a n k = 0 := by
  unfold check; rw [imin_eq, if_neg (by omega)]
theorem check_one {a n k : Int} (h : k < a + n) : check a n k = 1 := by
  unfold check; rw [imin_eq, if_pos (by omega)]
theorem check_small {a n k : Int} (h : check a n k = 0) : small a n := by
  unfold check at h
  rw [imin_eq] at h
  split at h
  · exact absurd h (by decide)
  · unfold small; omega
theorem sub_u64 {a b : Int} (ha : i64 a) (hb : i64 b) (h : a ≤ b) : W.sub .u64 (W.wrap .u64 b) (W.wrap .u64 a) = b - a := by
  unfold i64 at ha hb
  show IntKind.u64.wrap (W.wrap .u64 b - W.wrap .u64 a) = _
  rw [wrap_u64, W.wu64, W.wu64]; omega
theorem over_gt {a n b m : Int} (ha : i64 a) (hn : i64 n) (hb : i64 b) (hm : i64 m) (h1 : 1 ≤ n) (h2 : 1 ≤ m) (h : b < a) : W.ilt (W.sub .u64 (W.wrap .u64 a) (W.wrap .u64 b)) (W.wrap .u64 m) = over a n b m := by
  rw [sub_u64 hb ha (by omega), W.wu64_in (by omega) (by unfold i64 at hm; omega)]
  unfold W.ilt over
  exact bool_dec (by omega)
theorem over_le {a n b m : Int} (ha : i64 a) (hn : i64 n) (hb : i64 b) (hm : i64 m) (h1 : 1 ≤ n) (h2 : 1 ≤ m) (h : a ≤ b) : W.ilt (W.sub .u64 (W.wrap .u64 b) (W.wrap .u64 a)) (W.wrap .u64 n) = over a n b m := by
  rw [sub_u64 ha hb (by omega), W.wu64_in (by omega) (by unfold i64 at hn; omega)]
  unfold W.ilt over
  exact bool_dec (by omega)
theorem beq_self (t : Bool) : W.beq t t = true := by cases t <;> rfl
end Sp
namespace Go.Proofs.Ytpohkoijbocpcaa
open Go.AbsM
theorem good10 : GoodC Try.prog ctr10 := by
  refine good_plain (fn := Try.f10) wide .nil ⟨by kernel_rfl, by kernel_rfl, by kernel_rfl, by kernel_rfl⟩ (by kernel_rfl) fun d hd => ?_
  obtain ⟨⟨a, n, u⟩, k, x⟩ : (Int × Int × Unit) × Int × Unit := d
  refine Eq.mpr (nf10 a n k _) ?_
  have one : (n < 1 ∨ a < 2 ∨ W.imin k 1024 < a ∨ W.imin k 1024 - a < n) → TV.int .i64 1 = TV.int .i64 (Sp.check a n k) := fun h => by unfold Sp.check; rw [if_pos h]
  refine brc_ilt (fun h => one (.inl h)) fun h1 => brc_ilt (fun h => one (.inr (.inl h))) fun h2 => brc_igt (fun h => one (.inr (.inr (.inl h)))) fun h3 => ?_
  have hs : W.sub .i64 (W.imin k 1024) a = W.imin k 1024 - a := by
    rw [Sp.imin_eq] at h3 ⊢
    exact W.sub_i64 (by omega) (by omega)
  rw [hs]
  refine brc_igt (fun h => one (.inr (.inr (.inr h)))) fun h4 => ?_
  show TV.int .i64 0 = TV.int .i64 (Sp.check a n k)
  unfold Sp.check; rw [if_neg (by omega)]
theorem good11 : GoodC Try.prog ctr11 := by
  refine good_plain (fn := Try.f11) wide .nil ⟨by kernel_rfl, by kernel_rfl, by kernel_rfl, by kernel_rfl⟩ (by kernel_rfl) fun d hd => ?_
  obtain ⟨⟨a, n, u⟩, k, x⟩ : (Int × Int × Unit) × Int × Unit := d
  refine Eq.mpr (nf11 a n k _) ?_
  have one : (n < 1 ∨ a < 2 ∨ W.imin k 1024 < a ∨ W.imin k 1024 - a < n) → TV.int .i64 1 = TV.int .i64 (Sp.check a n k) := fun h => by unfold Sp.check; rw [if_pos h]
  have nul : ¬ (n < 1 ∨ a < 2 ∨ W.imin k 1024 < a ∨ W.imin k 1024 - a < n) → TV.int .i64 0 = TV.int .i64 (Sp.check a n k) := fun h => by unfold Sp.check; rw [if_neg h]
  rw [Sp.imin_eq] at one nul
  refine brc_igt (fun hk => ?_) fun hk => ?_
  · refine brc_ilt (fun h => one (.inl h)) fun h1 => brc_ilt (fun h => one (.inr (.inl h))) fun h2 => brc_igt (fun h => one (by omega)) fun h3 => ?_
    rw [W.sub_i64 (by omega) (by omega)]
    exact brc_igt (fun h => one (by omega)) fun h4 => nul (by omega)
  · refine brc_ilt (fun h => one (.inl h)) fun h1 => brc_ilt (fun h => one (.inr (.inl h))) fun h2 => brc_igt (fun h => one (by omega)) fun h3 => ?_
    rw [W.sub_i64 (by omega) (by omega)]
    exact brc_igt (fun h => one (by omega)) fun h4 => nul (by omega)
theorem good12 : GoodC Try.prog ctr12 := by
  refine good_plain (fn := Try.f12) wide .nil ⟨by kernel_rfl, by kernel_rfl, by kernel_rfl, by kernel_rfl⟩ (by kernel_rfl) fun d hd => ?_
  obtain ⟨⟨a, n, u⟩, x⟩ : (Int × Int × Unit) × Unit := d
  exact Eq.mpr (nf12 a n _) rfl
theorem good13 : GoodC Try.prog ctr13 := by
  refine good_plain (fn := Try.f13) wide .nil ⟨by kernel_rfl, by kernel_rfl, by kernel_rfl, by kernel_rfl⟩ (by kernel_rfl) fun d hd => Blk.un ?_
  obtain ⟨⟨a, n, u⟩, ⟨b, m, v⟩, x⟩ : (Int × Int × Unit) × (Int × Int × Unit) × Unit := d
  obtain ⟨ha, hn, hb, hm⟩ : Sp.i64 a ∧ Sp.i64 n ∧ Sp.i64 b ∧ Sp.i64 m := hd
  refine Blk.nf (nf13 a n b m _) ?_
  have no : ¬ (1 ≤ n ∧ 1 ≤ m ∧ a < b + m ∧ b < a + n) → TV.bool false = TV.bool (Sp.over a n b m) := fun h => by rw [Sp.over_not.2 h]
  refine brc_ilt (fun h => no (by omega)) fun h1 => brc_ilt (fun h => no (by omega)) fun h2 => brc_igt (fun h => ?_) fun h => ?_
  · exact congrArg TV.bool (Sp.over_gt ha hn hb hm h1 h2 h)
  · exact congrArg TV.bool (Sp.over_le ha hn hb hm h1 h2 h)
theorem good21 : GoodC Try.prog ctr21 := by
  refine good_plain (fn := Try.f21) wide .nil ⟨by kernel_rfl, by kernel_rfl, by kernel_rfl, by kernel_rfl⟩ (by kernel_rfl) fun d hd => ?_
  obtain ⟨⟨b, m, u⟩, a, i, x⟩ : (Int × Int × Unit) × Int × Int × Unit := d
  obtain ⟨⟨hb1, hb2, hb3⟩, ha, ha2, hi, hi2⟩ : Sp.small b m ∧ 2 ≤ a ∧ a ≤ 1024 ∧ 0 ≤ i ∧ i ≤ 1024 := hd
  have hb1 : 2 ≤ b := hb1
  have hb2 : 1 ≤ m := hb2
  have hb3 : b + m ≤ 1024 := hb3
  refine Eq.mpr (nf21 b m a i _) ?_
  rw [W.sub_i64 (by omega) (by omega), W.sub_i64 (by omega) (by omega), W.sub_i64 (by omega) (by omega)]
  refine brc_ilt (fun h => by exfalso; omega) fun h1 => brc_ige (fun h => ?_) fun h => ?_
  · have e : W.ilt (a - b) (m - i) = Sp.inRoom b m a i := by
      unfold W.ilt Sp.inRoom
      exact Sp.bool_dec (by omega)
    exact congrArg TV.bool e
  · have : Sp.inRoom b m a i = false := decide_eq_false (by omega)
    show TV.bool false = TV.bool (Sp.inRoom b m a i); rw [this]
theorem good21L : Goods Try.prog [ctr21] := .cons good21 .nil
theorem good14 : GoodC Try.prog ctr14 := by
  refine good_loop (fn := Try.f14) [4] [] (fun i : Int × Int × Int × Int × Int => (i.2.1 - i.2.2.2.2).toNat) wide good21L ⟨by kernel_rfl, by kernel_rfl, by kernel_rfl, by kernel_rfl⟩ (by kernel_rfl) (by kernel_rfl) (by kernel_rfl) (by kernel_rfl) (n := 21) (ls := [2, 3, 4, 5]) (ks := [2, 3]) (mk := mk14) (ψ := psi14) (id := 0) ?_ ?_
  · rintro ⟨a, n, b, m, i⟩ Φ ⟨⟨ha, hb, h0, h1, hov⟩, hy, hn⟩
    simp only at ha hb h0 h1 hov hy hn
    obtain ⟨a1, a2, a3⟩ := id ha
    obtain ⟨b1, b2, b3⟩ := id hb
    refine Eq.mpr (nf14s _ _ _ _ a n b m i Φ _) ?_
    have last : n ≤ i → Φ .normal (mkS 21 [(4, TV.bool false)] []) := fun h => hn (by
      cases ho : Sp.over a n b m with
      | false => rfl
      | true =>
        have h2 := Sp.over_iff.1 ho
        have := hov ho
        omega)
    refine brc_ilt (fun h => brc_ilt (fun h2 => ⟨⟨hb, a1, by omega, h0, by omega⟩, brc_of (fun t => ?_) fun t => ?_⟩) fun h2 => last (by omega)) fun h => last h
    · have t := of_decide_eq_true t
      exact hy (Sp.over_iff.2 (by omega))
    · have t := of_decide_eq_false t
      rw [W.add_i64 (by omega) (by omega)]
      refine ⟨(a, n, b, m, i + 1), rfl, ?_, ⟨ha, hb, ?_, ?_, fun ho => ?_⟩, hy, hn⟩
      · show (n - (i + 1)).toNat < (n - i).toNat; omega
      · show 0 ≤ i + 1; omega
      · show i + 1 ≤ n; omega
      · have h3 := hov ho
        have h4 : 1 ≤ n ∧ 1 ≤ m ∧ a < b + m ∧ b < a + n := Sp.over_iff.1 ho
        show a + (i + 1) ≤ b ∨ i + 1 = 0
        omega
  · intro d hd
    obtain ⟨⟨a, n, u⟩, ⟨b, m, v⟩, x⟩ : (Int × Int × Unit) × (Int × Int × Unit) × Unit := d
    obtain ⟨ha, hb⟩ : Sp.small a n ∧ Sp.small b m := hd
    refine Eq.mpr (nf14 a n b m _) ⟨(a, n, b, m, 0), rfl, ⟨ha, hb, Int.le_refl _, ?_, fun _ => .inr rfl⟩, fun h => ?_, fun h => ?_⟩
    · show 0 ≤ n; have := ha.2.1; omega
    · show TV.bool true = TV.bool (Sp.over a n b m)
      have h : Sp.over a n b m = true := h
      rw [h]
    · show TV.bool false = TV.bool (Sp.over a n b m)
      have h : Sp.over a n b m = false := h
      rw [h]
theorem good9 : GoodC Try.prog (trueC 9) := good_closed (fn := Try.f9) (lend := fun _ _ => false) (n := 3000) wide ⟨by kernel_rfl, by kernel_rfl, by kernel_rfl, by kernel_rfl⟩ (fun S => by kernel_rfl)
theorem goodE : Goods Try.prog extO := .cons good9 (.cons good10 (.cons good11 (.cons good12 (.cons good13 (.cons good14 .nil)))))
def law8 : TCtr := lawC 8 [.v (.int .u8), .v (.int .u8), .v (.int .u8), .v (.int .u8)] (fun (d : Int × Int × Int × Int × Unit) => (0 ≤ d.1 ∧ d.1 < 256) ∧ (0 ≤ d.2.1 ∧ d.2.1 < 256) ∧ (0 ≤ d.2.2.1 ∧ d.2.2.1 < 256) ∧ (0 ≤ d.2.2.2.1 ∧ d.2.2.2.1 < 256))
theorem add_in (c m a : Int) (hc : 0 ≤ c ∧ c < 100) (hm : 0 < m ∧ m < 100) (h : 0 ≤ a ∧ a < 256) : W.add .i64 c (W.wrap .i64 (W.rem a m)) = c + a % m := by
  rw [W.rem_pos h.1]
  have h1 : 0 ≤ a % m := Int.emod_nonneg _ (by omega)
  have h2 : a % m < m := Int.emod_lt_of_pos _ hm.1
  rw [W.wi64_in (by omega) (by omega), W.add_i64 (by omega) (by omega)]
theorem good8 : GoodC Try.prog law8 := by
  refine good_loop (fn := Try.f8) [9, 10, 11] [9, 10] (fun i : Int × Int × Int × Int × Bool × Int => (40 - i.2.2.2.2.2).toNat) wide goodE ⟨by kernel_rfl, by kernel_rfl, by kernel_rfl, by kernel_rfl⟩ (by kernel_rfl) (by kernel_rfl) (by kernel_rfl) (by kernel_rfl) (n := 106) (ls := [9, 10, 11, 12]) (ks := [9, 10]) (mk := mk8) (ψ := psi8) (id := 0) ?_ ?_
  · rintro ⟨a, n, b, m, t, i⟩ Φ ⟨⟨ha, hb, h0, h1, ht⟩, hΦ⟩
    simp only at ha hb h0 h1 ht hΦ
    refine Eq.mpr (nf8s _ _ _ _ a n b m t i Φ _) ?_
    rw [W.add_i64 (by omega) (by omega), W.add_i64 (by omega) (by omega), W.add_i64 (by omega) (by omega)]
    have key : ∀ t2 : Bool, i < 40 → t2 = Sp.both a n b m (i + 1) → ∃ j, mkS 106 [(9, .a (.ref 0 9 0)), (10, .a (.ref 0 10 0)), (11, TV.bool t2), (12, TV.int .i64 (i + 1))] [(9, .box [.a (.x (.int .i64 a)), .a (.x (.int .i64 n))]), (10, .box [.a (.x (.int .i64 b)), .a (.x (.int .i64 m))])] = mk8 j ∧ (fun i : Int × Int × Int × Int × Bool × Int => (40 - i.2.2.2.2.2).toNat) j < (fun i : Int × Int × Int × Int × Bool × Int => (40 - i.2.2.2.2.2).toNat) (a, n, b, m, t, i) ∧ psi8 j Φ := fun t2 hi e => by
      refine ⟨(a, n, b, m, t2, i + 1), rfl, ?_, ⟨ha, hb, ?_, ?_, e⟩, hΦ⟩
      · show (40 - (i + 1)).toNat < (40 - i).toNat; omega
      · show 0 ≤ i + 1; omega
      · show i + 1 ≤ 40; omega
    refine brc_ilt (fun h => brc_of (fun q => ?_) fun q => brc_ige (fun h2 => brc_ilt (fun h3 => brc_ige (fun h4 => ?_) fun h4 => ?_) fun h3 => ?_) fun h2 => ?_) fun h => ?_
    · rw [q] at ht
      have ht := of_decide_eq_true ht.symm
      exact key true h (decide_eq_true (by omega)).symm
    · rw [q] at ht
      have ht := of_decide_eq_false ht.symm
      exact key _ h (Sp.bool_dec (by omega))
    · exact key false h (decide_eq_false (by omega)).symm
    · rw [q] at ht
      have ht := of_decide_eq_false ht.symm
      exact key false h (decide_eq_false (by omega)).symm
    · exact key false h (decide_eq_false (by omega)).symm
    · have e : t = Sp.over a n b m := by rw [ht]; exact Sp.bool_dec (by omega)
      rw [e]; exact hΦ
  · intro d hd
    obtain ⟨a, b, c, e, x⟩ : Int × Int × Int × Int × Unit := d
    obtain ⟨ha, hb, hc, he⟩ : (0 ≤ a ∧ a < 256) ∧ (0 ≤ b ∧ b < 256) ∧ (0 ≤ c ∧ c < 256) ∧ (0 ≤ e ∧ e < 256) := hd
    refine Eq.mpr (nf8 a b c e _) ⟨trivial, ?_⟩
    rw [add_in 2 20 a (by omega) (by omega) ha, add_in 1 8 b (by omega) (by omega) hb, add_in 2 20 c (by omega) (by omega) hc, add_in 1 8 e (by omega) (by omega) he]
    generalize hA : 2 + a % 20 = A
    generalize hB : 1 + b % 8 = B
    generalize hC : 2 + c % 20 = C
    generalize hD : 1 + e % 8 = D
    have kA : 2 ≤ A ∧ A ≤ 21 := by omega
    have kB : 1 ≤ B ∧ B ≤ 8 := by omega
    have kC : 2 ≤ C ∧ C ≤ 21 := by omega
    have kD : 1 ≤ D ∧ D ≤ 8 := by omega
    have iA : Sp.i64 A := by unfold Sp.i64; omega
    have iB : Sp.i64 B := by unfold Sp.i64; omega
    have iC : Sp.i64 C := by unfold Sp.i64; omega
    have iD : Sp.i64 D := by unfold Sp.i64; omega
    refine ⟨(A, B, C, D, false, 0), rfl, ⟨⟨kA.1, kA.2, kB.1, kB.2⟩, ⟨kC.1, kC.2, kD.1, kD.2⟩, Int.le_refl _, ?_, ?_⟩, ⟨iA, iB, iC, iD⟩, brc_yes (Sp.beq_self _) ⟨⟨iC, iD, iA, iB⟩, brc_yes ?_ ⟨trivial, ?_⟩⟩⟩
    · show (0 : Int) ≤ 40; omega
    · exact (decide_eq_false (by show ¬ (A < C + D ∧ C < A + B ∧ A < 0 ∧ C < 0); omega)).symm
    · show W.beq (Sp.over C D A B) (Sp.over A B C D) = true
      rw [Sp.over_comm C D A B]; exact Sp.beq_self _
    · show brc (W.ieq (Sp.check A B (Int.ofNat 40)) 0) (True ∧ brc (W.ieq (Sp.check A B (W.add .i64 A B)) 0) (True ∧ TV.bool (W.ine (Sp.check A B (W.sub .i64 (W.add .i64 A B) 1)) 0) = TV.bool true) (TV.bool false = TV.bool true)) (TV.bool false = TV.bool true)
      rw [W.add_i64 (by omega) (by omega), W.sub_i64 (by omega) (by omega), Sp.check_zero (k := Int.ofNat 40) kB.1 kA.1 (by show A + B ≤ 40; omega) (by omega), Sp.check_zero kB.1 kA.1 (Int.le_refl _) (by omega), Sp.check_one (by omega)]
      exact brc_yes rfl ⟨trivial, brc_yes rfl ⟨trivial, rfl⟩⟩
def law3 : TCtr := lawC 3 [.v (.pair (.int .i64) (.pair (.int .i64) .unit)), .v (.pair (.int .i64) (.pair (.int .i64) .unit)), .v (.int .i64)] (fun (d : (Int × Int × Unit) × (Int × Int × Unit) × Int × Unit) => Sp.i64 d.1.1 ∧ Sp.i64 d.1.2.1 ∧ Sp.i64 d.2.1.1 ∧ Sp.i64 d.2.1.2.1)
theorem good3 : GoodC Try.prog law3 := by
  refine good_plain (fn := Try.f3) wide goodE ⟨by kernel_rfl, by kernel_rfl, by kernel_rfl, by kernel_rfl⟩ (by kernel_rfl) fun d hd => ?_
  obtain ⟨⟨a, n, u⟩, ⟨b, m, v⟩, k, x⟩ : (Int × Int × Unit) × (Int × Int × Unit) × Int × Unit := d
  obtain ⟨ha, hn, hb, hm⟩ : Sp.i64 a ∧ Sp.i64 n ∧ Sp.i64 b ∧ Sp.i64 m := hd
  refine Eq.mpr (nf3 a n b m k _) ⟨trivial, trivial, trivial, trivial, brc_ine (fun h => absurd rfl h) fun _ => ⟨trivial, trivial, brc_ine (fun _ => rfl) fun h1 => ⟨trivial, trivial, brc_ine (fun _ => rfl) fun h2 => ?_⟩⟩⟩
  have s1 := Sp.check_small h1
  have s2 := Sp.check_small h2
  refine ⟨⟨ha, hn, hb, hm⟩, trivial, trivial, ⟨s1, s2⟩, brc_yes (Sp.beq_self _) ⟨⟨ha, hn, hb, hm⟩, ⟨hb, hm, ha, hn⟩, brc_yes ?_ ⟨⟨ha, hn, ha, hn⟩, ?_⟩⟩⟩
  · rw [Sp.over_comm b m a n]; exact Sp.beq_self _
  · have : Sp.over a n a n = true := Sp.over_iff.2 (by have := s1.2.1; omega)
    rw [this]; rfl
end Go.Proofs.Ytpohkoijbocpcaa
