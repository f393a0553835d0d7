/-
  Texts of a proof over the translated program: N5Put27.
-/
import Derived.Test.YtijahjkcbphmcaaN5Put27Nf
set_option linter.unusedVariables false
namespace Go.Proofs.Ytijahjkcbphmcaa
open Go.AbsM
theorem goodPO : Goods Try.prog putO := .cons good45 (.cons (good32 .nil) .nil)
theorem goodPN : Goods Try.prog putN := .cons good45n (.cons (good32 .nil) .nil)
def ctr27 : TCtr := .det 27 [.l 39 (.int .u64)] (fun (d : List Int × Unit) => Sp.inU d.1 ∧ d.1.length < 999999 ∧ d.1.length ≠ 0) (fun (d : List Int × Unit) => .o (.own 5 (.int .u8) (Sp.encR (Sp.runs d.1)))) fun _ => rfl
def ctr30 : TCtr := .det 30 [.l 39 (.int .u64)] (fun (d : List Int × Unit) => d.1.length < 1000000) (fun (d : List Int × Unit) => TV.int .i64 ((Sp.runs d.1).length : Int)) fun _ => rfl
def ctr30o : TCtr := .det 30 [.l 39 (.int .u64)] (fun (d : List Int × Unit) => d.1.length < 1000000 ∧ d.1.length ≠ 0) (fun (d : List Int × Unit) => TV.int .i64 ((Sp.runs d.1).length : Int)) fun _ => rfl
def ctr30n : TCtr := .det 30 [.l 39 (.int .u64)] (fun (d : List Int × Unit) => d.1.length = 0) (fun (d : List Int × Unit) => TV.int .i64 ((Sp.runs d.1).length : Int)) fun _ => rfl
theorem good30o : GoodC Try.prog ctr30o := by
  refine good_plain (fn := Try.f30) wide goodPO ⟨by kernel_rfl, by kernel_rfl, by kernel_rfl, by kernel_rfl⟩ (by kernel_rfl) fun d hd => ?_
  obtain ⟨l, x⟩ : List Int × Unit := d
  exact Eq.mpr (nf30 l _) ⟨hd, rfl⟩
theorem good30n : GoodC Try.prog ctr30n := by
  refine good_plain (fn := Try.f30) wide goodPN ⟨by kernel_rfl, by kernel_rfl, by kernel_rfl, by kernel_rfl⟩ (by kernel_rfl) fun d hd => ?_
  obtain ⟨l, x⟩ : List Int × Unit := d
  have hl : l.length = 0 := hd
  refine Eq.mpr (nf30n l _) ⟨hl, ?_⟩
  have : l = [] := List.length_eq_zero_iff.1 hl
  subst this; rfl
theorem good30 : GoodC Try.prog ctr30 where
  there := good30o.there
  cells := good30o.cells
  call := fun d hp S => by
    obtain ⟨l, x⟩ : List Int × Unit := d
    by_cases h : l.length = 0
    · exact good30n.call (l, x) h S
    · exact good30o.call (l, x) ⟨hp, h⟩ S
theorem enc_two {p : Rn} (h : (0 ≤ p.1 ∧ p.1 < 18446744073709551616) ∧ 0 ≤ p.2.1 ∧ p.2.1 < 18446744073709551616) : 2 ≤ (List.append (Sp.enc p.1) (Sp.enc p.2.1)).length ∧ (List.append (Sp.enc p.1) (Sp.enc p.2.1)).length ≤ 20 := by
  have h1 := Sp.enc_len h.1.1 h.1.2
  have h2 := Sp.enc_len h.2.1 h.2.2
  have : (List.append (Sp.enc p.1) (Sp.enc p.2.1)).length = (Sp.enc p.1).length + (Sp.enc p.2.1).length := List.length_append
  omega
theorem good27 : GoodC Try.prog ctr27 := by
  refine good_loop (fn := Try.f27) [3] [20] (fun i : List Rn × Nat × List Int => i.1.length - i.2.1) wide goodPO ⟨by kernel_rfl, by kernel_rfl, by kernel_rfl, by kernel_rfl⟩ (by kernel_rfl) (by kernel_rfl) (by kernel_rfl) (by kernel_rfl) (n := 23) (ls := [3, 7, 8, 9]) (ks := [7, 20]) (mk := mk27) (ψ := psi27) (id := 0) ?_ ?_
  · rintro ⟨l, n, xs⟩ Φ ⟨⟨hin, hl, hne, hn, hz, hxl⟩, hΦ⟩
    simp only at hin hl hne hn hz hxl hΦ
    have e1 : Int.ofNat (List.length l) = (l.length : Int) := rfl
    cases n with
    | zero =>
      obtain rfl := hz rfl
      refine Eq.mpr (nf27a _ _ _ _ l Φ _) ?_
      have hlt : 0 < l.length := by omega
      have hg := inP_get hin hlt
      have ht := enc_two hg
      have l1 := Sp.enc_len hg.1.1 hg.1.2
      have e3 : W.nth l 0 (0, 0, PUnit.unit) = l.getD 0 (0, 0, ()) := rfl
      rw [e1, e3]
      have hd0 := Sp.encR_drop hlt
      rw [hd0] at hΦ
      refine brc_ilt (fun h => grd_nlt hlt (grd_nlt hlt ⟨⟨hg.1.1, hg.1.2, by decide⟩, ⟨hg.2.1, hg.2.2, by omega⟩, brc_none (fun h => ?_) fun _ => grd_nle ?_ ⟨(l, 1, Sp.enc (l.getD 0 (0, 0, ())).1 ++ Sp.enc (l.getD 0 (0, 0, ())).2.1), rfl, ?_, ⟨hin, hl, hne, ?_, ?_, ?_⟩, ?_⟩⟩)) fun h => by omega
      · rw [h] at ht; simp only [List.length_nil] at ht; omega
      · simp only [W.nmul, W.len]; omega
      · show l.length - 1 < l.length - 0; omega
      · show 1 ≤ l.length; omega
      · intro h; exact absurd h (Nat.succ_ne_zero 0)
      · show (List.append (Sp.enc (l.getD 0 (0, 0, ())).1) (Sp.enc (l.getD 0 (0, 0, ())).2.1)).length ≤ 20 * 1; omega
      · exact hΦ
    | succ n =>
      refine Eq.mpr (nf27b _ _ _ _ l ((n + 1 : Nat) : Int) xs Φ _) ?_
      have e2 : W.toNat ((n + 1 : Nat) : Int) = n + 1 := rfl
      have e3 : W.nth l (n + 1) (0, 0, PUnit.unit) = l.getD (n + 1) (0, 0, ()) := rfl
      rw [e1, e2, e3]
      refine brc_ilt (fun h => ?_) fun h => ?_
      · have hlt : n + 1 < l.length := by omega
        have hg := inP_get hin hlt
        have ht := enc_two hg
        have l1 := Sp.enc_len hg.1.1 hg.1.2
        have hd0 := Sp.encR_drop hlt
        rw [hd0] at hΦ
        have e4 : W.add .i64 ((n + 1 : Nat) : Int) 1 = ((n + 2 : Nat) : Int) := by rw [W.add_i64 (by omega) (by omega)]; omega
        rw [e4]
        refine grd_ile (by omega) (grd_nlt hlt (grd_nlt hlt ⟨⟨hg.1.1, hg.1.2, by decide⟩, ⟨hg.2.1, hg.2.2, by omega⟩, grd_nle ?_ ⟨(l, n + 2, xs ++ (Sp.enc (l.getD (n + 1) (0, 0, ())).1 ++ Sp.enc (l.getD (n + 1) (0, 0, ())).2.1)), rfl, ?_, ⟨hin, hl, hne, ?_, ?_, ?_⟩, ?_⟩⟩))
        · simp only [W.nmul, W.nadd, W.len]; omega
        · show l.length - (n + 2) < l.length - (n + 1); omega
        · show n + 2 ≤ l.length; omega
        · intro h; exact absurd h (by show n + 2 ≠ 0; omega)
        · show (xs ++ List.append (Sp.enc (l.getD (n + 1) (0, 0, ())).1) (Sp.enc (l.getD (n + 1) (0, 0, ())).2.1)).length ≤ 20 * (n + 2)
          rw [List.length_append]; omega
        · exact Eq.mpr (congrArg (fun y : List Int => Φ .normal (mkS 23 [(3, TV.h 20)] [(20, .arr false 5 (.int .u8) y)])) (List.append_assoc xs _ _)) hΦ
      · have : l.drop (n + 1) = [] := List.drop_eq_nil_of_le (by omega)
        rw [this, Sp.encR, List.append_nil] at hΦ
        exact hΦ
  · intro d hd
    obtain ⟨l, x⟩ : List Int × Unit := d
    obtain ⟨hu, hl, hne⟩ : Sp.inU l ∧ l.length < 999999 ∧ l.length ≠ 0 := hd
    have hr : Sp.runs l = Sp.runsG 1 (l.getD 0 0) (l.drop 1) := Sp.runs_pos (by omega)
    have hrl := Sp.runsG_len 1 (l.getD 0 0) (l.drop 1)
    rw [← hr, List.length_drop] at hrl
    refine Eq.mpr (nf27 l _) ⟨⟨by omega, hne⟩, (Sp.runs l, 0, []), rfl, ⟨Sp.runs_in hu (by omega), ?_, ?_, Nat.zero_le _, fun _ => rfl, Nat.zero_le _⟩, rfl⟩
    · show (Sp.runs l).length < 1000000; omega
    · show (Sp.runs l).length ≠ 0; omega
end Go.Proofs.Ytijahjkcbphmcaa
