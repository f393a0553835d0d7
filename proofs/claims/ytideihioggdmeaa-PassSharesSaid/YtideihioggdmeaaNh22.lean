/-
  Texts of a proof over the translated program: Nh22.
-/
import Derived.Test.YtideihioggdmeaaNh22Nf
set_option linter.unusedVariables false
namespace Sp
open Go Go.AbsM
theorem nb_iff {f n d : Int} : nb f n d = true ↔ (1 ≤ n ∧ 0 ≤ d ∧ d < n ∧ 0 ≤ f ∧ f < n) := decide_eq_true_iff
theorem nb_no {f n d : Int} (h : ¬ (1 ≤ n ∧ 0 ≤ d ∧ d < n ∧ 0 ≤ f ∧ f < n)) : nb f n d = false := decide_eq_false h
theorem nb_yes {f n d : Int} (h : 1 ≤ n ∧ 0 ≤ d ∧ d < n ∧ 0 ≤ f ∧ f < n) : nb f n d = true := decide_eq_true h
theorem ng_no {f n d : Int} (h : nb f n d = false) : ng f n d = 0 := by unfold ng; rw [if_neg (by rw [h]; decide)]
theorem ng_far {f n d : Int} (h : nb f n d = true) (k : n - f ≤ d) : ng f n d = d - (n - f) := by unfold ng; rw [if_pos h, if_pos k]
theorem ng_near {f n d : Int} (h : nb f n d = true) (k : ¬ n - f ≤ d) : ng f n d = f + d := by unfold ng; rw [if_pos h, if_neg k]
theorem ieq_self (x : Int) : W.ieq x x = true := by simp [W.ieq]
theorem beq_self (t : Bool) : W.beq t t = true := by cases t <;> rfl
end Sp
namespace Go.Proofs.Ytideihioggdmeaa
open Go.AbsM
def tup2 (a : Int) (b : Bool) : TV := TV.tup [.c (.a (.x (.int .i64 a))), .c (.a (.x (.bool b)))]
theorem no_out {f n d : Int} (h : ¬ (1 ≤ n ∧ 0 ≤ d ∧ d < n ∧ 0 ≤ f ∧ f < n)) : tup2 0 false = tup2 (Sp.ng f n d) (Sp.nb f n d) := by
  have := Sp.nb_no h
  rw [Sp.ng_no this, this]
theorem far_out {f n d : Int} (hn : Sp.i64 n) (h : 1 ≤ n ∧ 0 ≤ d ∧ d < n ∧ 0 ≤ f ∧ f < n) (k : n - f ≤ d) : tup2 (W.sub .i64 d (n - f)) true = tup2 (Sp.ng f n d) (Sp.nb f n d) := by
  have hb := Sp.nb_yes h
  unfold Sp.i64 at hn
  rw [Sp.ng_far hb k, hb, W.sub_i64 (by omega) (by omega)]
theorem near_out {f n d : Int} (hn : Sp.i64 n) (h : 1 ≤ n ∧ 0 ≤ d ∧ d < n ∧ 0 ≤ f ∧ f < n) (k : ¬ n - f ≤ d) : tup2 (W.add .i64 f d) true = tup2 (Sp.ng f n d) (Sp.nb f n d) := by
  have hb := Sp.nb_yes h
  unfold Sp.i64 at hn
  rw [Sp.ng_near hb k, hb, W.add_i64 (by omega) (by omega)]
theorem left_in {f n d : Int} (hn : Sp.i64 n) (h : 1 ≤ n ∧ 0 ≤ f ∧ f < n) : W.sub .i64 n f = n - f := by
  unfold Sp.i64 at hn
  exact W.sub_i64 (by omega) (by omega)
theorem good8 : GoodC Try.prog ctr8 := by
  refine good_plain (fn := Try.f8) wide .nil ⟨by kernel_rfl, by kernel_rfl, by kernel_rfl, by kernel_rfl⟩ (by kernel_rfl) fun d hd => Blk.un ?_
  obtain ⟨⟨f, n, d, u⟩, x⟩ : (Int × Int × Int × Unit) × Unit := d
  obtain ⟨hf, hn, hd⟩ : Sp.i64 f ∧ Sp.i64 n ∧ Sp.i64 d := hd
  refine Blk.nf (nf8 f n d _) ?_
  refine brc_ilt (fun h => no_out (f := f) (n := n) (d := d) (by omega)) fun h1 => brc_ilt (fun h => no_out (f := f) (n := n) (d := d) (by omega)) fun h2 => brc_ige (fun h => no_out (f := f) (n := n) (d := d) (by omega)) fun h3 => brc_ilt (fun h => no_out (f := f) (n := n) (d := d) (by omega)) fun h4 => brc_ige (fun h => no_out (f := f) (n := n) (d := d) (by omega)) fun h5 => ?_
  rw [left_in (f := f) (d := d) hn (by omega)]
  exact brc_ige (fun h => far_out (f := f) (d := d) hn (by omega) h) fun h => near_out (f := f) (n := n) (d := d) hn (by omega) (by omega)
theorem lab7_ok : ∀ l rest ψ, findLabel (scC (bodyOf Try.f7)) l = some rest → lab7 l = some ψ → ∀ s Φ, ψ s Φ → Run Try.prog (.within (scC (bodyOf Try.f7)) rest) s Φ := by
  intro l rest ψ hf hl
  unfold lab7 at hl
  split at hl
  · rename_i hb
    have := Nat.eq_of_beq_eq_true hb
    subst this
    cases hl
    have h3 : findLabel (scC (bodyOf Try.f7)) 0 = some (restC (bodyOf Try.f7) 0) := by kernel_rfl
    rw [h3] at hf
    simp only [Option.some.injEq] at hf; subst hf
    refine run_jump (lx := [2, 3]) (kx := []) (knownL_ok wide .nil noneK noneK) (fun _ => 0) (lamOk_free (by kernel_rfl)) h3 (fun l'' rest' ψ'' hne hf' hl' => by cases hl') ?_
    rintro ⟨⟩ Φ h
    exact Eq.mpr (nf7a _ mk7a psi7a _ Φ _) h
  · obtain ⟨rfl, rfl⟩ := one_some hl
    have h3 : findLabel (scC (bodyOf Try.f7)) 1 = some (restC (bodyOf Try.f7) 1) := by kernel_rfl
    rw [h3] at hf
    simp only [Option.some.injEq] at hf; subst hf
    refine run_jump (lx := [2, 3]) (kx := []) (knownL_ok wide .nil noneK noneK) (fun _ => 0) (lamOk_free (by kernel_rfl)) h3 (fun l'' rest' ψ'' hne hf' hl' => by cases hl') ?_
    rintro ⟨f, n, d, l⟩ Φ h
    exact Eq.mpr (nf7b _ mk7b psi7b _ f n d l Φ _) h
theorem good7 : GoodC Try.prog ctr7 := by
  refine good_by (blk := noneK) (lab := lab7) (fn := Try.f7) wide .nil ⟨by kernel_rfl, by kernel_rfl, by kernel_rfl, by kernel_rfl⟩ (lamOk_body (by kernel_rfl) (by kernel_rfl) (fun id ψ h => by cases h) lab7_ok) fun d hd => Blk.un ?_
  obtain ⟨⟨f, n, d, u⟩, x⟩ : (Int × Int × Int × Unit) × Unit := d
  obtain ⟨hf, hn, hd⟩ : Sp.i64 f ∧ Sp.i64 n ∧ Sp.i64 d := hd
  refine Blk.nf (nf7 f n d _) ?_
  refine brc_ilt (fun h => ⟨(), rfl, no_out (f := f) (n := n) (d := d) (by omega)⟩) fun h1 => brc_ilt (fun h => ⟨(), rfl, no_out (f := f) (n := n) (d := d) (by omega)⟩) fun h2 => brc_ige (fun h => ⟨(), rfl, no_out (f := f) (n := n) (d := d) (by omega)⟩) fun h3 => brc_ilt (fun h => ⟨(), rfl, no_out (f := f) (n := n) (d := d) (by omega)⟩) fun h4 => brc_ige (fun h => ⟨(), rfl, no_out (f := f) (n := n) (d := d) (by omega)⟩) fun h5 => ?_
  rw [left_in (f := f) (d := d) hn (by omega)]
  exact brc_ige (fun h => ⟨(f, n, d, n - f), rfl, far_out (f := f) (d := d) hn (by omega) h⟩) fun h => near_out (f := f) (n := n) (d := d) hn (by omega) (by omega)
set_option maxHeartbeats 4000000 in
theorem good9 : GoodC Try.prog ctr9 := by
  refine good_plain (fn := Try.f9) wide .nil ⟨by kernel_rfl, by kernel_rfl, by kernel_rfl, by kernel_rfl⟩ (by kernel_rfl) fun d hd => Blk.un ?_
  obtain ⟨⟨f, n, d, u⟩, x⟩ : (Int × Int × Int × Unit) × Unit := d
  refine Blk.nf (nf9 f n d _) ?_
  exact rfl
def agg3 (a b c : Int) : TV := .o (.agg [.a (.x (.int .i64 a)), .a (.x (.int .i64 b)), .a (.x (.int .i64 c))])
theorem step_yes {f n d : Int} (hn : Sp.i64 n) (h : Sp.nb f n d = true) : agg3 f n (W.add .i64 d 1) = agg3 f n (Sp.st f n d) := by
  have := Sp.nb_iff.1 h
  unfold Sp.i64 at hn
  unfold Sp.st
  rw [if_pos h, W.add_i64 (by omega) (by omega)]
theorem step_no {f n d : Int} (h : Sp.nb f n d = false) : agg3 f n d = agg3 f n (Sp.st f n d) := by
  unfold Sp.st
  rw [if_neg (by rw [h]; decide)]
theorem left_no {f n d : Int} (h : W.bnot (Sp.nb f n d) = true) : TV.int .i64 0 = TV.int .i64 (Sp.lf f n d) := by
  have h : Sp.nb f n d = false := by cases hb : Sp.nb f n d <;> rw [hb] at h <;> first | rfl | cases h
  unfold Sp.lf
  rw [if_neg (by rw [h]; decide)]
theorem left_yes {f n d : Int} (hn : Sp.i64 n) (h : W.bnot (Sp.nb f n d) = false) : TV.int .i64 (W.sub .i64 n d) = TV.int .i64 (Sp.lf f n d) := by
  have h : Sp.nb f n d = true := by cases hb : Sp.nb f n d <;> rw [hb] at h <;> first | rfl | cases h
  have := Sp.nb_iff.1 h
  unfold Sp.i64 at hn
  unfold Sp.lf
  rw [if_pos h, W.sub_i64 (by omega) (by omega)]
theorem by_b {t : Bool} {A B : Prop} (h1 : t = true → A) (h2 : t = false → B) : brc t A B := by
  cases t with
  | true => exact brc_yes rfl (h1 rfl)
  | false => exact brc_no rfl (h2 rfl)
theorem good10 : GoodC Try.prog ctr10 := by
  refine good_plain (fn := Try.f10) wide (.cons good7 .nil) ⟨by kernel_rfl, by kernel_rfl, by kernel_rfl, by kernel_rfl⟩ (by kernel_rfl) fun d hd => Blk.un ?_
  obtain ⟨⟨f, n, d, u⟩, x⟩ : (Int × Int × Int × Unit) × Unit := d
  obtain ⟨hf, hn, hd⟩ : Sp.i64 f ∧ Sp.i64 n ∧ Sp.i64 d := hd
  exact Blk.nf (nf10 f n d _) ⟨⟨hf, hn, hd⟩, by_b (fun h => step_yes hn h) fun h => step_no h⟩
theorem good11 : GoodC Try.prog ctr11 := by
  refine good_plain (fn := Try.f11) wide (.cons good8 .nil) ⟨by kernel_rfl, by kernel_rfl, by kernel_rfl, by kernel_rfl⟩ (by kernel_rfl) fun d hd => Blk.un ?_
  obtain ⟨⟨f, n, d, u⟩, x⟩ : (Int × Int × Int × Unit) × Unit := d
  obtain ⟨hf, hn, hd⟩ : Sp.i64 f ∧ Sp.i64 n ∧ Sp.i64 d := hd
  exact Blk.nf (nf11 f n d _) ⟨⟨hf, hn, hd⟩, by_b (fun h => step_yes hn h) fun h => step_no h⟩
theorem good12 : GoodC Try.prog ctr12 := by
  refine good_plain (fn := Try.f12) wide (.cons good7 .nil) ⟨by kernel_rfl, by kernel_rfl, by kernel_rfl, by kernel_rfl⟩ (by kernel_rfl) fun d hd => Blk.un ?_
  obtain ⟨⟨f, n, d, u⟩, x⟩ : (Int × Int × Int × Unit) × Unit := d
  obtain ⟨hf, hn, hd⟩ : Sp.i64 f ∧ Sp.i64 n ∧ Sp.i64 d := hd
  exact Blk.nf (nf12 f n d _) ⟨⟨hf, hn, hd⟩, by_b (fun h => left_no h) fun h => left_yes hn h⟩
theorem good13 : GoodC Try.prog ctr13 := by
  refine good_plain (fn := Try.f13) wide (.cons good8 .nil) ⟨by kernel_rfl, by kernel_rfl, by kernel_rfl, by kernel_rfl⟩ (by kernel_rfl) fun d hd => Blk.un ?_
  obtain ⟨⟨f, n, d, u⟩, x⟩ : (Int × Int × Int × Unit) × Unit := d
  obtain ⟨hf, hn, hd⟩ : Sp.i64 f ∧ Sp.i64 n ∧ Sp.i64 d := hd
  exact Blk.nf (nf13 f n d _) ⟨⟨hf, hn, hd⟩, by_b (fun h => left_no h) fun h => left_yes hn h⟩
theorem goodAny : Goods Try.prog anyL := .cons good6 (.cons good7 (.cons good8 (.cons good9 (.cons good10 (.cons good11 (.cons good12 (.cons good13 .nil)))))))
def law3 : TCtr := lawC 3 [.v (.pair (.int .i64) (.pair (.int .i64) (.pair (.int .i64) .unit)))] (fun (d : R3) => pre3 d)
theorem good3 : GoodC Try.prog law3 := by
  refine good_plain (fn := Try.f3) wide goodAny ⟨by kernel_rfl, by kernel_rfl, by kernel_rfl, by kernel_rfl⟩ (by kernel_rfl) fun d hd => Blk.un ?_
  obtain ⟨⟨f, n, d, u⟩, x⟩ : (Int × Int × Int × Unit) × Unit := d
  have p : Sp.i64 f ∧ Sp.i64 n ∧ Sp.i64 d := hd
  refine Blk.nf (nf3 f n d _) ⟨trivial, p, trivial, p, brc_yes (Sp.ieq_self _) (brc_yes (Sp.beq_self _) ⟨p, trivial, trivial, p, brc_yes (Sp.ieq_self _) (brc_yes (Sp.ieq_self _) (brc_yes (Sp.ieq_self _) ⟨p, trivial, p, ?_⟩))⟩)⟩
  rw [Sp.ieq_self]; rfl
end Go.Proofs.Ytideihioggdmeaa
