/-
  Texts of a proof over the translated program: N5Puts.
-/
import Derived.Test.YtijahjkcbphmcaaN5PutsNf
import Derived.Test.YtijahjkcbphmcaaN5Puts0Nf
import Derived.Test.YtijahjkcbphmcaaN5Trip
set_option linter.unusedVariables false
namespace Go.Proofs.Ytijahjkcbphmcaa
open Go.AbsM
theorem good27n : GoodC Try.prog ctr27n := by
  refine good_loop (fn := Try.f27) [3] [] (fun i : Unit => 0) wide goodPN ⟨by kernel_rfl, by kernel_rfl, by kernel_rfl, by kernel_rfl⟩ (by kernel_rfl) (by kernel_rfl) (by kernel_rfl) (by kernel_rfl) (n := 23) (ls := [3, 7, 8, 9]) (ks := []) (mk := mk27n) (ψ := psi27n) (id := 0) ?_ ?_
  · intro u Φ h
    exact Eq.mpr (nf27ns _ _ _ _ u Φ _) h
  · intro d hd
    obtain ⟨l, x⟩ : List Int × Unit := d
    exact Eq.mpr (nf27n l _) ⟨hd, (), rfl, rfl⟩
theorem good29n : GoodC Try.prog ctr29n := by
  refine good_loop (fn := Try.f29) [3] [] (fun i : List Int => 0) wide .nil ⟨by kernel_rfl, by kernel_rfl, by kernel_rfl, by kernel_rfl⟩ (by kernel_rfl) (by kernel_rfl) (by kernel_rfl) (by kernel_rfl) (n := 44) (ls := [0, 3, 4]) (ks := []) (mk := mk29n) (ψ := psi29n) (id := 0) ?_ ?_
  · rintro l Φ ⟨h0, hΦ⟩
    refine Eq.mpr (nf29ns _ _ _ _ l Φ _) ?_
    have e1 : W.ofNat (W.len l) = (l.length : Int) := rfl
    rw [e1]
    exact brc_ilt (fun h => by omega) fun _ => hΦ
  · intro d hd
    obtain ⟨l, x⟩ : List Int × Unit := d
    exact Eq.mpr (nf29n l _) ⟨l, rfl, hd, rfl⟩
theorem goodPu : Goods Try.prog putsL := .cons good26 (.cons good27 (.cons good28o (.cons good29 (.cons good30 (.cons good31 (.cons (good22 .nil) .nil))))))
theorem goodPuN : Goods Try.prog putsN := .cons good26 (.cons good27n (.cons good28o (.cons good29n (.cons good30 (.cons good31 (.cons (good22 .nil) .nil))))))
theorem ieq_self (a : Int) : W.ieq a a = true := by simp [W.ieq]
def law8o : TCtr := lawC 8 [.l 39 (.int .u64)] (fun (d : List Int × Unit) => Sp.inU d.1 ∧ d.1.length ≠ 0)
def law8n : TCtr := lawC 8 [.l 39 (.int .u64)] (fun (d : List Int × Unit) => d.1.length = 0)
def law8 : TCtr := lawC 8 [.l 39 (.int .u64)] (fun (d : List Int × Unit) => Sp.inU d.1)
theorem good8o : GoodC Try.prog law8o := by
  refine good_plain (fn := Try.f8) wide goodPu ⟨by kernel_rfl, by kernel_rfl, by kernel_rfl, by kernel_rfl⟩ (by kernel_rfl) fun d hd => ?_
  obtain ⟨l, x⟩ : List Int × Unit := d
  obtain ⟨hu, hne⟩ : Sp.inU l ∧ l.length ≠ 0 := hd
  refine Eq.mpr (nf8 l _) ⟨trivial, ?_⟩
  have e1 : W.ofNat (W.len l) = (l.length : Int) := rfl
  rw [e1]
  refine brc_igt (fun _ => rfl) fun hl => ?_
  have hin := Sp.runs_in hu (by omega)
  have hr := Sp.runs_len l
  have he := Sp.encR_len (Sp.runs l) hin
  rw [Sp.rget_runs hu (by omega), Sp.runs_told, ieq_self]
  have hsm : Sp.same l l = true := decide_eq_true rfl
  have hsq : ∀ y, W.seq y y = true := fun y => by simp [W.seq]
  rw [hsm, hsq]
  exact ⟨⟨hu, by omega, hne⟩, ⟨⟨Sp.encR_bytes _, by omega, by omega, by omega⟩, rfl⟩, ⟨hu, by omega, hne⟩, brc_yes rfl ⟨by omega, by omega, brc_yes rfl ⟨by omega, rfl⟩⟩⟩
theorem good8n : GoodC Try.prog law8n := by
  refine good_plain (fn := Try.f8) wide goodPuN ⟨by kernel_rfl, by kernel_rfl, by kernel_rfl, by kernel_rfl⟩ (by kernel_rfl) fun d hd => ?_
  obtain ⟨l, x⟩ : List Int × Unit := d
  have h0 : l.length = 0 := hd
  have : l = [] := List.length_eq_zero_iff.1 h0
  subst this
  refine Eq.mpr (nf8n [] _) ⟨trivial, ?_⟩
  have e1 : W.ofNat (W.len ([] : List Int)) = 0 := rfl
  have hr : Sp.rget [] 0 = ([], 0, 0) := rfl
  have hsm : Sp.same (Sp.told []) [] = true := decide_eq_true rfl
  rw [e1, hr, ieq_self]
  simp only [hsm]
  refine brc_igt (fun _ => rfl) fun hl => ⟨rfl, ⟨⟨Sp.bytes_nil, by decide, by decide, by decide⟩, trivial⟩, rfl, by decide, by decide, brc_yes rfl ⟨by decide, rfl⟩⟩
theorem good8 : GoodC Try.prog law8 where
  there := good8o.there
  cells := good8o.cells
  call := fun d hp S => by
    obtain ⟨l, x⟩ : List Int × Unit := d
    by_cases h : l.length = 0
    · exact good8n.call (l, x) h S
    · exact good8o.call (l, x) ⟨hp, h⟩ S
end Go.Proofs.Ytijahjkcbphmcaa
