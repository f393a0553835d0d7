/-
  Texts of a proof over the translated program: NpClone.
-/
import Derived.Test.YtbfeilpjkcmfhaaNpCloneNf
set_option linter.unusedVariables false
namespace Go.Proofs.Ytbfeilpjkcmfhaa
open Go.AbsM
theorem good34o : GoodC Try.prog ctr34o := by
  refine good_plain (fn := Try.f34) wide .nil ⟨by kernel_rfl, by kernel_rfl, by kernel_rfl, by kernel_rfl⟩ (by kernel_rfl) fun d hd => Blk.un ?_
  obtain ⟨b, x⟩ : List Int × Unit := d
  obtain ⟨h1, h2⟩ : b ≠ [] ∧ b.length < 1000000 := hd
  refine Blk.nf (nf34 b _) ?_
  have e1 : W.bnot (W.none b) = true := by
    cases b with
    | nil => exact absurd rfl h1
    | cons a r => rfl
  refine grd_true e1 (grd_nle (by simp only [W.nmul, W.nadd, W.len]; omega) ?_)
  rfl
noncomputable def envC : Env := envN Try.prog (fun _ _ => false)
noncomputable def bC : Code := bodyOf Try.f34
def slC0 : List AV := [.sl 5 [], .und, .nils, .und, .und, .und, .und, .und]
def slC1 : List AV := [.sl 5 [], .und, .nils, .sl 5 [], .und, .und, .und, .und]
theorem call34 (S : List Store) : CallC Try.prog 34 [.sl 5 []] S S (.sl 5 []) :=
  clone_empty (n := 20) (E := envC) (fn := Try.f34) (e := 5) (T := 22) (e' := 5) (R0 := seqL bC) (C := seqR (seqL (seqR bC))) (K := seqR (seqR bC)) (i1 := regId (seqL (seqL (seqR bC)))) (o1 := regOp (seqL (seqL (seqR bC))) 0) (o2 := regOp (seqL (seqL (seqR bC))) 1) (x := .tmp 3) (ty := 22) (sl0 := slC0) (sl1 := slC1) (d := 4)
    (s3 := fun S => stOf (Go.AbsM.runN Try.prog envC 20 (.code (seqR (seqL (seqR bC)))) ⟨slC1.set 4 (.x (.bool true)), [] :: S⟩))
    (s4 := fun S => stOf (Go.AbsM.runN Try.prog envC 20 (.code (seqR (seqL (seqR bC)))) ⟨slC1.set 4 (.x (.bool false)), [] :: S⟩))
    (s5 := fun S => stOf (Go.AbsM.runN Try.prog envC 20 (.code (seqR (seqR bC))) (stOf (Go.AbsM.runN Try.prog envC 20 (.code (seqR (seqL (seqR bC)))) ⟨slC1.set 4 (.x (.bool false)), [] :: S⟩))))
    (envN_ok Try.prog _ wide) (by kernel_rfl) (by kernel_rfl) (of_decide_eq_true (by kernel_rfl)) (by kernel_rfl) (fun S => by kernel_rfl) (by kernel_rfl) (by kernel_rfl) (fun S => by kernel_rfl) (by kernel_rfl) (by kernel_rfl) (by kernel_rfl) (fun S => by kernel_rfl)
    (fun S => by kernel_rfl) (fun S => by kernel_rfl) (fun S => by kernel_rfl) (fun S => by kernel_rfl) (fun S => by kernel_rfl) S

def ctr34 : TCtr where
  f := 34
  sig := [.l 5 (.int .u8)]
  pre := fun (d : List Int × Unit) => d.1.length < 1000000
  out := fun (d : List Int × Unit) => if d.1.length = 0 then TV.l 5 (.int .u8) [] else .o (.own 5 (.int .u8) d.1)
  outK := fun (d : List Int × Unit) K => (d.1.length = 0 → K (TV.l 5 (.int .u8) [])) ∧ (d.1.length ≠ 0 → K (.o (.own 5 (.int .u8) d.1)))
  outK_ok := fun (d : List Int × Unit) K h => by
    show K (if d.1.length = 0 then _ else _)
    split
    · exact h.1 (by assumption)
    · exact h.2 (by assumption)
  outOk := fun (d : List Int × Unit) => by
    show TV.outOk (if d.1.length = 0 then _ else _) = true
    split <;> rfl
theorem good34 : GoodC Try.prog ctr34 where
  there := good34o.there
  cells := good34o.cells
  call := fun d hp S => by
    obtain ⟨b, x⟩ : List Int × Unit := d
    have hp : b.length < 1000000 := hp
    by_cases h : b.length = 0
    · have e : ctr34.out (b, x) = TV.l 5 (.int .u8) [] := if_pos h
      have hb : b = [] := List.length_eq_zero_iff.1 h
      subst hb
      exact Eq.mpr (congrArg (fun y => CallC Try.prog ctr34.f ((t1s ctr34.sig (([] : List Int), x)).map (T1.emb [])) S S y) (congrArg (TV.emb []) e)) (call34 S)
    · have e : ctr34.out (b, x) = .o (.own 5 (.int .u8) b) := if_neg h
      exact Eq.mpr (congrArg (fun y => CallC Try.prog ctr34.f ((t1s ctr34.sig (b, x)).map (T1.emb [])) S S y) (congrArg (TV.emb []) e)) (good34o.call (b, x) ⟨fun h' : b = [] => h (by rw [h']; rfl), hp⟩ S)
end Go.Proofs.Ytbfeilpjkcmfhaa
