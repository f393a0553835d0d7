/-
  For every input the law ServeLeaves answers true, and each argument reads behind the call as it read before. Conditions: none beyond the given row. The frame around the walk is the guide's own template; the walk is a run of the fast machine for each case of the arguments.
-/
import Derived.Test.YtignlmfaoagolaaGreatRows
import Derived.WalkKit
import Derived.ProofKit
import Derived.OpenShut
import Derived.ShutString
import Derived.ChangeOld
import Derived.Below
import Derived.Lib.SmallJoins
import Derived.Test.YtignlmfaoagolaaGreatWNqZLeaves
import Derived.Test.YtignlmfaoagolaaGreatWNqYLeavesRow
namespace Go.Proofs.YtignlmfaoagolaaGreat.serveLeaves
open Go.ChangeShapes Go.WideShapes Go.ChangeAt Go.RowKit Go.FM
open Go.ChangeMaps (open_string shut_string)
open Go.Joins (open_agg4 shut_agg4)
set_option linter.unusedVariables false

theorem own : ownKnob Tryz.prog.godebug = none := by kernel_rfl
theorem laidOut : laidOutB Tryz.prog = true := by kernel_rfl

/-- WHAT THE WALK IS TOLD OF A SLICE OF INTEGERS THAT CAME IN: it is nil; or it leads to a row of 'cap' cells, the numbers 'zs' (the first 'len' are its elements, the rest its spare room), each fitting its kind. -/
def IsRow (k : IntKind) (w : World) (a : Option Addr) (len cap : Nat) (zs : List Int) : Prop :=
  (a = none ∧ len = 0 ∧ cap = 0 ∧ zs = []) ∨
  ∃ x, a = some x ∧ len ≤ cap ∧ cap ≤ maxLen ∧ zs.length = cap ∧ (∀ i, i < zs.length → w.cell? (x.add i) = some (.int k (zs.getD i 0))) ∧ ∀ n ∈ zs, (Lit.int k n).wf = true

/-! ### STEP 1: THE WALK: the Go text returns true, AND WRITES NOTHING THAT WAS THERE: 'Below w.heap.size w w'' (Derived/Below.lean: '.refl', '.alloc', '.drew', '.setCell' at a new block, '.trans'). Open each 'IsRow' by 'rcases' AHEAD of 'go_enter'; part every test ahead of the walk. -/
theorem walk (a0 f0 k0 : Int) (s0 j0 : Bool) (w : World) (w0 : (Lit.int .u8 a0).wf = true) (u0 : (Lit.int .i64 k0).wf = true) :
    Calls Tryz.prog 3 #[.int .u8 a0, .agg #[.int .i64 f0, .int .i64 k0, .bool s0, .bool j0]] w fun e w' => e = .returned (.bool true) ∧ Below w.heap.size w w' := by
  refine walk3 (wf_u8 w0) ?_ w
  simp [Lit.wf] at u0
  exact u0
theorem cells23 : Tryz.prog.cellsOf 23 = 4 := by kernel_rfl

/-! ### THE ROW's STEP: WRITTEN OUT: LEAVE IT -/
set_option maxRecDepth 100000 in
theorem lifted (os : Os) (started : os.Started) (H : Type) (enc : TypeId × Value → H) :
    ReturnsInHanded {} Tryz.checked os 3 .any (Rows.serveLeavesSpec.pre6 enc Tryz.prog Tryz.f3 Rows.serveLeavesRow.domain false) (Rows.serveLeavesSpec.post enc Tryz.prog Tryz.f3 false true false false) := by
  refine returnsInHanded_of_change (C := Tryz.checked) own started (by kernel_rfl) Tryz.func3
    (ChangeSpec.witness6 (enc := enc) (C := Tryz.checked) false ⟨#[], #[.int .u8 0, .agg #[.int .i64 0, .int .i64 0, .bool false, .bool false]], []⟩ 8 (by kernel_rfl) (by kernel_rfl) (by kernel_rfl) (by kernel_rfl)) ?_
  intro W base args ds gs before hval0 hW hcnd _
  have hval : ∀ (j : Nat) t v, Tryz.f3.params[j]? = some t → args[j]? = some v → Value.okWide Tryz.prog W .any base t v := hval0
  have hW' := hW
  obtain ⟨p, q, hA0, hV, rfl, hfz, hnd⟩ := hW
  have hA : DataW.TrodAll enc Tryz.prog W 0 (fun _ => true) true Tryz.f3.params.toList args.toList ds p := hA0
  rw [Tryz.params3] at hA hval
  obtain ⟨v0, vs0, d0, ds0, p0, q0, hargs, rfl, rfl, h0, r0⟩ := trodAll_cons hA
  obtain ⟨v1, vs1, d1, ds1, p1, q1, rfl, rfl, rfl, h1, r1⟩ := trodAll_cons r0
  obtain ⟨rfl, rfl, rfl⟩ := trodAll_nil r1
  obtain rfl : args = #[v0, v1] := by cases args; simp_all
  obtain ⟨rfl, rfl⟩ := trodVars_none hV
  obtain ⟨a0, rfl, rfl, rfl, w0⟩ := open_int Tryz.underlying5 (hval 0 5 v0 rfl rfl) h0
  obtain ⟨e0, e1, e2, e3, y0, y1, y2, y3, m0, rfl, rfl, rfl, hy0, hy1, hy2, hy3⟩ := open_agg4 Tryz.underlying23 (by kernel_rfl) cells23 (hval 1 23 v1 rfl rfl) h1
  obtain ⟨f0, k0, rfl, wf0⟩ := DataW.trod_int Tryz.underlying3 hy0
  obtain ⟨n0, k1, rfl, wn0⟩ := DataW.trod_int Tryz.underlying3 hy1
  obtain ⟨s0, k2, rfl⟩ := DataW.trod_bool Tryz.underlying4 hy2
  obtain ⟨j0, k3, rfl⟩ := DataW.trod_bool Tryz.underlying4 hy3
  simp at k0 k1 k2 k3
  subst k0 k1 k2 k3
  clear hA0 hval0
  have four : ∀ {W' : World} {sp : Nat → Bool} {a b : Int} {c d : Bool}, (Lit.int .i64 a).wf = true → (Lit.int .i64 b).wf = true → DataW.Trod enc Tryz.prog W' 0 sp true 23 (.agg #[.int .i64 a, .int .i64 b, .bool c, .bool d]) (.agg [.lit (.int .i64 a), .lit (.int .i64 b), .lit (.bool c), .lit (.bool d)]) ([] ++ ([] ++ ([] ++ []))) := fun {W' sp a b c d} wa wb =>
    shut_agg4 (y0 := (.lit (.int .i64 a), [])) (y1 := (.lit (.int .i64 b), [])) (y2 := (.lit (.bool c), [])) (y3 := (.lit (.bool d), [])) Tryz.underlying23 (by kernel_rfl) cells23 ⟨1, by simp [DataW.trod, Tryz.underlying3, wa]⟩ ⟨1, by simp [DataW.trod, Tryz.underlying3, wb]⟩ ⟨1, by simp [DataW.trod, Tryz.underlying4]⟩ ⟨1, by simp [DataW.trod, Tryz.underlying4]⟩
  refine (walk a0 f0 n0 s0 j0 W w0 wn0).mono fun e W' ⟨he, bel⟩ => ?_
  subst he
  exact ⟨_, rfl, _, _, _, [], _, [], hW', trodAll_mk1 (shut_bool Tryz.underlying4 _), (trodAll_cons_mk (shut_int Tryz.underlying5 w0) (trodAll_cons_mk (four wf0 wn0) trodAll_mk0)), rfl, bel.frame _, fun h => by cases h⟩

set_option maxRecDepth 100000
theorem over : Rows.serveLeavesRow.holds Tryz.pinned (OpenSpec.ofChange Rows.serveLeavesSpec) :=
  OpenClaim.holds_of_wide 3 Tryz.f3 rfl rfl rfl rfl rfl rfl rfl ⟨rfl, rfl, rfl, rfl, rfl⟩ rfl rfl rfl rfl rfl hnamed Tryz.func3 hclosed
    (of_decide_eq_true (by kernel_rfl)) (by unfold Func.isWrapper; first | (rw [if_pos (by decide +kernel)]; kernel_rfl) | (rw [if_neg (by decide +kernel)]; exact ⟨rfl, rfl⟩))
    (fun os started H enc _ => lifted os started H enc)

/-- ████ THE STATEMENT ████ -/
theorem proved : Rows.ServeLeavesSaid := over
#print axioms proved
end Go.Proofs.YtignlmfaoagolaaGreat.serveLeaves
