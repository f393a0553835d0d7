/-
  Texts of a proof over the translated program: NyD.
-/
import Derived.Test.YtcogajgikmcfpaaGreatDoorQNyB
import Derived.Test.YtcogajgikmcfpaaGreatDoorQNyK
import Derived.Test.YtcogajgikmcfpaaGreatDoorQNyC0
import Derived.Test.YtcogajgikmcfpaaGreatDoorQNyC1
import Derived.Test.YtcogajgikmcfpaaGreatDoorQNyC2
import Derived.Test.YtcogajgikmcfpaaGreatDoorQNyC3
import Derived.Test.YtcogajgikmcfpaaGreatDoorQNyC4
import Derived.Test.YtcogajgikmcfpaaGreatDoorQNyC5
set_option linter.unusedVariables false
set_option linter.unusedSimpArgs false
set_option linter.unusedSectionVars false
set_option maxRecDepth 100000
namespace Go.Proofs.YtcogajgikmcfpaaGreatDoor
open Go.FM
open Go.RowKit (Below)
section
variable [Env]
theorem trueY (ht : ∀ w, Kept w → TabY w) : HookOk Tryz.prog 6 5 trueH := by
  intro args h0 c v h' c' he hv
  unfold trueH at he
  split at he
  · simp only [CR.ok.injEq] at he
    obtain ⟨rfl, rfl, rfl⟩ := he
    refine ⟨body5, CallT.still (v0 := .bool true) (fun g => rfl) fun w g vs hi ha => ?_⟩
    have : vs = [] := List.length_eq_zero_iff.1 ha.1
    subst this
    exact (law_fastY mixedY (extB_ok ht) known5 (vs := []) args_nil w hi.kept).2
  · cases he
theorem extC_ok (ht : ∀ w, Kept w → TabY w) : ExtOk Tryz.prog 6 extC := by
  intro f q h
  unfold extC at h
  cases h5 : Nat.beq f 5 with
  | true =>
    rw [h5] at h
    have := Nat.eq_of_beq_eq_true h5
    subst this
    simp only [Option.some.injEq] at h; subst h
    exact trueY ht
  | false =>
    rw [h5] at h
    exact extB_ok ht f q h
end
theorem case3 : ∀ (r : Nat) (b : Bool), r < 12 → runC [.md .u8 12 r, .bool b] = true
  | 0, true, _ => c0_true
  | 0, false, _ => c0_false
  | 1, true, _ => c1_true
  | 1, false, _ => c1_false
  | 2, true, _ => c2_true
  | 2, false, _ => c2_false
  | 3, true, _ => c3_true
  | 3, false, _ => c3_false
  | 4, true, _ => c4_true
  | 4, false, _ => c4_false
  | 5, true, _ => c5_true
  | 5, false, _ => c5_false
  | 6, true, _ => c6_true
  | 6, false, _ => c6_false
  | 7, true, _ => c7_true
  | 7, false, _ => c7_false
  | 8, true, _ => c8_true
  | 8, false, _ => c8_false
  | 9, true, _ => c9_true
  | 9, false, _ => c9_false
  | 10, true, _ => c10_true
  | 10, false, _ => c10_false
  | 11, true, _ => c11_true
  | 11, false, _ => c11_false
  | n + 12, _, h => by omega
theorem tab_of {W w : World} (h : TabY W) (hk : ∀ b o, (if b < W.heap.size then W.heap[b]? else none) = some o → w.heap[b]? = some o) : TabY w := by
  unfold TabY Lib.TabIs at *
  unfold World.var? at *
  cases hg : Tryz.prog.globalNamed "internal/strconv.uint64pow10" with
  | none => simp [hg] at h
  | some g =>
    simp only [hg, Option.bind_some] at h ⊢
    have hlt : g < W.heap.size := by
      rcases Nat.lt_or_ge g W.heap.size with h1 | h1
      · exact h1
      · simp [Array.getElem?_eq_none h1] at h
    have : w.heap[g]? = W.heap[g]? := by
      rw [Array.getElem?_eq_getElem hlt]
      exact hk g _ (by rw [if_pos hlt, Array.getElem?_eq_getElem hlt])
    rw [this]
    exact h
theorem deepZ (a : Int) (b : Bool) (W : World) (hT : TabY W) (ha : (Lit.int .u8 a).wf = true) :
    Calls Tryz.prog 3 #[.int .u8 a, .bool b] W fun e w' => e = .returned (.bool true) ∧ Below W.heap.size W w' := by
  let E : Env := ⟨0, fun _ => 0, fun i j _ h => absurd h (Nat.not_lt_zero _), fun b => if b < W.heap.size then W.heap[b]? else none⟩
  have ht : ∀ w, @Kept E w → TabY w := fun w hk => tab_of hT fun b o h => hk b o h
  have hk : @Kept E W := fun b o h => by
    have h : (if b < W.heap.size then W.heap[b]? else none) = some o := h
    split at h
    · exact h
    · cases h
  have hu := wf_u8 ha
  have hr := case3 (a.toNat % 12) b (Nat.mod_lt _ (by decide))
  exact (@law_fastY E _ _ _ _ _ _ _ mixedY (@extC_ok E ht) hr [.int .u8 a, .bool b] (@args_cons E _ _ _ _ _ _ (@arg_md E _ _ _ _ _ hu.1 (by show a ≤ 255; omega)) (@args_cons E _ _ _ _ _ _ (@arg_bool E _ _ _) (@args_nil E _ _))) W hk).2
end Go.Proofs.YtcogajgikmcfpaaGreatDoor
