/-
  Texts of a proof over the translated program: NqDdB.
-/
import Derived.Test.YtignlmfaoagolaaGreatDNqZB
import Derived.Test.YtignlmfaoagolaaGreatDNqZK28
import Derived.Test.YtignlmfaoagolaaGreatDNqDdG
import Derived.Test.YtignlmfaoagolaaGreatDNqDdH
import Derived.Test.YtignlmfaoagolaaGreatDNqDdI
import Derived.Test.YtignlmfaoagolaaGreatDNqDdf0
import Derived.Test.YtignlmfaoagolaaGreatDNqDdf1
import Derived.Test.YtignlmfaoagolaaGreatDNqDdf2
import Derived.Test.YtignlmfaoagolaaGreatDNqDdf3
import Derived.Test.YtignlmfaoagolaaGreatDNqDdf4
import Derived.Test.YtignlmfaoagolaaGreatDNqDdf5
import Derived.Test.YtignlmfaoagolaaGreatDNqDdf6
import Derived.Test.YtignlmfaoagolaaGreatDNqDds0
import Derived.Test.YtignlmfaoagolaaGreatDNqDds1
import Derived.Test.YtignlmfaoagolaaGreatDNqDds2
import Derived.Test.YtignlmfaoagolaaGreatDNqDds3
import Derived.Test.YtignlmfaoagolaaGreatDNqDds4
import Derived.Test.YtignlmfaoagolaaGreatDNqDds5
import Derived.Test.YtignlmfaoagolaaGreatDNqDds6
import Derived.Test.YtignlmfaoagolaaGreatDNqDds7
import Derived.Test.YtignlmfaoagolaaGreatDNqDdc0
import Derived.Test.YtignlmfaoagolaaGreatDNqDdc1
import Derived.Test.YtignlmfaoagolaaGreatDNqDdc2
import Derived.Test.YtignlmfaoagolaaGreatDNqDdc3
import Derived.Test.YtignlmfaoagolaaGreatDNqDdc4
import Derived.Test.YtignlmfaoagolaaGreatDNqDdc5
import Derived.Test.YtignlmfaoagolaaGreatDNqDdc6
import Derived.Test.YtignlmfaoagolaaGreatDNqDdc7
set_option linter.unusedVariables false
set_option linter.unusedSimpArgs false
set_option linter.unusedSectionVars false
set_option maxRecDepth 100000
namespace Go.Proofs.YtignlmfaoagolaaGreat
open Go.FM
theorem fgetL_hooks : HookOk Tryz.prog 6 287 (toldsH 6 Dd.fgetL) := toldsH_ok fun t ht => by
  simp only [Dd.fgetL, List.mem_cons, List.not_mem_nil, or_false] at ht
  rcases ht with rfl | rfl | rfl | rfl | rfl | rfl | rfl | rfl
  · exact toldH_ok mixed ext0_ok fget0_ok
  · exact toldH_ok mixed ext0_ok fget1_ok
  · exact toldH_ok mixed ext0_ok fget2_ok
  · exact toldH_ok mixed ext0_ok fget3_ok
  · exact toldH_ok mixed ext0_ok fget4_ok
  · exact toldH_ok mixed ext0_ok fget5_ok
  · exact toldH_ok mixed ext0_ok fget6_ok
  · exact toldH_ok mixed ext0_ok fget7_ok
theorem extF_ok : ExtOk Tryz.prog 6 extF := by
  intro f q h
  unfold extF at h
  cases h287 : Nat.beq f 287 with
  | true =>
    rw [h287] at h
    have := Nat.eq_of_beq_eq_true h287
    subst this
    simp only [Option.some.injEq] at h; subst h
    exact fgetL_hooks
  | false =>
    rw [h287] at h
    exact ext0_ok f q h
theorem finL_hooks : HookOk Tryz.prog 6 85 (toldsH 6 Dd.finL) := toldsH_ok fun t ht => by
  simp only [Dd.finL, List.mem_cons, List.not_mem_nil, or_false] at ht
  rcases ht with rfl | rfl | rfl | rfl | rfl | rfl | rfl
  · exact toldH_ok mixed ext0_ok fin0_ok
  · exact toldH_ok mixed ext0_ok fin1_ok
  · exact toldH_ok mixed ext0_ok fin2_ok
  · exact toldH_ok mixed ext0_ok fin3_ok
  · exact toldH_ok mixed ext0_ok fin4_ok
  · exact toldH_ok mixed ext0_ok fin5_ok
  · exact toldH_ok mixed ext0_ok fin6_ok
theorem startL_hooks : HookOk Tryz.prog 6 57 (toldsH 6 Dd.startL) := toldsH_ok fun t ht => by
  simp only [Dd.startL, List.mem_cons, List.not_mem_nil, or_false] at ht
  rcases ht with rfl | rfl | rfl | rfl | rfl | rfl | rfl | rfl
  · exact toldH_ok mixed extF_ok start0_ok
  · exact toldH_ok mixed extF_ok start1_ok
  · exact toldH_ok mixed extF_ok start2_ok
  · exact toldH_ok mixed extF_ok start3_ok
  · exact toldH_ok mixed extF_ok start4_ok
  · exact toldH_ok mixed extF_ok start5_ok
  · exact toldH_ok mixed extF_ok start6_ok
  · exact toldH_ok mixed extF_ok start7_ok
theorem extD_ok : ExtOk Tryz.prog 6 extD := by
  intro f q h
  unfold extD at h
  cases h33 : Nat.beq f 33 with
  | true =>
    rw [h33] at h
    have := Nat.eq_of_beq_eq_true h33
    subst this
    simp only [Option.some.injEq] at h; subst h
    exact (trueX_ok fun w => @law_fast noEnv _ _ _ _ _ _ _ mixed (@ext0_ok noEnv) known33 _ (@args_nil noEnv _ _) w (fun _ _ h => by cases h))
  | false =>
    rw [h33] at h
    cases h85 : Nat.beq f 85 with
    | true =>
      rw [h85] at h
      have := Nat.eq_of_beq_eq_true h85
      subst this
      simp only [Option.some.injEq] at h; subst h
      exact finL_hooks
    | false =>
      rw [h85] at h
      cases h57 : Nat.beq f 57 with
      | true =>
        rw [h57] at h
        have := Nat.eq_of_beq_eq_true h57
        subst this
        simp only [Option.some.injEq] at h; subst h
        exact startL_hooks
      | false =>
        rw [h57] at h
        exact ext0_ok f q h
theorem case7 : ∀ (r : Nat) (b : Bool), r < 8 → runD [.md .u8 8 r, .bool b] = true
  | 0, true, _ => d0_true
  | 0, false, _ => d0_false
  | 1, true, _ => d1_true
  | 1, false, _ => d1_false
  | 2, true, _ => d2_true
  | 2, false, _ => d2_false
  | 3, true, _ => d3_true
  | 3, false, _ => d3_false
  | 4, true, _ => d4_true
  | 4, false, _ => d4_false
  | 5, true, _ => d5_true
  | 5, false, _ => d5_false
  | 6, true, _ => d6_true
  | 6, false, _ => d6_false
  | 7, true, _ => d7_true
  | 7, false, _ => d7_false
  | n + 8, _, h => by omega
theorem walk7 {a : Int} {b : Bool} (ha : 0 ≤ a ∧ a < 256) (w : World) :
    Calls Tryz.prog 7 #[.int .u8 a, .bool b] w fun e w' => e = .returned (.bool true) ∧ Go.RowKit.Below w.heap.size w w' := by
  have hr := case7 (a.toNat % 8) b (Nat.mod_lt _ (by decide))
  exact (law_fast mixed extD_ok hr (vs := [.int .u8 a, .bool b]) (args_cons (arg_md ha.1 (by show a ≤ 255; omega)) (args_cons arg_bool args_nil)) w).2
end Go.Proofs.YtignlmfaoagolaaGreat
