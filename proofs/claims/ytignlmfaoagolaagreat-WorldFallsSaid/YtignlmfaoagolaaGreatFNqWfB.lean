/-
  Texts of a proof over the translated program: NqWfB.
-/
import Derived.Test.YtignlmfaoagolaaGreatFNqZB
import Derived.Test.YtignlmfaoagolaaGreatFNqZK27
import Derived.Test.YtignlmfaoagolaaGreatFNqWfF
import Derived.Test.YtignlmfaoagolaaGreatFNqWfS
import Derived.Test.YtignlmfaoagolaaGreatFNqWfG
import Derived.Test.YtignlmfaoagolaaGreatFNqWfc0
import Derived.Test.YtignlmfaoagolaaGreatFNqWfc1
import Derived.Test.YtignlmfaoagolaaGreatFNqWfc2
import Derived.Test.YtignlmfaoagolaaGreatFNqWfc3
import Derived.Test.YtignlmfaoagolaaGreatFNqWfc4
import Derived.Test.YtignlmfaoagolaaGreatFNqWfc5
import Derived.Test.YtignlmfaoagolaaGreatFNqWfc6
import Derived.Test.YtignlmfaoagolaaGreatFNqWfc7
import Derived.Test.YtignlmfaoagolaaGreatFNqWfc8
import Derived.Test.YtignlmfaoagolaaGreatFNqWfc9
import Derived.Test.YtignlmfaoagolaaGreatFNqWfc10
import Derived.Test.YtignlmfaoagolaaGreatFNqWfc11
import Derived.Test.YtignlmfaoagolaaGreatFNqWfc12
import Derived.Test.YtignlmfaoagolaaGreatFNqWfc13
import Derived.Test.YtignlmfaoagolaaGreatFNqWfc14
import Derived.Test.YtignlmfaoagolaaGreatFNqWfc15
import Derived.Test.YtignlmfaoagolaaGreatFNqWfc16
import Derived.Test.YtignlmfaoagolaaGreatFNqWfc17
import Derived.Test.YtignlmfaoagolaaGreatFNqWfc18
set_option linter.unusedVariables false
set_option linter.unusedSimpArgs false
set_option linter.unusedSectionVars false
set_option maxRecDepth 100000
namespace Go.Proofs.YtignlmfaoagolaaGreat
open Go.FM
theorem finL_hooks : HookOk Tryz.prog 6 85 (toldsH 6 Wf.finL) := toldsH_ok fun t ht => by
  simp only [Wf.finL, List.mem_cons, List.not_mem_nil, or_false] at ht
  rcases ht with rfl | rfl | rfl
  · exact toldH_ok mixed ext0_ok fin0_ok
  · exact toldH_ok mixed ext0_ok fin1_ok
  · exact toldH_ok mixed ext0_ok fin2_ok
theorem stL_hooks : HookOk Tryz.prog 6 18 (toldsH 6 Wf.stL) := toldsH_ok fun t ht => by
  simp only [Wf.stL, List.mem_cons, List.not_mem_nil, or_false] at ht
  rcases ht with rfl | rfl | rfl | rfl
  · exact toldH_ok mixed ext0_ok st0_ok
  · exact toldH_ok mixed ext0_ok st1_ok
  · exact toldH_ok mixed ext0_ok st2_ok
  · exact toldH_ok mixed ext0_ok st3_ok
theorem fgetL_hooks : HookOk Tryz.prog 6 287 (toldsH 6 Wf.fgetL) := toldsH_ok fun t ht => by
  simp only [Wf.fgetL, List.mem_cons, List.not_mem_nil, or_false] at ht
  rcases ht with rfl | rfl | rfl | rfl | rfl
  · exact toldH_ok mixed ext0_ok fget0_ok
  · exact toldH_ok mixed ext0_ok fget1_ok
  · exact toldH_ok mixed ext0_ok fget2_ok
  · exact toldH_ok mixed ext0_ok fget3_ok
  · exact toldH_ok mixed ext0_ok fget4_ok
theorem extW_ok : ExtOk Tryz.prog 6 extW := by
  intro f q h
  unfold extW at h
  cases h24 : Nat.beq f 24 with
  | true =>
    rw [h24] at h
    have := Nat.eq_of_beq_eq_true h24
    subst this
    simp only [Option.some.injEq] at h; subst h
    exact (trueX_ok fun w => @law_fast noEnv _ _ _ _ _ _ _ mixed (@ext0_ok noEnv) known24 _ (@args_nil noEnv _ _) w (fun _ _ h => by cases h))
  | false =>
    rw [h24] at h
    cases h85 : Nat.beq f 85 with
    | true =>
      rw [h85] at h
      have := Nat.eq_of_beq_eq_true h85
      subst this
      simp only [Option.some.injEq] at h; subst h
      exact finL_hooks
    | false =>
      rw [h85] at h
      cases h18 : Nat.beq f 18 with
      | true =>
        rw [h18] at h
        have := Nat.eq_of_beq_eq_true h18
        subst this
        simp only [Option.some.injEq] at h; subst h
        exact stL_hooks
      | false =>
        rw [h18] at h
        cases h287 : Nat.beq f 287 with
        | true =>
          rw [h287] at h
          have := Nat.eq_of_beq_eq_true h287
          subst this
          simp only [Option.some.injEq] at h; subst h
          exact fgetL_hooks
        | false =>
          rw [h287] at h
          exact ext0_ok f q h
theorem row0_0 : ∀ r : Nat, r < 1 → runW [.md .u8 8 0, .md .u8 1 r, .md .u8 4 0] = true
  | 0, _ => w0_0_0
  | r + 1, h => by omega
theorem row0_1 : ∀ r : Nat, r < 1 → runW [.md .u8 8 0, .md .u8 1 r, .md .u8 4 1] = true
  | 0, _ => w1_0_0
  | r + 1, h => by omega
theorem row0_2 : ∀ r : Nat, r < 1 → runW [.md .u8 8 0, .md .u8 1 r, .md .u8 4 2] = true
  | 0, _ => w2_0_0
  | r + 1, h => by omega
theorem row0_3 : ∀ r : Nat, r < 1 → runW [.md .u8 8 0, .md .u8 1 r, .md .u8 4 3] = true
  | 0, _ => w3_0_0
  | r + 1, h => by omega
theorem row1_0 : ∀ r : Nat, r < 1 → runW [.md .u8 8 1, .md .u8 1 r, .md .u8 4 0] = true
  | 0, _ => w0_1_0
  | r + 1, h => by omega
theorem row1_1 : ∀ r : Nat, r < 1 → runW [.md .u8 8 1, .md .u8 1 r, .md .u8 4 1] = true
  | 0, _ => w1_1_0
  | r + 1, h => by omega
theorem row1_2 : ∀ r : Nat, r < 1 → runW [.md .u8 8 1, .md .u8 1 r, .md .u8 4 2] = true
  | 0, _ => w2_1_0
  | r + 1, h => by omega
theorem row1_3 : ∀ r : Nat, r < 1 → runW [.md .u8 8 1, .md .u8 1 r, .md .u8 4 3] = true
  | 0, _ => w3_1_0
  | r + 1, h => by omega
theorem row2_0 : ∀ r : Nat, r < 8 → runW [.md .u8 8 2, .md .u8 8 r, .md .u8 4 0] = true
  | 0, _ => w0_2_0
  | 1, _ => w0_2_1
  | 2, _ => w0_2_2
  | 3, _ => w0_2_3
  | 4, _ => w0_2_4
  | 5, _ => w0_2_5
  | 6, _ => w0_2_6
  | 7, _ => w0_2_7
  | r + 8, h => by omega
theorem row2_1 : ∀ r : Nat, r < 8 → runW [.md .u8 8 2, .md .u8 8 r, .md .u8 4 1] = true
  | 0, _ => w1_2_0
  | 1, _ => w1_2_1
  | 2, _ => w1_2_2
  | 3, _ => w1_2_3
  | 4, _ => w1_2_4
  | 5, _ => w1_2_5
  | 6, _ => w1_2_6
  | 7, _ => w1_2_7
  | r + 8, h => by omega
theorem row2_2 : ∀ r : Nat, r < 8 → runW [.md .u8 8 2, .md .u8 8 r, .md .u8 4 2] = true
  | 0, _ => w2_2_0
  | 1, _ => w2_2_1
  | 2, _ => w2_2_2
  | 3, _ => w2_2_3
  | 4, _ => w2_2_4
  | 5, _ => w2_2_5
  | 6, _ => w2_2_6
  | 7, _ => w2_2_7
  | r + 8, h => by omega
theorem row2_3 : ∀ r : Nat, r < 8 → runW [.md .u8 8 2, .md .u8 8 r, .md .u8 4 3] = true
  | 0, _ => w3_2_0
  | 1, _ => w3_2_1
  | 2, _ => w3_2_2
  | 3, _ => w3_2_3
  | 4, _ => w3_2_4
  | 5, _ => w3_2_5
  | 6, _ => w3_2_6
  | 7, _ => w3_2_7
  | r + 8, h => by omega
theorem row3_0 : ∀ r : Nat, r < 1 → runW [.md .u8 8 3, .md .u8 1 r, .md .u8 4 0] = true
  | 0, _ => w0_3_0
  | r + 1, h => by omega
theorem row3_1 : ∀ r : Nat, r < 1 → runW [.md .u8 8 3, .md .u8 1 r, .md .u8 4 1] = true
  | 0, _ => w1_3_0
  | r + 1, h => by omega
theorem row3_2 : ∀ r : Nat, r < 1 → runW [.md .u8 8 3, .md .u8 1 r, .md .u8 4 2] = true
  | 0, _ => w2_3_0
  | r + 1, h => by omega
theorem row3_3 : ∀ r : Nat, r < 1 → runW [.md .u8 8 3, .md .u8 1 r, .md .u8 4 3] = true
  | 0, _ => w3_3_0
  | r + 1, h => by omega
theorem row4_0 : ∀ r : Nat, r < 2 → runW [.md .u8 8 4, .md .u8 2 r, .md .u8 4 0] = true
  | 0, _ => w0_4_0
  | 1, _ => w0_4_1
  | r + 2, h => by omega
theorem row4_1 : ∀ r : Nat, r < 4 → runW [.md .u8 8 4, .md .u8 4 r, .md .u8 4 1] = true
  | 0, _ => w1_4_0
  | 1, _ => w1_4_1
  | 2, _ => w1_4_2
  | 3, _ => w1_4_3
  | r + 4, h => by omega
theorem row4_2 : ∀ r : Nat, r < 4 → runW [.md .u8 8 4, .md .u8 4 r, .md .u8 4 2] = true
  | 0, _ => w2_4_0
  | 1, _ => w2_4_1
  | 2, _ => w2_4_2
  | 3, _ => w2_4_3
  | r + 4, h => by omega
theorem row4_3 : ∀ r : Nat, r < 4 → runW [.md .u8 8 4, .md .u8 4 r, .md .u8 4 3] = true
  | 0, _ => w3_4_0
  | 1, _ => w3_4_1
  | 2, _ => w3_4_2
  | 3, _ => w3_4_3
  | r + 4, h => by omega
theorem row5_0 : ∀ r : Nat, r < 1 → runW [.md .u8 8 5, .md .u8 1 r, .md .u8 4 0] = true
  | 0, _ => w0_5_0
  | r + 1, h => by omega
theorem row5_1 : ∀ r : Nat, r < 1 → runW [.md .u8 8 5, .md .u8 1 r, .md .u8 4 1] = true
  | 0, _ => w1_5_0
  | r + 1, h => by omega
theorem row5_2 : ∀ r : Nat, r < 1 → runW [.md .u8 8 5, .md .u8 1 r, .md .u8 4 2] = true
  | 0, _ => w2_5_0
  | r + 1, h => by omega
theorem row5_3 : ∀ r : Nat, r < 1 → runW [.md .u8 8 5, .md .u8 1 r, .md .u8 4 3] = true
  | 0, _ => w3_5_0
  | r + 1, h => by omega
theorem row6_0 : ∀ r : Nat, r < 2 → runW [.md .u8 8 6, .md .u8 2 r, .md .u8 4 0] = true
  | 0, _ => w0_6_0
  | 1, _ => w0_6_1
  | r + 2, h => by omega
theorem row6_1 : ∀ r : Nat, r < 2 → runW [.md .u8 8 6, .md .u8 2 r, .md .u8 4 1] = true
  | 0, _ => w1_6_0
  | 1, _ => w1_6_1
  | r + 2, h => by omega
theorem row6_2 : ∀ r : Nat, r < 2 → runW [.md .u8 8 6, .md .u8 2 r, .md .u8 4 2] = true
  | 0, _ => w2_6_0
  | 1, _ => w2_6_1
  | r + 2, h => by omega
theorem row6_3 : ∀ r : Nat, r < 2 → runW [.md .u8 8 6, .md .u8 2 r, .md .u8 4 3] = true
  | 0, _ => w3_6_0
  | 1, _ => w3_6_1
  | r + 2, h => by omega
theorem row7_0 : ∀ r : Nat, r < 1 → runW [.md .u8 8 7, .md .u8 1 r, .md .u8 4 0] = true
  | 0, _ => w0_7_0
  | r + 1, h => by omega
theorem row7_1 : ∀ r : Nat, r < 1 → runW [.md .u8 8 7, .md .u8 1 r, .md .u8 4 1] = true
  | 0, _ => w1_7_0
  | r + 1, h => by omega
theorem row7_2 : ∀ r : Nat, r < 1 → runW [.md .u8 8 7, .md .u8 1 r, .md .u8 4 2] = true
  | 0, _ => w2_7_0
  | r + 1, h => by omega
theorem row7_3 : ∀ r : Nat, r < 1 → runW [.md .u8 8 7, .md .u8 1 r, .md .u8 4 3] = true
  | 0, _ => w3_7_0
  | r + 1, h => by omega
theorem all5 : ∀ k n q : Nat, k < 8 → n < 4 → ∃ m, runW [.md .u8 8 k, .md .u8 m (q % m), .md .u8 4 n] = true
  | 0, 0, q, _, _ => ⟨1, row0_0 (q % 1) (Nat.mod_lt _ (by decide))⟩
  | 0, 1, q, _, _ => ⟨1, row0_1 (q % 1) (Nat.mod_lt _ (by decide))⟩
  | 0, 2, q, _, _ => ⟨1, row0_2 (q % 1) (Nat.mod_lt _ (by decide))⟩
  | 0, 3, q, _, _ => ⟨1, row0_3 (q % 1) (Nat.mod_lt _ (by decide))⟩
  | 1, 0, q, _, _ => ⟨1, row1_0 (q % 1) (Nat.mod_lt _ (by decide))⟩
  | 1, 1, q, _, _ => ⟨1, row1_1 (q % 1) (Nat.mod_lt _ (by decide))⟩
  | 1, 2, q, _, _ => ⟨1, row1_2 (q % 1) (Nat.mod_lt _ (by decide))⟩
  | 1, 3, q, _, _ => ⟨1, row1_3 (q % 1) (Nat.mod_lt _ (by decide))⟩
  | 2, 0, q, _, _ => ⟨8, row2_0 (q % 8) (Nat.mod_lt _ (by decide))⟩
  | 2, 1, q, _, _ => ⟨8, row2_1 (q % 8) (Nat.mod_lt _ (by decide))⟩
  | 2, 2, q, _, _ => ⟨8, row2_2 (q % 8) (Nat.mod_lt _ (by decide))⟩
  | 2, 3, q, _, _ => ⟨8, row2_3 (q % 8) (Nat.mod_lt _ (by decide))⟩
  | 3, 0, q, _, _ => ⟨1, row3_0 (q % 1) (Nat.mod_lt _ (by decide))⟩
  | 3, 1, q, _, _ => ⟨1, row3_1 (q % 1) (Nat.mod_lt _ (by decide))⟩
  | 3, 2, q, _, _ => ⟨1, row3_2 (q % 1) (Nat.mod_lt _ (by decide))⟩
  | 3, 3, q, _, _ => ⟨1, row3_3 (q % 1) (Nat.mod_lt _ (by decide))⟩
  | 4, 0, q, _, _ => ⟨2, row4_0 (q % 2) (Nat.mod_lt _ (by decide))⟩
  | 4, 1, q, _, _ => ⟨4, row4_1 (q % 4) (Nat.mod_lt _ (by decide))⟩
  | 4, 2, q, _, _ => ⟨4, row4_2 (q % 4) (Nat.mod_lt _ (by decide))⟩
  | 4, 3, q, _, _ => ⟨4, row4_3 (q % 4) (Nat.mod_lt _ (by decide))⟩
  | 5, 0, q, _, _ => ⟨1, row5_0 (q % 1) (Nat.mod_lt _ (by decide))⟩
  | 5, 1, q, _, _ => ⟨1, row5_1 (q % 1) (Nat.mod_lt _ (by decide))⟩
  | 5, 2, q, _, _ => ⟨1, row5_2 (q % 1) (Nat.mod_lt _ (by decide))⟩
  | 5, 3, q, _, _ => ⟨1, row5_3 (q % 1) (Nat.mod_lt _ (by decide))⟩
  | 6, 0, q, _, _ => ⟨2, row6_0 (q % 2) (Nat.mod_lt _ (by decide))⟩
  | 6, 1, q, _, _ => ⟨2, row6_1 (q % 2) (Nat.mod_lt _ (by decide))⟩
  | 6, 2, q, _, _ => ⟨2, row6_2 (q % 2) (Nat.mod_lt _ (by decide))⟩
  | 6, 3, q, _, _ => ⟨2, row6_3 (q % 2) (Nat.mod_lt _ (by decide))⟩
  | 7, 0, q, _, _ => ⟨1, row7_0 (q % 1) (Nat.mod_lt _ (by decide))⟩
  | 7, 1, q, _, _ => ⟨1, row7_1 (q % 1) (Nat.mod_lt _ (by decide))⟩
  | 7, 2, q, _, _ => ⟨1, row7_2 (q % 1) (Nat.mod_lt _ (by decide))⟩
  | 7, 3, q, _, _ => ⟨1, row7_3 (q % 1) (Nat.mod_lt _ (by decide))⟩
  | _, n + 4, _, _, h => by omega
  | k + 8, _, _, h, _ => by omega
theorem walk5 {a b c : Int} (ha : 0 ≤ a ∧ a < 256) (hb : 0 ≤ b ∧ b < 256) (hc : 0 ≤ c ∧ c < 256) (w : World) :
    Calls Tryz.prog 5 #[.int .u8 a, .int .u8 b, .int .u8 c] w fun e w' => e = .returned (.bool true) ∧ Go.RowKit.Below w.heap.size w w' := by
  obtain ⟨m, hr⟩ := all5 (a.toNat % 8) (c.toNat % 4) b.toNat (Nat.mod_lt _ (by decide)) (Nat.mod_lt _ (by decide))
  exact (law_fastY mixed extW_ok hr (vs := [.int .u8 a, .int .u8 b, .int .u8 c]) (args_cons (arg_md ha.1 (by show a ≤ 255; omega)) (args_cons (arg_md hb.1 (by show b ≤ 255; omega)) (args_cons (arg_md hc.1 (by show c ≤ 255; omega)) args_nil))) w).2
end Go.Proofs.YtignlmfaoagolaaGreat
