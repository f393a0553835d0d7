/-
  Texts of a proof over the translated program: N5PutsNf.
-/
import Derived.Test.YtijahjkcbphmcaaN5Ref2
import Derived.Test.YtijahjkcbphmcaaN5Known
import Derived.Test.YtijahjkcbphmcaaN6Steps
set_option linter.unusedVariables false
namespace Go.Proofs.Ytijahjkcbphmcaa
open Go.AbsM
def putsL : List TCtr := [trueC 26, ctr27, ctr28o, ctr29, ctr30, ctr31, ctr22]
theorem nf8 (l : List Int) (Q : TV → Prop) : wpFn Try.prog (knownL putsL noneK noneK) Try.f8 [.c (.sl 39 (.int .u64) (.mk l))] Q = (
  True ∧ brc (W.igt (W.ofNat (W.len l)) (600 : Int)) (Q (TV.bool true)) ((Sp.inU l ∧ List.length l < (999999 : Nat) ∧ List.length l ≠ (0 : Nat)) ∧ ((Sp.bytes (Sp.encR (Sp.runs l)) ∧ List.length (Sp.encR (Sp.runs l)) < (1000000 : Nat) ∧ (-9223372036854775808 : Int) ≤ W.ofNat (W.len l) ∧ W.ofNat (W.len l) < (500000 : Int)) ∧ Prod.snd (Prod.snd (Sp.rget (Sp.encR (Sp.runs l)) (W.ofNat (W.len l)))) = (0 : Int)) ∧ (Sp.inU l ∧ List.length l < (1000 : Nat) ∧ List.length l ≠ (0 : Nat)) ∧ brc (W.seq (W.b8s (Sp.encR (Sp.runs l))) (W.b8s (Sp.encR (Sp.runs l)))) (List.length l < (1000000 : Nat) ∧ List.length l < (1000000 : Nat) ∧ brc (W.ieq (Int.ofNat (List.length (Sp.runs l))) (Int.ofNat (List.length (Sp.runs l)))) (List.length (Sp.told (Prod.fst (Sp.rget (Sp.encR (Sp.runs l)) (W.ofNat (W.len l))))) < (1000000 : Nat) ∧ Q (TV.bool (Sp.same (Sp.told (Prod.fst (Sp.rget (Sp.encR (Sp.runs l)) (W.ofNat (W.len l))))) l))) (Q (TV.bool false))) (Q (TV.bool false)))) := by kernel_rfl
end Go.Proofs.Ytijahjkcbphmcaa
