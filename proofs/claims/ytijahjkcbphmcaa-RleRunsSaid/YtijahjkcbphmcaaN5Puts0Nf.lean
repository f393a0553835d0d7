/-
  Texts of a proof over the translated program: N5Puts0Nf.
-/
import Derived.Test.YtijahjkcbphmcaaN5Ref2
import Derived.Test.YtijahjkcbphmcaaN5Known
import Derived.Test.YtijahjkcbphmcaaN6Steps
set_option linter.unusedVariables false
namespace Go.Proofs.Ytijahjkcbphmcaa
open Go.AbsM
def mk27n (i : Unit) : TSt := mkS 23 [(3, .a .nils), (7, .a .nils), (8, TV.int .i64 0), (9, TV.int .i64 0)] []
def psi27n (i : Unit) (Φ : Post) : Prop := Φ .normal (mkS 23 [(3, .a .nils)] [])
def blk27n : Nat → Option Piece := one 0 (loopP 23 [3, 7, 8, 9] [] mk27n psi27n)
def mk29n (i : List Int) : TSt := mkS 44 [(0, TV.l 39 (.int .u64) i), (3, .a .nils), (4, TV.int .i64 0)] []
def psi29n (i : List Int) (Φ : Post) : Prop := i.length = 0 ∧ Φ .normal (mkS 44 [(3, .a .nils)] [])
def blk29n : Nat → Option Piece := one 0 (loopP 44 [0, 3, 4] [] mk29n psi29n)
def ctr27n : TCtr := .det 27 [.l 39 (.int .u64)] (fun (d : List Int × Unit) => d.1.length = 0) (fun (d : List Int × Unit) => .a .nils) fun _ => rfl
def ctr29n : TCtr := .det 29 [.l 39 (.int .u64)] (fun (d : List Int × Unit) => d.1.length = 0) (fun (d : List Int × Unit) => .a .nils) fun _ => rfl
def putsN : List TCtr := [trueC 26, ctr27n, ctr28o, ctr29n, ctr30, ctr31, ctr22]
theorem nf27n (l : List Int) (Q : TV → Prop) : wpFn Try.prog (knownL putN blk27n noneK) Try.f27 [.c (.sl 39 (.int .u64) (.mk l))] Q = (
  List.length l = (0 : Nat) ∧ ∃ i : Unit, mkS (23 : Nat) [((3 : Nat), TV.o (T1.c (TC.a AV.nils))), ((7 : Nat), TV.o (T1.c (TC.a AV.nils))), ((8 : Nat), TV.int IntKind.i64 (0 : Int)), ((9 : Nat), TV.int IntKind.i64 (0 : Int))] [] = mkS (23 : Nat) [((3 : Nat), TV.o (T1.c (TC.a AV.nils))), ((7 : Nat), TV.o (T1.c (TC.a AV.nils))), ((8 : Nat), TV.int IntKind.i64 (0 : Int)), ((9 : Nat), TV.int IntKind.i64 (0 : Int))] [] ∧ Q (TV.o (T1.c (TC.a AV.nils)))) := by kernel_rfl
theorem nf27ns (ι : Type) (mk : ι → TSt) (ψ : ι → Post → Prop) (μ : ι → Nat) (u : Unit) (Φ : Post) (m : Nat) : wpT Try.prog (knownL putN blk27n noneK) (loopOf (blkC (bodyOf Try.f27) 0)) (mk27n u) (stepK 23 [3, 7, 8, 9] [] [3] [] 0 mk μ ψ m Φ) = (
  Φ AExit.normal (mkS (23 : Nat) [((3 : Nat), TV.o (T1.c (TC.a AV.nils)))] [])) := by kernel_rfl
theorem nf29n (l : List Int) (Q : TV → Prop) : wpFn Try.prog (knownL [] blk29n noneK) Try.f29 [.c (.sl 39 (.int .u64) (.mk l))] Q = (
  ∃ i, mkS (44 : Nat) [((0 : Nat), TV.l (39 : Nat) (VT.int IntKind.u64) l), ((3 : Nat), TV.o (T1.c (TC.a AV.nils))), ((4 : Nat), TV.int IntKind.i64 (0 : Int))] [] = mkS (44 : Nat) [((0 : Nat), TV.l (39 : Nat) (VT.int IntKind.u64) (asT (List Int) i)), ((3 : Nat), TV.o (T1.c (TC.a AV.nils))), ((4 : Nat), TV.int IntKind.i64 (0 : Int))] [] ∧ List.length i = (0 : Nat) ∧ Q (TV.o (T1.c (TC.a AV.nils)))) := by kernel_rfl
theorem nf29ns (ι : Type) (mk : ι → TSt) (ψ : ι → Post → Prop) (μ : ι → Nat) (l : List Int) (Φ : Post) (m : Nat) : wpT Try.prog (knownL [] blk29n noneK) (loopOf (blkC (bodyOf Try.f29) 0)) (mk29n l) (stepK 44 [0, 3, 4] [] [3] [] 0 mk μ ψ m Φ) = (
  brc (W.ilt (0 : Int) (W.ofNat (W.len l))) False (Φ AExit.normal (mkS (44 : Nat) [((3 : Nat), TV.o (T1.c (TC.a AV.nils)))] []))) := by kernel_rfl
theorem nf8n (l : List Int) (Q : TV → Prop) : wpFn Try.prog (knownL putsN noneK noneK) Try.f8 [.c (.sl 39 (.int .u64) (.mk l))] Q = (
  True ∧ brc (W.igt (W.ofNat (W.len l)) (600 : Int)) (Q (TV.bool true)) (List.length l = (0 : Nat) ∧ ((Sp.bytes [] ∧ (0 : Nat) < (1000000 : Nat) ∧ (-9223372036854775808 : Int) ≤ W.ofNat (W.len l) ∧ W.ofNat (W.len l) < (500000 : Int)) ∧ Prod.snd (Prod.snd (Sp.rget [] (W.ofNat (W.len l)))) = (0 : Int)) ∧ List.length l = (0 : Nat) ∧ List.length l < (1000000 : Nat) ∧ List.length l < (1000000 : Nat) ∧ brc (W.ieq (Int.ofNat (List.length (Sp.runs l))) (Int.ofNat (List.length (Sp.runs l)))) (List.length (Sp.told (Prod.fst (Sp.rget [] (W.ofNat (W.len l))))) < (1000000 : Nat) ∧ Q (TV.bool (Sp.same (Sp.told (Prod.fst (Sp.rget [] (W.ofNat (W.len l))))) l))) (Q (TV.bool false)))) := by kernel_rfl
end Go.Proofs.Ytijahjkcbphmcaa
