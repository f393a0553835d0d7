/-
  Texts of a proof over the translated program: Nh22Nf.
-/
import Derived.Test.YtideihioggdmeaaNh22Known
set_option linter.unusedVariables false
namespace Sp
open Go Go.AbsM
def i64 (x : Int) : Prop := -9223372036854775808 ≤ x ∧ x < 9223372036854775808
/-- Whether a round goes on. -/
def nb (f n d : Int) : Bool := decide (1 ≤ n ∧ 0 ≤ d ∧ d < n ∧ 0 ≤ f ∧ f < n)
def ng (f n d : Int) : Int := if nb f n d = true then (if n - f ≤ d then d - (n - f) else f + d) else 0
def st (f n d : Int) : Int := if nb f n d = true then d + 1 else d
def lf (f n d : Int) : Int := if nb f n d = true then n - d else 0
end Sp
namespace Go.Proofs.Ytideihioggdmeaa
open Go.AbsM
abbrev R3 := (Int × Int × Int × Unit) × Unit
def pre3 (d : R3) : Prop := Sp.i64 d.1.1 ∧ Sp.i64 d.1.2.1 ∧ Sp.i64 d.1.2.2.1
def ctrNext (f : FuncId) : TCtr := .det f [.v (.pair (.int .i64) (.pair (.int .i64) (.pair (.int .i64) .unit)))] (fun (d : R3) => pre3 d) (fun (d : R3) => TV.tup [.c (.a (.x (.int .i64 (Sp.ng d.1.1 d.1.2.1 d.1.2.2.1)))), .c (.a (.x (.bool (Sp.nb d.1.1 d.1.2.1 d.1.2.2.1))))]) fun _ => rfl
def ctr7 : TCtr := ctrNext 7
def ctr8 : TCtr := ctrNext 8
def ctr9 : TCtr := .det 9 [.v (.pair (.int .i64) (.pair (.int .i64) (.pair (.int .i64) .unit)))] (fun (d : R3) => True) (fun (d : R3) => .o (.agg [.a (.x (.int .i64 d.1.1)), .a (.x (.int .i64 d.1.2.1)), .a (.x (.int .i64 d.1.2.2.1))])) fun _ => rfl
def ctrStep (f : FuncId) : TCtr := .det f [.v (.pair (.int .i64) (.pair (.int .i64) (.pair (.int .i64) .unit)))] (fun (d : R3) => pre3 d) (fun (d : R3) => .o (.agg [.a (.x (.int .i64 d.1.1)), .a (.x (.int .i64 d.1.2.1)), .a (.x (.int .i64 (Sp.st d.1.1 d.1.2.1 d.1.2.2.1)))])) fun _ => rfl
def ctr10 : TCtr := ctrStep 10
def ctr11 : TCtr := ctrStep 11
def ctrLeft (f : FuncId) : TCtr := .det f [.v (.pair (.int .i64) (.pair (.int .i64) (.pair (.int .i64) .unit)))] (fun (d : R3) => pre3 d) (fun (d : R3) => TV.int .i64 (Sp.lf d.1.1 d.1.2.1 d.1.2.2.1)) fun _ => rfl
def ctr12 : TCtr := ctrLeft 12
def ctr13 : TCtr := ctrLeft 13
def mk7a (i : Unit) : TSt := mkS 50 [] []
def psi7a (i : Unit) (Φ : Post) : Prop := Φ .ret (mkS 50 [(2, TV.int .i64 0), (3, TV.bool false)] [])
def mk7b (i : Int × Int × Int × Int) : TSt := mkS 50 [(1, .a (.ref 0 1 0)), (4, TV.int .i64 i.2.2.2)] [(1, .box [.a (.x (.int .i64 i.1)), .a (.x (.int .i64 i.2.1)), .a (.x (.int .i64 i.2.2.1))])]
def psi7b (i : Int × Int × Int × Int) (Φ : Post) : Prop := Φ .ret (mkS 50 [(2, TV.int .i64 (W.sub .i64 i.2.2.1 i.2.2.2)), (3, TV.bool true)] [])
def lab7 (l : Nat) : Option Piece := match l.beq 0 with
  | true => some (loopP 50 [] [] mk7a psi7a)
  | false => one 1 (loopP 50 [1, 4] [1] mk7b psi7b) l
def anyL : List TCtr := [trueC 6, ctr7, ctr8, ctr9, ctr10, ctr11, ctr12, ctr13]
theorem nf7 (f n d : Int) (Q : TV → Prop) : wpFn Try.prog (knownL [] noneK lab7) Try.f7 [.agg [.a (.x (.int .i64 f)), .a (.x (.int .i64 n)), .a (.x (.int .i64 d))]] Q = (
  brc (W.ilt n (1 : Int)) (∃ i : Unit, mkS (50 : Nat) [] [] = mkS (50 : Nat) [] [] ∧ Q (TV.tup [T1.c (TC.a (AV.x (Value.int IntKind.i64 (0 : Int)))), T1.c (TC.a (AV.x (Value.bool false)))])) (brc (W.ilt d (0 : Int)) (∃ i : Unit, mkS (50 : Nat) [] [] = mkS (50 : Nat) [] [] ∧ Q (TV.tup [T1.c (TC.a (AV.x (Value.int IntKind.i64 (0 : Int)))), T1.c (TC.a (AV.x (Value.bool false)))])) (brc (W.ige d n) (∃ i : Unit, mkS (50 : Nat) [] [] = mkS (50 : Nat) [] [] ∧ Q (TV.tup [T1.c (TC.a (AV.x (Value.int IntKind.i64 (0 : Int)))), T1.c (TC.a (AV.x (Value.bool false)))])) (brc (W.ilt f (0 : Int)) (∃ i : Unit, mkS (50 : Nat) [] [] = mkS (50 : Nat) [] [] ∧ Q (TV.tup [T1.c (TC.a (AV.x (Value.int IntKind.i64 (0 : Int)))), T1.c (TC.a (AV.x (Value.bool false)))])) (brc (W.ige f n) (∃ i : Unit, mkS (50 : Nat) [] [] = mkS (50 : Nat) [] [] ∧ Q (TV.tup [T1.c (TC.a (AV.x (Value.int IntKind.i64 (0 : Int)))), T1.c (TC.a (AV.x (Value.bool false)))])) (brc (W.ige d (W.sub IntKind.i64 n f)) (∃ i, mkS (50 : Nat) [((1 : Nat), TV.o (T1.c (TC.a (AV.ref (0 : Nat) (1 : Nat) (0 : Nat))))), ((4 : Nat), TV.int IntKind.i64 (W.sub IntKind.i64 n f))] [((1 : Nat), TOb.box [TC.a (AV.x (Value.int IntKind.i64 f)), TC.a (AV.x (Value.int IntKind.i64 n)), TC.a (AV.x (Value.int IntKind.i64 d))])] = mkS (50 : Nat) [((1 : Nat), TV.o (T1.c (TC.a (AV.ref (0 : Nat) (1 : Nat) (0 : Nat))))), ((4 : Nat), TV.int IntKind.i64 (Prod.snd (Prod.snd (Prod.snd i))))] [((1 : Nat), TOb.box [TC.a (AV.x (Value.int IntKind.i64 (Prod.fst i))), TC.a (AV.x (Value.int IntKind.i64 (Prod.fst (Prod.snd i)))), TC.a (AV.x (Value.int IntKind.i64 (Prod.fst (Prod.snd (Prod.snd i)))))])] ∧ Q (TV.tup [T1.c (TC.a (AV.x (Value.int IntKind.i64 (W.sub IntKind.i64 (Prod.fst (Prod.snd (Prod.snd i))) (Prod.snd (Prod.snd (Prod.snd i))))))), T1.c (TC.a (AV.x (Value.bool true)))])) (Q (TV.tup [T1.c (TC.a (AV.x (Value.int IntKind.i64 (W.add IntKind.i64 f d)))), T1.c (TC.a (AV.x (Value.bool true)))])))))))) := by kernel_rfl
theorem nf7a (ι : Type) (mk : ι → TSt) (ψ : ι → Post → Prop) (μ : ι → Nat) (Φ : Post) (m : Nat) : wpT Try.prog (knownL [] noneK noneK) (restC (bodyOf Try.f7) 0) (mk7a ()) (jumpK (knownL [] noneK noneK) 50 [] [] [2, 3] [] (scC (bodyOf Try.f7)) 0 mk μ ψ m Φ) = (
  Φ AExit.ret (mkS (50 : Nat) [((2 : Nat), TV.int IntKind.i64 (0 : Int)), ((3 : Nat), TV.bool false)] [])) := by kernel_rfl
theorem nf7b (ι : Type) (mk : ι → TSt) (ψ : ι → Post → Prop) (μ : ι → Nat) (f n d l : Int) (Φ : Post) (m : Nat) : wpT Try.prog (knownL [] noneK noneK) (restC (bodyOf Try.f7) 1) (mk7b (f, n, d, l)) (jumpK (knownL [] noneK noneK) 50 [1, 4] [1] [2, 3] [] (scC (bodyOf Try.f7)) 1 mk μ ψ m Φ) = (
  Φ AExit.ret (mkS (50 : Nat) [((2 : Nat), TV.int IntKind.i64 (W.sub IntKind.i64 d l)), ((3 : Nat), TV.bool true)] [])) := by kernel_rfl
theorem nf8 (f n d : Int) (Q : TV → Prop) : wpFn Try.prog (knownL [] noneK noneK) Try.f8 [.agg [.a (.x (.int .i64 f)), .a (.x (.int .i64 n)), .a (.x (.int .i64 d))]] Q = (
  brc (W.ilt n (1 : Int)) (Q (TV.tup [T1.c (TC.a (AV.x (Value.int IntKind.i64 (0 : Int)))), T1.c (TC.a (AV.x (Value.bool false)))])) (brc (W.ilt d (0 : Int)) (Q (TV.tup [T1.c (TC.a (AV.x (Value.int IntKind.i64 (0 : Int)))), T1.c (TC.a (AV.x (Value.bool false)))])) (brc (W.ige d n) (Q (TV.tup [T1.c (TC.a (AV.x (Value.int IntKind.i64 (0 : Int)))), T1.c (TC.a (AV.x (Value.bool false)))])) (brc (W.ilt f (0 : Int)) (Q (TV.tup [T1.c (TC.a (AV.x (Value.int IntKind.i64 (0 : Int)))), T1.c (TC.a (AV.x (Value.bool false)))])) (brc (W.ige f n) (Q (TV.tup [T1.c (TC.a (AV.x (Value.int IntKind.i64 (0 : Int)))), T1.c (TC.a (AV.x (Value.bool false)))])) (brc (W.ige d (W.sub IntKind.i64 n f)) (Q (TV.tup [T1.c (TC.a (AV.x (Value.int IntKind.i64 (W.sub IntKind.i64 d (W.sub IntKind.i64 n f))))), T1.c (TC.a (AV.x (Value.bool true)))])) (Q (TV.tup [T1.c (TC.a (AV.x (Value.int IntKind.i64 (W.add IntKind.i64 f d)))), T1.c (TC.a (AV.x (Value.bool true)))])))))))) := by kernel_rfl
theorem nf9 (f n d : Int) (Q : TV → Prop) : wpFn Try.prog (knownL [] noneK noneK) Try.f9 [.agg [.a (.x (.int .i64 f)), .a (.x (.int .i64 n)), .a (.x (.int .i64 d))]] Q = (
  Q (TV.o (T1.agg [TC.a (AV.x (Value.int IntKind.i64 f)), TC.a (AV.x (Value.int IntKind.i64 n)), TC.a (AV.x (Value.int IntKind.i64 d))]))) := by kernel_rfl
theorem nf10 (f n d : Int) (Q : TV → Prop) : wpFn Try.prog (knownL [ctr7] noneK noneK) Try.f10 [.agg [.a (.x (.int .i64 f)), .a (.x (.int .i64 n)), .a (.x (.int .i64 d))]] Q = (
  (Sp.i64 f ∧ Sp.i64 n ∧ Sp.i64 d) ∧ brc (Sp.nb f n d) (Q (TV.o (T1.agg [TC.a (AV.x (Value.int IntKind.i64 f)), TC.a (AV.x (Value.int IntKind.i64 n)), TC.a (AV.x (Value.int IntKind.i64 (W.add IntKind.i64 d (1 : Int))))]))) (Q (TV.o (T1.agg [TC.a (AV.x (Value.int IntKind.i64 f)), TC.a (AV.x (Value.int IntKind.i64 n)), TC.a (AV.x (Value.int IntKind.i64 d))])))) := by kernel_rfl
theorem nf11 (f n d : Int) (Q : TV → Prop) : wpFn Try.prog (knownL [ctr8] noneK noneK) Try.f11 [.agg [.a (.x (.int .i64 f)), .a (.x (.int .i64 n)), .a (.x (.int .i64 d))]] Q = (
  (Sp.i64 f ∧ Sp.i64 n ∧ Sp.i64 d) ∧ brc (Sp.nb f n d) (Q (TV.o (T1.agg [TC.a (AV.x (Value.int IntKind.i64 f)), TC.a (AV.x (Value.int IntKind.i64 n)), TC.a (AV.x (Value.int IntKind.i64 (W.add IntKind.i64 d (1 : Int))))]))) (Q (TV.o (T1.agg [TC.a (AV.x (Value.int IntKind.i64 f)), TC.a (AV.x (Value.int IntKind.i64 n)), TC.a (AV.x (Value.int IntKind.i64 d))])))) := by kernel_rfl
theorem nf12 (f n d : Int) (Q : TV → Prop) : wpFn Try.prog (knownL [ctr7] noneK noneK) Try.f12 [.agg [.a (.x (.int .i64 f)), .a (.x (.int .i64 n)), .a (.x (.int .i64 d))]] Q = (
  (Sp.i64 f ∧ Sp.i64 n ∧ Sp.i64 d) ∧ brc (W.bnot (Sp.nb f n d)) (Q (TV.int IntKind.i64 (0 : Int))) (Q (TV.int IntKind.i64 (W.sub IntKind.i64 n d)))) := by kernel_rfl
theorem nf13 (f n d : Int) (Q : TV → Prop) : wpFn Try.prog (knownL [ctr8] noneK noneK) Try.f13 [.agg [.a (.x (.int .i64 f)), .a (.x (.int .i64 n)), .a (.x (.int .i64 d))]] Q = (
  (Sp.i64 f ∧ Sp.i64 n ∧ Sp.i64 d) ∧ brc (W.bnot (Sp.nb f n d)) (Q (TV.int IntKind.i64 (0 : Int))) (Q (TV.int IntKind.i64 (W.sub IntKind.i64 n d)))) := by kernel_rfl
theorem nf3 (f n d : Int) (Q : TV → Prop) : wpFn Try.prog (knownL anyL noneK noneK) Try.f3 [.agg [.a (.x (.int .i64 f)), .a (.x (.int .i64 n)), .a (.x (.int .i64 d))]] Q = (
  True ∧ (Sp.i64 f ∧ Sp.i64 n ∧ Sp.i64 d) ∧ True ∧ (Sp.i64 f ∧ Sp.i64 n ∧ Sp.i64 d) ∧ brc (W.ieq (Sp.ng f n d) (Sp.ng f n d)) (brc (W.beq (Sp.nb f n d) (Sp.nb f n d)) ((Sp.i64 f ∧ Sp.i64 n ∧ Sp.i64 d) ∧ True ∧ True ∧ (Sp.i64 f ∧ Sp.i64 n ∧ Sp.i64 d) ∧ brc (W.ieq f f) (brc (W.ieq n n) (brc (W.ieq (Sp.st f n d) (Sp.st f n d)) ((Sp.i64 f ∧ Sp.i64 n ∧ Sp.i64 d) ∧ True ∧ (Sp.i64 f ∧ Sp.i64 n ∧ Sp.i64 d) ∧ Q (TV.bool (W.ieq (Sp.lf f n d) (Sp.lf f n d)))) (Q (TV.bool false))) (Q (TV.bool false))) (Q (TV.bool false))) (Q (TV.bool false))) (Q (TV.bool false))) := by kernel_rfl
end Go.Proofs.Ytideihioggdmeaa
