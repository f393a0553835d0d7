/-
  Texts of a proof over the translated program: N4DA.
-/
import Derived.Test.YtijahjkcbphmcaaN4M
set_option linter.unusedVariables false
namespace Sp
open Go Go.AbsM
/-- The way back of steps. -/
def walk (a : Int) : List Int → List Int
  | [] => []
  | u :: r => W.add .i64 a (zag u) :: walk (W.add .i64 a (zag u)) r
def stepsTo (l : List Int) (i : Nat) : List Int := (steps 0 l).take i
def lastAt (l : List Int) (i : Nat) : Int := if i = 0 then 0 else l.getD (i - 1) 0
end Sp
namespace Go.Proofs.Ytijahjkcbphmcaa
open Go.AbsM
def ctr54 : TCtr := .det 54 [.v (.int .u64)] (fun (d : Int × Unit) => 0 ≤ d.1 ∧ d.1 < 18446744073709551616) (fun (d : Int × Unit) => TV.int .i64 (Sp.zag d.1)) fun _ => rfl
def ctr52 : TCtr := .det 52 [.v (.int .u64)] (fun (d : Int × Unit) => 0 ≤ d.1 ∧ d.1 < 18446744073709551616) (fun (d : Int × Unit) => TV.int .i64 (Sp.zag d.1)) fun _ => rfl
def ctr51 : TCtr := .det 51 [.v (.int .i64)] (fun (d : Int × Unit) => -9223372036854775808 ≤ d.1 ∧ d.1 < 9223372036854775808) (fun (d : Int × Unit) => TV.int .u64 (Sp.zig d.1)) fun _ => rfl
def mk49 (i : List Int × Int × Int × List Int) : TSt := mkS 27 [(0, TV.l 39 (.int .u64) i.1), (3, TV.h 8), (4, TV.int .i64 i.2.1), (5, TV.int .i64 i.2.2.1)] [(8, .arr false 2 (.int .i64) i.2.2.2)]
def psi49 (i : List Int × Int × Int × List Int) (Φ : Post) : Prop := (Sp.inU i.1 ∧ i.1.length < 1000000 ∧ 0 ≤ i.2.1 ∧ i.2.1 ≤ i.1.length ∧ i.2.2.2.length ≤ i.2.1.toNat) ∧ Φ .ret (mkS 27 [(2, TV.h 8)] [(8, .arr false 2 (.int .i64) (i.2.2.2 ++ Sp.walk i.2.2.1 (i.1.drop i.2.1.toNat)))])
def lab49 : Nat → Option Piece := one 0 (loopP 27 [0, 3, 4, 5] [8] mk49 psi49)
def ctr49 : TCtr := .det 49 [.l 39 (.int .u64)] (fun (d : List Int × Unit) => Sp.inU d.1 ∧ d.1.length < 1000000) (fun (d : List Int × Unit) => .o (.own 2 (.int .i64) (Sp.walk 0 d.1))) fun _ => rfl
def ctr38 : TCtr where
  f := 38
  sig := [.l 2 (.int .i64)]
  pre := fun (d : List Int × Unit) => Sp.inI d.1 ∧ d.1.length < 1000000
  out := fun (d : List Int × Unit) => if d.1.length = 0 then .a .nils else .o (.own 39 (.int .u64) (Sp.steps 0 d.1))
  outK := fun (d : List Int × Unit) K => (d.1.length = 0 → K (.a .nils)) ∧ (d.1.length ≠ 0 → K (.o (.own 39 (.int .u64) (Sp.steps 0 d.1))))
  outK_ok := fun (d : List Int × Unit) K h => by
    show K (if d.1.length = 0 then _ else _)
    split
    · exact h.1 (by assumption)
    · exact h.2 (by assumption)
  outOk := fun (d : List Int × Unit) => by
    show TV.outOk (if d.1.length = 0 then _ else _) = true
    split <;> rfl
def mk38a (i : List Int) : TSt := mkS 27 [(0, TV.l 2 (.int .i64) i), (3, .a .nils), (4, TV.int .i64 0), (5, TV.int .i64 0)] []
def mk38b (i : List Int × Int × Int × List Int) : TSt := mkS 27 [(0, TV.l 2 (.int .i64) i.1), (3, TV.h 21), (4, TV.int .i64 i.2.2.1), (5, TV.int .i64 i.2.1)] [(21, .arr false 39 (.int .u64) i.2.2.2)]
def mk38 (i : List Int × Nat × Int × List Int) : TSt := match i.2.1 with
  | 0 => mk38a i.1
  | n + 1 => mk38b (i.1, ((n + 1 : Nat) : Int), i.2.2.1, i.2.2.2)
def psi38 (i : List Int × Nat × Int × List Int) (Φ : Post) : Prop := (Sp.inI i.1 ∧ i.1.length < 1000000 ∧ i.2.1 ≤ i.1.length ∧ i.2.2.1 = Sp.lastAt i.1 i.2.1 ∧ i.2.2.2 = Sp.stepsTo i.1 i.2.1) ∧ (i.1.length = 0 → Φ .normal (mkS 27 [(3, .a .nils)] [])) ∧ (i.1.length ≠ 0 → Φ .normal (mkS 27 [(3, TV.h 21)] [(21, .arr false 39 (.int .u64) (Sp.steps 0 i.1))]))
def blk38 : Nat → Option Piece := one 0 (loopP 27 [0, 3, 4, 5] [21] mk38 psi38)
def ctr39 : TCtr := .det 39 [.l 2 (.int .i64), .l 2 (.int .i64)] (fun (d : List Int × List Int × Unit) => d.1.length < 1000000) (fun (d : List Int × List Int × Unit) => TV.bool (Sp.same d.1 d.2.1)) fun _ => rfl
def mk39 (i : List Int × List Int × Int) : TSt := mkS 26 [(0, TV.l 2 (.int .i64) i.1), (1, TV.l 2 (.int .i64) i.2.1), (4, TV.bool false), (5, TV.int .i64 i.2.2)] []
def psi39 (i : List Int × List Int × Int) (Φ : Post) : Prop := (i.1.length = i.2.1.length ∧ i.1.length < 1000000 ∧ 0 ≤ i.2.2 ∧ i.2.2 ≤ i.1.length ∧ i.1.take i.2.2.toNat = i.2.1.take i.2.2.toNat) ∧ (i.1 = i.2.1 → Φ .normal (mkS 26 [(4, TV.bool false)] [])) ∧ (i.1 ≠ i.2.1 → Φ .ret (mkS 26 [(4, TV.bool false)] []))
def blk39 : Nat → Option Piece := one 0 (loopP 26 [0, 1, 4, 5] [] mk39 psi39)
theorem nf54 (u : Int) (Q : TV → Prop) : wpFn Try.prog (knownL [] noneK noneK) Try.f54 [.c (.a (.x (.int .u64 u)))] Q = (
  Q (TV.int IntKind.i64 (W.xor IntKind.i64 (W.wrap IntKind.i64 (W.shr IntKind.u64 u (1 : Int))) (W.neg IntKind.i64 (W.wrap IntKind.i64 (W.and IntKind.u64 u (1 : Int))))))) := by kernel_rfl
theorem nf52 (u : Int) (Q : TV → Prop) : wpFn Try.prog (knownL [] noneK noneK) Try.f52 [.c (.a (.x (.int .u64 u)))] Q = (
  brc (W.ieq (W.and IntKind.u64 u (1 : Int)) (1 : Int)) (Q (TV.int IntKind.i64 (W.wrap IntKind.i64 (W.inv IntKind.u64 (W.shr IntKind.u64 u (1 : Int)))))) (Q (TV.int IntKind.i64 (W.wrap IntKind.i64 (W.shr IntKind.u64 u (1 : Int)))))) := by kernel_rfl
theorem nf51 (n : Int) (Q : TV → Prop) : wpFn Try.prog (knownL [] noneK noneK) Try.f51 [.c (.a (.x (.int .i64 n)))] Q = (
  brc (W.ilt n (0 : Int)) (Q (TV.int IntKind.u64 (W.inv IntKind.u64 (W.shl IntKind.u64 (W.wrap IntKind.u64 n) (1 : Int))))) (Q (TV.int IntKind.u64 (W.shl IntKind.u64 (W.wrap IntKind.u64 n) (1 : Int))))) := by kernel_rfl
theorem nf49 (l : List Int) (Q : TV → Prop) : wpFn Try.prog (knownL [ctr54] noneK lab49) Try.f49 [.c (.sl 39 (.int .u64) (.mk l))] Q = (
  grd (W.ile (W.ofNat (W.len l)) (9223372036854775807 : Int)) (grd (W.ile (W.bys (8 : Nat) (W.ofNat (W.len l))) (281474976710656 : Int)) (brc (W.ieq (0 : Int) (W.ofNat (W.len l))) (Q (TV.o (T1.own (2 : Nat) (VT.int IntKind.i64) (asT (List Int) [])))) (grd (W.nlt (0 : Nat) (W.len l)) (((0 : Int) ≤ W.nth l (0 : Nat) (0 : Int) ∧ W.nth l (0 : Nat) (0 : Int) < (18446744073709551616 : Int)) ∧ ∃ i, mkS (27 : Nat) [((0 : Nat), TV.l (39 : Nat) (VT.int IntKind.u64) l), ((3 : Nat), TV.h (8 : Nat)), ((4 : Nat), TV.int IntKind.i64 (1 : Int)), ((5 : Nat), TV.int IntKind.i64 (W.add IntKind.i64 (0 : Int) (Sp.zag (W.nth l (0 : Nat) (0 : Int)))))] [((8 : Nat), TOb.arr false (2 : Nat) (VT.int IntKind.i64) (asT (List Int) (W.app [] [W.add IntKind.i64 (0 : Int) (Sp.zag (W.nth l (0 : Nat) (0 : Int)))])))] = mkS (27 : Nat) [((0 : Nat), TV.l (39 : Nat) (VT.int IntKind.u64) (asT (List Int) (Prod.fst i))), ((3 : Nat), TV.h (8 : Nat)), ((4 : Nat), TV.int IntKind.i64 (Prod.fst (Prod.snd i))), ((5 : Nat), TV.int IntKind.i64 (Prod.fst (Prod.snd (Prod.snd i))))] [((8 : Nat), TOb.arr false (2 : Nat) (VT.int IntKind.i64) (asT (List Int) (Prod.snd (Prod.snd (Prod.snd i)))))] ∧ (Sp.inU (Prod.fst i) ∧ List.length (Prod.fst i) < (1000000 : Nat) ∧ (0 : Int) ≤ Prod.fst (Prod.snd i) ∧ Prod.fst (Prod.snd i) ≤ Int.ofNat (List.length (Prod.fst i)) ∧ List.length (Prod.snd (Prod.snd (Prod.snd i))) ≤ Int.toNat (Prod.fst (Prod.snd i))) ∧ Q (TV.o (T1.own (2 : Nat) (VT.int IntKind.i64) (asT (List Int) (List.append (Prod.snd (Prod.snd (Prod.snd i))) (Sp.walk (Prod.fst (Prod.snd (Prod.snd i))) (List.drop (Int.toNat (Prod.fst (Prod.snd i))) (Prod.fst i)))))))))))) := by kernel_rfl
theorem nf49s (ι : Type) (mk : ι → TSt) (ψ : ι → Post → Prop) (μ : ι → Nat) (l : List Int) (i a : Int) (xs : List Int) (Φ : Post) (m : Nat) : wpT Try.prog (knownL [ctr54] noneK lab49) (restC (bodyOf Try.f49) 0) (mk49 (l, i, a, xs)) (jumpK (knownL [ctr54] noneK lab49) 27 [0, 3, 4, 5] [8] [2] [8] (scC (bodyOf Try.f49)) 0 mk μ ψ m Φ) = (
  brc (W.ieq i (W.ofNat (W.len l))) (Φ AExit.ret (mkS (27 : Nat) [((2 : Nat), TV.h (8 : Nat))] [((8 : Nat), TOb.arr false (2 : Nat) (VT.int IntKind.i64) xs)])) (grd (W.ile (0 : Int) i) (grd (W.nlt (W.toNat i) (W.len l)) (((0 : Int) ≤ W.nth l (W.toNat i) (0 : Int) ∧ W.nth l (W.toNat i) (0 : Int) < (18446744073709551616 : Int)) ∧ grd (W.nle (W.nmul (W.nadd (W.len xs) (W.len [W.add IntKind.i64 a (Sp.zag (W.nth l (W.toNat i) (0 : Int)))])) (8 : Nat)) (140737488355328 : Nat)) (∃ j, mkS (27 : Nat) [((0 : Nat), TV.l (39 : Nat) (VT.int IntKind.u64) l), ((3 : Nat), TV.h (8 : Nat)), ((4 : Nat), TV.int IntKind.i64 (W.add IntKind.i64 i (1 : Int))), ((5 : Nat), TV.int IntKind.i64 (W.add IntKind.i64 a (Sp.zag (W.nth l (W.toNat i) (0 : Int)))))] [((8 : Nat), TOb.arr false (2 : Nat) (VT.int IntKind.i64) (asT (List Int) (W.app xs [W.add IntKind.i64 a (Sp.zag (W.nth l (W.toNat i) (0 : Int)))])))] = mk j ∧ μ j < m ∧ ψ j Φ))))) := by kernel_rfl
theorem nf38 (l : List Int) (Q : TV → Prop) : wpFn Try.prog (knownL [ctr51] blk38 noneK) Try.f38 [.c (.sl 2 (.int .i64) (.mk l))] Q = (
  ∃ i, mkS (27 : Nat) [((0 : Nat), TV.l (2 : Nat) (VT.int IntKind.i64) l), ((3 : Nat), TV.o (T1.c (TC.a AV.nils))), ((4 : Nat), TV.int IntKind.i64 (0 : Int)), ((5 : Nat), TV.int IntKind.i64 (0 : Int))] [] = mk38 i ∧ (Sp.inI (Prod.fst i) ∧ List.length (Prod.fst i) < (1000000 : Nat) ∧ Prod.fst (Prod.snd i) ≤ List.length (Prod.fst i) ∧ Prod.fst (Prod.snd (Prod.snd i)) = Sp.lastAt (Prod.fst i) (Prod.fst (Prod.snd i)) ∧ Prod.snd (Prod.snd (Prod.snd i)) = Sp.stepsTo (Prod.fst i) (Prod.fst (Prod.snd i))) ∧ (List.length (Prod.fst i) = (0 : Nat) → Q (TV.o (T1.c (TC.a AV.nils)))) ∧ (List.length (Prod.fst i) ≠ (0 : Nat) → Q (TV.o (T1.own (39 : Nat) (VT.int IntKind.u64) (asT (List Int) (Sp.steps (0 : Int) (Prod.fst i))))))) := by kernel_rfl
theorem nf38a (ι : Type) (mk : ι → TSt) (ψ : ι → Post → Prop) (μ : ι → Nat) (l : List Int) (Φ : Post) (m : Nat) : wpT Try.prog (knownL [ctr51] blk38 noneK) (loopOf (blkC (bodyOf Try.f38) 0)) (mk38a l) (stepK 27 [0, 3, 4, 5] [21] [3] [21] 0 mk μ ψ m Φ) = (
  brc (W.ilt (0 : Int) (W.ofNat (W.len l))) (grd (W.nlt (0 : Nat) (W.len l)) (((-9223372036854775808 : Int) ≤ W.sub IntKind.i64 (W.nth l (0 : Nat) (0 : Int)) (0 : Int) ∧ W.sub IntKind.i64 (W.nth l (0 : Nat) (0 : Int)) (0 : Int) < (9223372036854775808 : Int)) ∧ grd (W.nlt (0 : Nat) (W.len l)) (∃ j, mkS (27 : Nat) [((0 : Nat), TV.l (2 : Nat) (VT.int IntKind.i64) l), ((3 : Nat), TV.h (21 : Nat)), ((4 : Nat), TV.int IntKind.i64 (W.nth l (0 : Nat) (0 : Int))), ((5 : Nat), TV.int IntKind.i64 (1 : Int))] [((21 : Nat), TOb.arr false (39 : Nat) (VT.int IntKind.u64) (asT (List Int) [Sp.zig (W.sub IntKind.i64 (W.nth l (0 : Nat) (0 : Int)) (0 : Int))]))] = mk j ∧ μ j < m ∧ ψ j Φ))) (Φ AExit.normal (mkS (27 : Nat) [((3 : Nat), TV.o (T1.c (TC.a AV.nils)))] []))) := by kernel_rfl
theorem nf38b (ι : Type) (mk : ι → TSt) (ψ : ι → Post → Prop) (μ : ι → Nat) (l : List Int) (i a : Int) (xs : List Int) (Φ : Post) (m : Nat) : wpT Try.prog (knownL [ctr51] blk38 noneK) (loopOf (blkC (bodyOf Try.f38) 0)) (mk38b (l, i, a, xs)) (stepK 27 [0, 3, 4, 5] [21] [3] [21] 0 mk μ ψ m Φ) = (
  brc (W.ilt i (W.ofNat (W.len l))) (grd (W.ile (0 : Int) i) (grd (W.nlt (W.toNat i) (W.len l)) (((-9223372036854775808 : Int) ≤ W.sub IntKind.i64 (W.nth l (W.toNat i) (0 : Int)) a ∧ W.sub IntKind.i64 (W.nth l (W.toNat i) (0 : Int)) a < (9223372036854775808 : Int)) ∧ grd (W.nle (W.nmul (W.nadd (W.len xs) (W.len [Sp.zig (W.sub IntKind.i64 (W.nth l (W.toNat i) (0 : Int)) a)])) (8 : Nat)) (140737488355328 : Nat)) (grd (W.ile (0 : Int) i) (grd (W.nlt (W.toNat i) (W.len l)) (∃ j, mkS (27 : Nat) [((0 : Nat), TV.l (2 : Nat) (VT.int IntKind.i64) l), ((3 : Nat), TV.h (21 : Nat)), ((4 : Nat), TV.int IntKind.i64 (W.nth l (W.toNat i) (0 : Int))), ((5 : Nat), TV.int IntKind.i64 (W.add IntKind.i64 i (1 : Int)))] [((21 : Nat), TOb.arr false (39 : Nat) (VT.int IntKind.u64) (asT (List Int) (W.app xs [Sp.zig (W.sub IntKind.i64 (W.nth l (W.toNat i) (0 : Int)) a)])))] = mk j ∧ μ j < m ∧ ψ j Φ)))))) (Φ AExit.normal (mkS (27 : Nat) [((3 : Nat), TV.h (21 : Nat))] [((21 : Nat), TOb.arr false (39 : Nat) (VT.int IntKind.u64) xs)]))) := by kernel_rfl
theorem nf39s (ι : Type) (mk : ι → TSt) (ψ : ι → Post → Prop) (μ : ι → Nat) (a b : List Int) (i : Int) (Φ : Post) (m : Nat) : wpT Try.prog (knownL [] blk39 noneK) (loopOf (blkC (bodyOf Try.f39) 0)) (mk39 (a, b, i)) (stepK 26 [0, 1, 4, 5] [] [4] [] 0 mk μ ψ m Φ) = (
  brc (W.ilt i (W.ofNat (W.len a))) (grd (W.ile (0 : Int) i) (grd (W.nlt (W.toNat i) (W.len a)) (grd (W.ile (0 : Int) i) (grd (W.nlt (W.toNat i) (W.len b)) (brc (W.ine (W.nth a (W.toNat i) (0 : Int)) (W.nth b (W.toNat i) (0 : Int))) (Φ AExit.ret (mkS (26 : Nat) [((4 : Nat), TV.bool false)] [])) (∃ j, mkS (26 : Nat) [((0 : Nat), TV.l (2 : Nat) (VT.int IntKind.i64) a), ((1 : Nat), TV.l (2 : Nat) (VT.int IntKind.i64) b), ((4 : Nat), TV.bool false), ((5 : Nat), TV.int IntKind.i64 (W.add IntKind.i64 i (1 : Int)))] [] = mk j ∧ μ j < m ∧ ψ j Φ)))))) (Φ AExit.normal (mkS (26 : Nat) [((4 : Nat), TV.bool false)] []))) := by kernel_rfl
theorem nf39 (a b : List Int) (Q : TV → Prop) : wpFn Try.prog (knownL [] blk39 noneK) Try.f39 [.c (.sl 2 (.int .i64) (.mk a)), .c (.sl 2 (.int .i64) (.mk b))] Q = (
  brc (W.ine (W.ofNat (W.len a)) (W.ofNat (W.len b))) (Q (TV.bool false)) (∃ i, mkS (26 : Nat) [((0 : Nat), TV.l (2 : Nat) (VT.int IntKind.i64) a), ((1 : Nat), TV.l (2 : Nat) (VT.int IntKind.i64) b), ((4 : Nat), TV.bool false), ((5 : Nat), TV.int IntKind.i64 (0 : Int))] [] = mkS (26 : Nat) [((0 : Nat), TV.l (2 : Nat) (VT.int IntKind.i64) (asT (List Int) (Prod.fst i))), ((1 : Nat), TV.l (2 : Nat) (VT.int IntKind.i64) (asT (List Int) (Prod.fst (Prod.snd i)))), ((4 : Nat), TV.bool false), ((5 : Nat), TV.int IntKind.i64 (Prod.snd (Prod.snd i)))] [] ∧ (List.length (Prod.fst i) = List.length (Prod.fst (Prod.snd i)) ∧ List.length (Prod.fst i) < (1000000 : Nat) ∧ (0 : Int) ≤ Prod.snd (Prod.snd i) ∧ Prod.snd (Prod.snd i) ≤ Int.ofNat (List.length (Prod.fst i)) ∧ List.take (Int.toNat (Prod.snd (Prod.snd i))) (Prod.fst i) = List.take (Int.toNat (Prod.snd (Prod.snd i))) (Prod.fst (Prod.snd i))) ∧ (Prod.fst i = Prod.fst (Prod.snd i) → Q (TV.bool true)) ∧ (Prod.fst i ≠ Prod.fst (Prod.snd i) → Q (TV.bool false)))) := by kernel_rfl
end Go.Proofs.Ytijahjkcbphmcaa
