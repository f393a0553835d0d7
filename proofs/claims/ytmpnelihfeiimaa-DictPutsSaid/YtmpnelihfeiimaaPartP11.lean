/-
  Texts of a proof over the translated program: proved evaluators and walks, part 11 of 19.
-/
import Derived.Test.YtmpnelihfeiimaaPartP10
import Derived.Below
import Derived.Great.BuildSlice
import Derived.KernelRfl
import Derived.Laws.IdiomStrings
import Derived.Orders
import Derived.Test.YtmpnelihfeiimaaProg
import Derived.WalkKit
set_option linter.unusedVariables false
set_option linter.unusedSimpArgs false
set_option linter.unusedSectionVars false
set_option linter.unnecessarySimpa false
section
namespace Go.Proofs.Ytmpnelihfeiimaa
open Go.AbsM
theorem wide : Try.prog.follows .mixedOrders = true := by kernel_rfl
end Go.Proofs.Ytmpnelihfeiimaa
end

section
set_option maxRecDepth 100000
def Sp.tab8 : List UInt8 := [0, 1, 2, 2, 3, 3, 3, 3, 4, 4, 4, 4, 4, 4, 4, 4, 5, 5, 5, 5, 5, 5, 5, 5, 5, 5, 5, 5, 5, 5, 5, 5, 6, 6, 6, 6, 6, 6, 6, 6, 6, 6, 6, 6, 6, 6, 6, 6, 6, 6, 6, 6, 6, 6, 6, 6, 6, 6, 6, 6, 6, 6, 6, 6, 7, 7, 7, 7, 7, 7, 7, 7, 7, 7, 7, 7, 7, 7, 7, 7, 7, 7, 7, 7, 7, 7, 7, 7, 7, 7, 7, 7, 7, 7, 7, 7, 7, 7, 7, 7, 7, 7, 7, 7, 7, 7, 7, 7, 7, 7, 7, 7, 7, 7, 7, 7, 7, 7, 7, 7, 7, 7, 7, 7, 7, 7, 7, 7, 8, 8, 8, 8, 8, 8, 8, 8, 8, 8, 8, 8, 8, 8, 8, 8, 8, 8, 8, 8, 8, 8, 8, 8, 8, 8, 8, 8, 8, 8, 8, 8, 8, 8, 8, 8, 8, 8, 8, 8, 8, 8, 8, 8, 8, 8, 8, 8, 8, 8, 8, 8, 8, 8, 8, 8, 8, 8, 8, 8, 8, 8, 8, 8, 8, 8, 8, 8, 8, 8, 8, 8, 8, 8, 8, 8, 8, 8, 8, 8, 8, 8, 8, 8, 8, 8, 8, 8, 8, 8, 8, 8, 8, 8, 8, 8, 8, 8, 8, 8, 8, 8, 8, 8, 8, 8, 8, 8, 8, 8, 8, 8, 8, 8, 8, 8, 8, 8, 8, 8, 8, 8, 8, 8, 8, 8, 8, 8]
namespace Go.Proofs.Ytmpnelihfeiimaa
open Go.AbsM
def ctr40 : TCtr := .det 40 [.v (.int .i64), .v (.int .i64)] (fun (d : Int × Int × Unit) => True) (fun (d : Int × Int × Unit) => TV.bool (Sp.mayB d.1 d.2.1)) fun _ => rfl
def ctr33 : TCtr := .det 33 [.v (.int .i64), .v (.int .i64)] (fun (d : Int × Int × Unit) => True) (fun (d : Int × Int × Unit) => TV.int .i64 (Sp.size d.1 d.2.1)) fun _ => rfl
def ctr35 : TCtr := .det 35 [.v (.int .i64), .v (.int .i64)] (fun (d : Int × Int × Unit) => True) (fun (d : Int × Int × Unit) => TV.int .i64 (Sp.size d.1 d.2.1)) fun _ => rfl
def ctr32 : TCtr := .det 32 [.v (.int .u64)] (fun (d : Int × Unit) => 0 ≤ d.1 ∧ d.1 < 18446744073709551616) (fun (d : Int × Unit) => TV.int .i64 (Sp.blen d.1)) fun _ => rfl
def ctr21 : TCtr := .det 21 [.l 39 (.int .u64)] (fun (d : List Int × Unit) => Sp.inU d.1 ∧ d.1.length < 9223372036854775807) (fun (d : List Int × Unit) => TV.int .i64 (Sp.width d.1)) fun _ => rfl
def ctr25 : TCtr := .det 25 [.l 39 (.int .u64)] (fun (d : List Int × Unit) => Sp.inU d.1 ∧ d.1.length < 9223372036854775807) (fun (d : List Int × Unit) => TV.int .i64 (Sp.width d.1)) fun _ => rfl
def pre34 (b : List Int) (a u n : Int) : Prop := Sp.bytes b ∧ b.length < 1000000 ∧ 0 ≤ a ∧ 0 ≤ n ∧ n ≤ 64 ∧ a + n ≤ 8 * b.length ∧ 0 ≤ u ∧ u.toNat < 2 ^ n.toNat
def lctr34 : LCtr := .det 34 [.m 5 (.int .u8), .v (.int .i64), .v (.int .u64), .v (.int .i64)] (fun (d : List Int × Int × Int × Int × Unit) => pre34 d.1 d.2.1 d.2.2.1 d.2.2.2.1) (fun (d : List Int × Int × Int × Int × Unit) => ((Sp.putB d.1 d.2.1 d.2.2.1, ()) : List Int × Unit)) (fun _ => TV.tup []) (fun _ => rfl) (fun (d : List Int × Int × Int × Int × Unit) _ => ⟨Sp.ofVal_len _ _, trivial⟩) rfl
def mk34 (i : List Int × Int × Int × Int) : TSt := mkS 37 [(0, TV.h 500000), (1, TV.int .i64 i.2.1), (2, TV.int .u64 i.2.2.1), (3, TV.int .i64 i.2.2.2)] [(500000, .arr false 5 (.int .u8) i.1)]
def psi34 (i : List Int × Int × Int × Int) (Φ : Post) : Prop := pre34 i.1 i.2.1 i.2.2.1 i.2.2.2 ∧ Φ .ret (mkS 37 [] [(500000, .arr false 5 (.int .u8) (Sp.putB i.1 i.2.1 i.2.2.1))])
def lab34 : Nat → Option Piece := one 0 (loopP 37 [0, 1, 2, 3] [500000] mk34 psi34)
def pre41 (b : List Int) (a n : Int) : Prop := Sp.bytes b ∧ b.length < 1000000 ∧ 0 ≤ a ∧ 0 ≤ n ∧ n ≤ 64 ∧ a + n ≤ 8 * b.length
def ctr41 : TCtr := .det 41 [.l 5 (.int .u8), .v (.int .i64), .v (.int .i64)] (fun (d : List Int × Int × Int × Unit) => pre41 d.1 d.2.1 d.2.2.1) (fun (d : List Int × Int × Int × Unit) => TV.int .u64 (Sp.getB d.1 d.2.1 d.2.2.1)) fun _ => rfl
def mk41 (i : List Int × Int × Int × Int × Int) : TSt := mkS 44 [(0, TV.l 5 (.int .u8) i.1), (1, TV.int .i64 i.2.1), (2, TV.int .i64 i.2.2.1), (7, TV.int .u64 i.2.2.2.1), (8, TV.int .i64 i.2.2.2.2)] []
def psi41 (i : List Int × Int × Int × Int × Int) (Φ : Post) : Prop := (∃ a, pre41 i.1 a i.2.2.1 ∧ i.2.1 = a + i.2.2.2.2 ∧ 0 ≤ i.2.2.2.2 ∧ i.2.2.2.2 ≤ i.2.2.1 ∧ i.2.2.2.1 = Sp.getB i.1 a i.2.2.2.2 ∧ Φ .ret (mkS 44 [(6, TV.int .u64 (Sp.getB i.1 a i.2.2.1))] []))
def lab41 : Nat → Option Piece := one 0 (loopP 44 [0, 1, 2, 7, 8] [] mk41 psi41)
def mk21 (i : List Int × Int × Int) : TSt := mkS 18 [(3, TV.int .u64 i.2.1), (6, TV.l 39 (.int .u64) i.1), (7, TV.int .i64 i.1.length), (8, TV.int .i64 i.2.2)] []
def psi21 (i : List Int × Int × Int) (Φ : Post) : Prop := (Sp.inU i.1 ∧ i.1.length < 9223372036854775807 ∧ 0 ≤ i.2.2 ∧ i.2.2 ≤ i.1.length ∧ i.2.1 = ((Sp.orAll (i.1.take i.2.2.toNat) : Nat) : Int)) ∧ Φ .normal (mkS 18 [(3, TV.int .u64 ((Sp.orAll i.1 : Nat) : Int))] [])
def blk21 : Nat → Option Piece := one 0 (loopP 18 [3, 6, 7, 8] [] mk21 psi21)
theorem nf40 (n w : Int) (Q : TV → Prop) : wpFn Try.prog (knownL [] noneK noneK) Try.f40 [.c (.a (.x (.int .i64 n))), .c (.a (.x (.int .i64 w)))] Q = (
  brc (W.ige n (0 : Int)) (brc (W.ile n (65536 : Int)) (brc (W.ige w (0 : Int)) (Q (TV.bool (W.ile w (64 : Int)))) (Q (TV.bool false))) (Q (TV.bool false))) (Q (TV.bool false))) := by kernel_rfl
theorem nf33 (n w : Int) (Q : TV → Prop) : wpFn Try.prog (knownL [ctr40] noneK noneK) Try.f33 [.c (.a (.x (.int .i64 n))), .c (.a (.x (.int .i64 w)))] Q = (
  True ∧ brc (W.bnot (Sp.mayB n w)) (Q (TV.int IntKind.i64 (0 : Int))) (Q (TV.int IntKind.i64 (W.quo IntKind.i64 (W.add IntKind.i64 (W.mul IntKind.i64 n w) (7 : Int)) (8 : Int))))) := by kernel_rfl
theorem nf35 (n w : Int) (Q : TV → Prop) : wpFn Try.prog (knownL [] noneK noneK) Try.f35 [.c (.a (.x (.int .i64 n))), .c (.a (.x (.int .i64 w)))] Q = (
  brc (W.ilt n (0 : Int)) (Q (TV.int IntKind.i64 (0 : Int))) (brc (W.igt n (65536 : Int)) (Q (TV.int IntKind.i64 (0 : Int))) (brc (W.ilt w (0 : Int)) (Q (TV.int IntKind.i64 (0 : Int))) (brc (W.igt w (64 : Int)) (Q (TV.int IntKind.i64 (0 : Int))) (Q (TV.int IntKind.i64 (W.quo IntKind.i64 (W.add IntKind.i64 (W.mul IntKind.i64 n w) (7 : Int)) (8 : Int)))))))) := by kernel_rfl
theorem nf32 (x : Int) (Q : TV → Prop) : wpFn Try.prog (knownL [] noneK noneK) Try.f32 [.c (.a (.x (.int .u64 x)))] Q = (
  brc (W.ige x (4294967296 : Int)) (brc (W.ige (W.shr IntKind.u64 x (32 : Int)) (65536 : Int)) (brc (W.ige (W.shr IntKind.u64 (W.shr IntKind.u64 x (32 : Int)) (16 : Int)) (256 : Int)) (grd (W.ile (0 : Int) (W.wrap IntKind.u8 (W.shr IntKind.u64 (W.shr IntKind.u64 (W.shr IntKind.u64 x (32 : Int)) (16 : Int)) (8 : Int)))) (grd (W.nlt (W.toNat (W.wrap IntKind.u8 (W.shr IntKind.u64 (W.shr IntKind.u64 (W.shr IntKind.u64 x (32 : Int)) (16 : Int)) (8 : Int)))) (256 : Nat)) (Q (TV.int IntKind.i64 (W.add IntKind.i64 (56 : Int) (W.wrap IntKind.i64 (W.u8 (W.nth Sp.tab8 (W.toNat (W.wrap IntKind.u8 (W.shr IntKind.u64 (W.shr IntKind.u64 (W.shr IntKind.u64 x (32 : Int)) (16 : Int)) (8 : Int)))) (0 : UInt8))))))))) (grd (W.ile (0 : Int) (W.wrap IntKind.u8 (W.shr IntKind.u64 (W.shr IntKind.u64 x (32 : Int)) (16 : Int)))) (grd (W.nlt (W.toNat (W.wrap IntKind.u8 (W.shr IntKind.u64 (W.shr IntKind.u64 x (32 : Int)) (16 : Int)))) (256 : Nat)) (Q (TV.int IntKind.i64 (W.add IntKind.i64 (48 : Int) (W.wrap IntKind.i64 (W.u8 (W.nth Sp.tab8 (W.toNat (W.wrap IntKind.u8 (W.shr IntKind.u64 (W.shr IntKind.u64 x (32 : Int)) (16 : Int)))) (0 : UInt8)))))))))) (brc (W.ige (W.shr IntKind.u64 x (32 : Int)) (256 : Int)) (grd (W.ile (0 : Int) (W.wrap IntKind.u8 (W.shr IntKind.u64 (W.shr IntKind.u64 x (32 : Int)) (8 : Int)))) (grd (W.nlt (W.toNat (W.wrap IntKind.u8 (W.shr IntKind.u64 (W.shr IntKind.u64 x (32 : Int)) (8 : Int)))) (256 : Nat)) (Q (TV.int IntKind.i64 (W.add IntKind.i64 (40 : Int) (W.wrap IntKind.i64 (W.u8 (W.nth Sp.tab8 (W.toNat (W.wrap IntKind.u8 (W.shr IntKind.u64 (W.shr IntKind.u64 x (32 : Int)) (8 : Int)))) (0 : UInt8))))))))) (grd (W.ile (0 : Int) (W.wrap IntKind.u8 (W.shr IntKind.u64 x (32 : Int)))) (grd (W.nlt (W.toNat (W.wrap IntKind.u8 (W.shr IntKind.u64 x (32 : Int)))) (256 : Nat)) (Q (TV.int IntKind.i64 (W.add IntKind.i64 (32 : Int) (W.wrap IntKind.i64 (W.u8 (W.nth Sp.tab8 (W.toNat (W.wrap IntKind.u8 (W.shr IntKind.u64 x (32 : Int)))) (0 : UInt8))))))))))) (brc (W.ige x (65536 : Int)) (brc (W.ige (W.shr IntKind.u64 x (16 : Int)) (256 : Int)) (grd (W.ile (0 : Int) (W.wrap IntKind.u8 (W.shr IntKind.u64 (W.shr IntKind.u64 x (16 : Int)) (8 : Int)))) (grd (W.nlt (W.toNat (W.wrap IntKind.u8 (W.shr IntKind.u64 (W.shr IntKind.u64 x (16 : Int)) (8 : Int)))) (256 : Nat)) (Q (TV.int IntKind.i64 (W.add IntKind.i64 (24 : Int) (W.wrap IntKind.i64 (W.u8 (W.nth Sp.tab8 (W.toNat (W.wrap IntKind.u8 (W.shr IntKind.u64 (W.shr IntKind.u64 x (16 : Int)) (8 : Int)))) (0 : UInt8))))))))) (grd (W.ile (0 : Int) (W.wrap IntKind.u8 (W.shr IntKind.u64 x (16 : Int)))) (grd (W.nlt (W.toNat (W.wrap IntKind.u8 (W.shr IntKind.u64 x (16 : Int)))) (256 : Nat)) (Q (TV.int IntKind.i64 (W.add IntKind.i64 (16 : Int) (W.wrap IntKind.i64 (W.u8 (W.nth Sp.tab8 (W.toNat (W.wrap IntKind.u8 (W.shr IntKind.u64 x (16 : Int)))) (0 : UInt8)))))))))) (brc (W.ige x (256 : Int)) (grd (W.ile (0 : Int) (W.wrap IntKind.u8 (W.shr IntKind.u64 x (8 : Int)))) (grd (W.nlt (W.toNat (W.wrap IntKind.u8 (W.shr IntKind.u64 x (8 : Int)))) (256 : Nat)) (Q (TV.int IntKind.i64 (W.add IntKind.i64 (8 : Int) (W.wrap IntKind.i64 (W.u8 (W.nth Sp.tab8 (W.toNat (W.wrap IntKind.u8 (W.shr IntKind.u64 x (8 : Int)))) (0 : UInt8))))))))) (grd (W.ile (0 : Int) (W.wrap IntKind.u8 x)) (grd (W.nlt (W.toNat (W.wrap IntKind.u8 x)) (256 : Nat)) (Q (TV.int IntKind.i64 (W.add IntKind.i64 (0 : Int) (W.wrap IntKind.i64 (W.u8 (W.nth Sp.tab8 (W.toNat (W.wrap IntKind.u8 x)) (0 : UInt8)))))))))))) := by kernel_rfl
theorem nf21s (ι : Type) (mk : ι → TSt) (ψ : ι → Post → Prop) (μ : ι → Nat) (l : List Int) (a i : Int) (Φ : Post) (m : Nat) : wpT Try.prog (knownL [ctr32] blk21 noneK) (loopOf (blkC (bodyOf Try.f21) 0)) (mk21 (l, a, i)) (stepK 18 [3, 6, 7, 8] [] [3] [] 0 mk μ ψ m Φ) = (
  brc (W.ilt i (Int.ofNat (List.length l))) (grd (W.ile (0 : Int) i) (grd (W.nlt (W.toNat i) (W.len l)) (∃ j, mkS (18 : Nat) [((3 : Nat), TV.int IntKind.u64 (W.or IntKind.u64 a (W.nth l (W.toNat i) (0 : Int)))), ((6 : Nat), TV.l (39 : Nat) (VT.int IntKind.u64) l), ((7 : Nat), TV.int IntKind.i64 (Int.ofNat (List.length l))), ((8 : Nat), TV.int IntKind.i64 (W.add IntKind.i64 i (1 : Int)))] [] = mk j ∧ μ j < m ∧ ψ j Φ))) (Φ AExit.normal (mkS (18 : Nat) [((3 : Nat), TV.int IntKind.u64 a)] []))) := by kernel_rfl
theorem nf21 (l : List Int) (Q : TV → Prop) : wpFn Try.prog (knownL [ctr32] blk21 noneK) Try.f21 [.c (.sl 39 (.int .u64) (.mk l))] Q = (
  ∃ i, mkS (18 : Nat) [((3 : Nat), TV.int IntKind.u64 (0 : Int)), ((6 : Nat), TV.l (39 : Nat) (VT.int IntKind.u64) l), ((7 : Nat), TV.int IntKind.i64 (W.ofNat (W.len l))), ((8 : Nat), TV.int IntKind.i64 (0 : Int))] [] = mkS (18 : Nat) [((3 : Nat), TV.int IntKind.u64 (Prod.fst (Prod.snd i))), ((6 : Nat), TV.l (39 : Nat) (VT.int IntKind.u64) (asT (List Int) (Prod.fst i))), ((7 : Nat), TV.int IntKind.i64 (Int.ofNat (List.length (Prod.fst i)))), ((8 : Nat), TV.int IntKind.i64 (Prod.snd (Prod.snd i)))] [] ∧ (Sp.inU (Prod.fst i) ∧ List.length (Prod.fst i) < (9223372036854775807 : Nat) ∧ (0 : Int) ≤ Prod.snd (Prod.snd i) ∧ Prod.snd (Prod.snd i) ≤ Int.ofNat (List.length (Prod.fst i)) ∧ Prod.fst (Prod.snd i) = Int.ofNat (Sp.orAll (List.take (Int.toNat (Prod.snd (Prod.snd i))) (Prod.fst i)))) ∧ ((0 : Int) ≤ Int.ofNat (Sp.orAll (Prod.fst i)) ∧ Int.ofNat (Sp.orAll (Prod.fst i)) < (18446744073709551616 : Int)) ∧ Q (TV.int IntKind.i64 (Sp.blen (Int.ofNat (Sp.orAll (Prod.fst i)))))) := by kernel_rfl
theorem nf34s (ι : Type) (mk : ι → TSt) (ψ : ι → Post → Prop) (μ : ι → Nat) (b : List Int) (a u n : Int) (Φ : Post) (m : Nat) : wpT Try.prog (knownD [] [] noneK lab34) (restC (bodyOf Try.f34) 0) (mk34 (b, a, u, n)) (jumpK (knownD [] [] noneK lab34) 37 [0, 1, 2, 3] [500000] [] [500000] (scC (bodyOf Try.f34)) 0 mk μ ψ m Φ) = (
  brc (W.ieq n (0 : Int)) (Φ AExit.ret (mkS (37 : Nat) [] [((500000 : Nat), TOb.arr false (5 : Nat) (VT.int IntKind.u8) b)])) (grd (W.ile (0 : Int) (W.quo IntKind.i64 a (8 : Int))) (grd (W.nlt (W.toNat (W.quo IntKind.i64 a (8 : Int))) (W.len b)) (grd (W.nlt (W.toNat (W.quo IntKind.i64 a (8 : Int))) (W.len b)) (grd (W.ile (0 : Int) (W.rem a (8 : Int))) (grd (W.ile (0 : Int) (W.quo IntKind.i64 a (8 : Int))) (grd (W.nlt (W.toNat (W.quo IntKind.i64 a (8 : Int))) (W.len b)) (grd (W.nlt (W.toNat (W.quo IntKind.i64 a (8 : Int))) (W.len b)) (grd (W.ile (0 : Int) (W.imin n (W.sub IntKind.i64 (8 : Int) (W.rem a (8 : Int))))) (∃ j, mkS (37 : Nat) [((0 : Nat), TV.h (500000 : Nat)), ((1 : Nat), TV.int IntKind.i64 (W.add IntKind.i64 a (W.imin n (W.sub IntKind.i64 (8 : Int) (W.rem a (8 : Int)))))), ((2 : Nat), TV.int IntKind.u64 (W.shr IntKind.u64 u (W.imin n (W.sub IntKind.i64 (8 : Int) (W.rem a (8 : Int)))))), ((3 : Nat), TV.int IntKind.i64 (W.sub IntKind.i64 n (W.imin n (W.sub IntKind.i64 (8 : Int) (W.rem a (8 : Int))))))] [((500000 : Nat), TOb.arr false (5 : Nat) (VT.int IntKind.u8) (asT (List Int) (W.upd b (W.toNat (W.quo IntKind.i64 a (8 : Int))) (W.or IntKind.u8 (W.nth b (W.toNat (W.quo IntKind.i64 a (8 : Int))) (0 : Int)) (W.wrap IntKind.u8 (W.shl IntKind.u64 u (W.rem a (8 : Int))))))))] = mk j ∧ μ j < m ∧ ψ j Φ)))))))))) := by kernel_rfl
theorem nf34 (b : List Int) (a u n : Int) (Q : List Int × Unit → TV → Prop) : wpFnL Try.prog (knownD [] [] noneK lab34) Try.f34 [.m 5 (.int .u8), .v (.int .i64), .v (.int .u64), .v (.int .i64)] ((b, a, u, n, ()) : List Int × Int × Int × Int × Unit) Q = (
  brc (W.ieq n (0 : Int)) (Q (b, PUnit.unit) (TV.tup [])) (grd (W.ile (0 : Int) (W.quo IntKind.i64 a (8 : Int))) (grd (W.nlt (W.toNat (W.quo IntKind.i64 a (8 : Int))) (W.len b)) (grd (W.nlt (W.toNat (W.quo IntKind.i64 a (8 : Int))) (W.len b)) (grd (W.ile (0 : Int) (W.rem a (8 : Int))) (grd (W.ile (0 : Int) (W.quo IntKind.i64 a (8 : Int))) (grd (W.nlt (W.toNat (W.quo IntKind.i64 a (8 : Int))) (W.len b)) (grd (W.nlt (W.toNat (W.quo IntKind.i64 a (8 : Int))) (W.len b)) (grd (W.ile (0 : Int) (W.imin n (W.sub IntKind.i64 (8 : Int) (W.rem a (8 : Int))))) (∃ i, mkS (37 : Nat) [((0 : Nat), TV.h (500000 : Nat)), ((1 : Nat), TV.int IntKind.i64 (W.add IntKind.i64 a (W.imin n (W.sub IntKind.i64 (8 : Int) (W.rem a (8 : Int)))))), ((2 : Nat), TV.int IntKind.u64 (W.shr IntKind.u64 u (W.imin n (W.sub IntKind.i64 (8 : Int) (W.rem a (8 : Int)))))), ((3 : Nat), TV.int IntKind.i64 (W.sub IntKind.i64 n (W.imin n (W.sub IntKind.i64 (8 : Int) (W.rem a (8 : Int))))))] [((500000 : Nat), TOb.arr false (5 : Nat) (VT.int IntKind.u8) (asT (List Int) (W.upd b (W.toNat (W.quo IntKind.i64 a (8 : Int))) (W.or IntKind.u8 (W.nth b (W.toNat (W.quo IntKind.i64 a (8 : Int))) (0 : Int)) (W.wrap IntKind.u8 (W.shl IntKind.u64 u (W.rem a (8 : Int))))))))] = mkS (37 : Nat) [((0 : Nat), TV.h (500000 : Nat)), ((1 : Nat), TV.int IntKind.i64 (Prod.fst (Prod.snd i))), ((2 : Nat), TV.int IntKind.u64 (Prod.fst (Prod.snd (Prod.snd i)))), ((3 : Nat), TV.int IntKind.i64 (Prod.snd (Prod.snd (Prod.snd i))))] [((500000 : Nat), TOb.arr false (5 : Nat) (VT.int IntKind.u8) (asT (List Int) (Prod.fst i)))] ∧ (Sp.bytes (Prod.fst i) ∧ List.length (Prod.fst i) < (1000000 : Nat) ∧ (0 : Int) ≤ Prod.fst (Prod.snd i) ∧ (0 : Int) ≤ Prod.snd (Prod.snd (Prod.snd i)) ∧ Prod.snd (Prod.snd (Prod.snd i)) ≤ (64 : Int) ∧ Prod.fst (Prod.snd i) + Prod.snd (Prod.snd (Prod.snd i)) ≤ (8 : Int) * Int.ofNat (List.length (Prod.fst i)) ∧ (0 : Int) ≤ Prod.fst (Prod.snd (Prod.snd i)) ∧ Int.toNat (Prod.fst (Prod.snd (Prod.snd i))) < Nat.pow (2 : Nat) (Int.toNat (Prod.snd (Prod.snd (Prod.snd i))))) ∧ Q (Sp.putB (Prod.fst i) (Prod.fst (Prod.snd i)) (Prod.fst (Prod.snd (Prod.snd i))), PUnit.unit) (TV.tup []))))))))))) := by kernel_rfl
theorem nf41s (ι : Type) (mk : ι → TSt) (ψ : ι → Post → Prop) (μ : ι → Nat) (b : List Int) (a n u h : Int) (Φ : Post) (m : Nat) : wpT Try.prog (knownL [] noneK lab41) (restC (bodyOf Try.f41) 0) (mk41 (b, a, n, u, h)) (jumpK (knownL [] noneK lab41) 44 [0, 1, 2, 7, 8] [] [6] [] (scC (bodyOf Try.f41)) 0 mk μ ψ m Φ) = (
  brc (W.ieq h n) (Φ AExit.ret (mkS (44 : Nat) [((6 : Nat), TV.int IntKind.u64 u)] [])) (grd (W.ile (0 : Int) (W.quo IntKind.i64 a (8 : Int))) (grd (W.nlt (W.toNat (W.quo IntKind.i64 a (8 : Int))) (W.len b)) (grd (W.ile (0 : Int) (W.rem a (8 : Int))) (grd (W.ile (0 : Int) (W.imin (W.sub IntKind.i64 n h) (W.sub IntKind.i64 (8 : Int) (W.rem a (8 : Int))))) (grd (W.ile (0 : Int) h) (∃ j, mkS (44 : Nat) [((0 : Nat), TV.l (5 : Nat) (VT.int IntKind.u8) b), ((1 : Nat), TV.int IntKind.i64 (W.add IntKind.i64 a (W.imin (W.sub IntKind.i64 n h) (W.sub IntKind.i64 (8 : Int) (W.rem a (8 : Int)))))), ((2 : Nat), TV.int IntKind.i64 n), ((7 : Nat), TV.int IntKind.u64 (W.or IntKind.u64 u (W.shl IntKind.u64 (W.wrap IntKind.u64 (W.and IntKind.u8 (W.shr IntKind.u8 (W.nth b (W.toNat (W.quo IntKind.i64 a (8 : Int))) (0 : Int)) (W.rem a (8 : Int))) (W.sub IntKind.u8 (W.shl IntKind.u8 (1 : Int) (W.imin (W.sub IntKind.i64 n h) (W.sub IntKind.i64 (8 : Int) (W.rem a (8 : Int))))) (1 : Int)))) h))), ((8 : Nat), TV.int IntKind.i64 (W.add IntKind.i64 h (W.imin (W.sub IntKind.i64 n h) (W.sub IntKind.i64 (8 : Int) (W.rem a (8 : Int))))))] [] = mk j ∧ μ j < m ∧ ψ j Φ))))))) := by kernel_rfl
theorem nf41 (b : List Int) (a n : Int) (Q : TV → Prop) : wpFn Try.prog (knownL [] noneK lab41) Try.f41 [.c (.sl 5 (.int .u8) (.mk b)), .c (.a (.x (.int .i64 a))), .c (.a (.x (.int .i64 n)))] Q = (
  brc (W.ieq (0 : Int) n) (Q (TV.int IntKind.u64 (0 : Int))) (grd (W.ile (0 : Int) (W.quo IntKind.i64 a (8 : Int))) (grd (W.nlt (W.toNat (W.quo IntKind.i64 a (8 : Int))) (W.len b)) (grd (W.ile (0 : Int) (W.rem a (8 : Int))) (grd (W.ile (0 : Int) (W.imin (W.sub IntKind.i64 n (0 : Int)) (W.sub IntKind.i64 (8 : Int) (W.rem a (8 : Int))))) (∃ i, mkS (44 : Nat) [((0 : Nat), TV.l (5 : Nat) (VT.int IntKind.u8) b), ((1 : Nat), TV.int IntKind.i64 (W.add IntKind.i64 a (W.imin (W.sub IntKind.i64 n (0 : Int)) (W.sub IntKind.i64 (8 : Int) (W.rem a (8 : Int)))))), ((2 : Nat), TV.int IntKind.i64 n), ((7 : Nat), TV.int IntKind.u64 (W.or IntKind.u64 (0 : Int) (W.shl IntKind.u64 (W.wrap IntKind.u64 (W.and IntKind.u8 (W.shr IntKind.u8 (W.nth b (W.toNat (W.quo IntKind.i64 a (8 : Int))) (0 : Int)) (W.rem a (8 : Int))) (W.sub IntKind.u8 (W.shl IntKind.u8 (1 : Int) (W.imin (W.sub IntKind.i64 n (0 : Int)) (W.sub IntKind.i64 (8 : Int) (W.rem a (8 : Int))))) (1 : Int)))) (0 : Int)))), ((8 : Nat), TV.int IntKind.i64 (W.add IntKind.i64 (0 : Int) (W.imin (W.sub IntKind.i64 n (0 : Int)) (W.sub IntKind.i64 (8 : Int) (W.rem a (8 : Int))))))] [] = mkS (44 : Nat) [((0 : Nat), TV.l (5 : Nat) (VT.int IntKind.u8) (asT (List Int) (Prod.fst i))), ((1 : Nat), TV.int IntKind.i64 (Prod.fst (Prod.snd i))), ((2 : Nat), TV.int IntKind.i64 (Prod.fst (Prod.snd (Prod.snd i)))), ((7 : Nat), TV.int IntKind.u64 (Prod.fst (Prod.snd (Prod.snd (Prod.snd i))))), ((8 : Nat), TV.int IntKind.i64 (Prod.snd (Prod.snd (Prod.snd (Prod.snd i)))))] [] ∧ ∃ a, (Sp.bytes (Prod.fst i) ∧ List.length (Prod.fst i) < (1000000 : Nat) ∧ (0 : Int) ≤ a ∧ (0 : Int) ≤ Prod.fst (Prod.snd (Prod.snd i)) ∧ Prod.fst (Prod.snd (Prod.snd i)) ≤ (64 : Int) ∧ a + Prod.fst (Prod.snd (Prod.snd i)) ≤ (8 : Int) * Int.ofNat (List.length (Prod.fst i))) ∧ Prod.fst (Prod.snd i) = a + Prod.snd (Prod.snd (Prod.snd (Prod.snd i))) ∧ (0 : Int) ≤ Prod.snd (Prod.snd (Prod.snd (Prod.snd i))) ∧ Prod.snd (Prod.snd (Prod.snd (Prod.snd i))) ≤ Prod.fst (Prod.snd (Prod.snd i)) ∧ Prod.fst (Prod.snd (Prod.snd (Prod.snd i))) = Sp.getB (Prod.fst i) a (Prod.snd (Prod.snd (Prod.snd (Prod.snd i)))) ∧ Q (TV.int IntKind.u64 (Sp.getB (Prod.fst i) a (Prod.fst (Prod.snd (Prod.snd i))))))))))) := by kernel_rfl
end Go.Proofs.Ytmpnelihfeiimaa
end

section
set_option maxRecDepth 100000
namespace Sp
open Go Go.AbsM
theorem mayB_iff {n w : Int} : mayB n w = true ↔ (0 ≤ n ∧ n ≤ 65536 ∧ 0 ≤ w ∧ w ≤ 64) := decide_eq_true_iff
theorem mayB_not {n w : Int} : mayB n w = false ↔ ¬ (0 ≤ n ∧ n ≤ 65536 ∧ 0 ≤ w ∧ w ≤ 64) := decide_eq_false_iff_not
theorem mul_le {n w : Int} (h : 0 ≤ n ∧ n ≤ 65536 ∧ 0 ≤ w ∧ w ≤ 64) : 0 ≤ n * w ∧ n * w ≤ 4194304 := by
  refine ⟨Int.mul_nonneg h.1 h.2.2.1, ?_⟩
  calc n * w ≤ 65536 * w := Int.mul_le_mul_of_nonneg_right h.2.1 h.2.2.1
    _ ≤ 65536 * 64 := Int.mul_le_mul_of_nonneg_left h.2.2.2 (by omega)
theorem size_eq {n w : Int} (h : 0 ≤ n ∧ n ≤ 65536 ∧ 0 ≤ w ∧ w ≤ 64) : W.quo .i64 (W.add .i64 (W.mul .i64 n w) 7) 8 = size n w := by
  have hm := mul_le h
  rw [W.mul_i64 (by omega) (by omega), W.add_i64 (by omega) (by omega), W.quo_i64 (by omega) (by omega) (by omega)]
  unfold size; rw [if_pos (mayB_iff.2 h)]
theorem size_zero {n w : Int} (h : ¬ (0 ≤ n ∧ n ≤ 65536 ∧ 0 ≤ w ∧ w ≤ 64)) : size n w = 0 := by
  unfold size; rw [if_neg (by rw [mayB_not.2 h]; decide)]
theorem bitLen_shr {x s : Nat} (h : 2 ^ s ≤ x) : bitLen x = bitLen (x >>> s) + s := by
  have hx : x ≠ 0 := by have := Nat.two_pow_pos s; omega
  have hx2 : x >>> s ≠ 0 := by
    rw [Nat.shiftRight_eq_div_pow]
    have := Nat.div_pos h (Nat.two_pow_pos s); omega
  unfold bitLen
  rw [if_neg hx, if_neg hx2]
  have h1 : (x >>> s).log2 + s = x.log2 := by
    apply Eq.symm
    rw [Nat.log2_eq_iff hx]
    have a1 := Nat.log2_self_le hx2
    have a2 := Nat.lt_log2_self (n := x >>> s)
    rw [Nat.shiftRight_eq_div_pow] at a1 a2 ⊢
    constructor
    · rw [Nat.pow_add]
      calc 2 ^ (x / 2 ^ s).log2 * 2 ^ s ≤ (x / 2 ^ s) * 2 ^ s := Nat.mul_le_mul_right _ a1
        _ ≤ x := Nat.div_mul_le_self x _
    · have e : (x / 2 ^ s).log2 + s + 1 = ((x / 2 ^ s).log2 + 1) + s := by omega
      rw [e, Nat.pow_add]
      exact (Nat.div_lt_iff_lt_mul (Nat.two_pow_pos s)).1 a2
  omega
theorem tab8_ok : ∀ i : Fin 256, (tab8.getD i.val 0).toNat = bitLen i.val := by decide +kernel
theorem tab8_get {i : Nat} (h : i < 256) : W.u8 (W.nth tab8 i (0 : UInt8)) = ((bitLen i : Nat) : Int) := by
  have := tab8_ok ⟨i, h⟩
  show (((tab8.getD i 0).toNat : Nat) : Int) = _
  rw [this]
theorem bitLen_8 {i : Nat} (h : i < 256) : bitLen i ≤ 8 := bitLen_le.2 h
theorem orAll_lt {l : List Int} (h : inU l) : orAll l < 2 ^ 64 := by
  induction l with
  | nil => decide
  | cons x r ih =>
    have hx := h x List.mem_cons_self
    exact Nat.or_lt_two_pow (by show x.toNat < 18446744073709551616; omega) (ih fun y hy => h y (List.mem_cons_of_mem _ hy))
theorem orAll_app : ∀ (a b : List Int), orAll (a ++ b) = orAll a ||| orAll b
  | [], b => by simp [orAll]
  | x :: a, b => by rw [List.cons_append, orAll, orAll_app a b, orAll, Nat.or_assoc]
theorem orAll_take {l : List Int} {i : Nat} (h : i < l.length) : orAll (l.take (i + 1)) = orAll (l.take i) ||| (l.getD i 0).toNat := by
  have e : l.take (i + 1) = l.take i ++ [l.getD i 0] := by
    rw [List.take_add_one, List.getElem?_eq_getElem h, List.getD_eq_getElem?_getD, List.getElem?_eq_getElem h]; rfl
  rw [e, orAll_app]; simp [orAll]
theorem inU_take {l : List Int} (h : inU l) (i : Nat) : inU (l.take i) := fun x hx => h x (List.mem_of_mem_take hx)
theorem inU_getD {l : List Int} (h : inU l) {i : Nat} (hi : i < l.length) : 0 ≤ l.getD i 0 ∧ l.getD i 0 < 18446744073709551616 := by
  rw [List.getD_eq_getElem?_getD, List.getElem?_eq_getElem hi]; exact h _ (List.getElem_mem hi)
end Sp
namespace Go.Proofs.Ytmpnelihfeiimaa
open Go.AbsM
theorem good40 : GoodC Try.prog ctr40 := by
  refine good_plain (fn := Try.f40) wide .nil ⟨by kernel_rfl, by kernel_rfl, by kernel_rfl, by kernel_rfl⟩ (by kernel_rfl) fun d hd => Blk.un ?_
  obtain ⟨n, w, x⟩ : Int × Int × Unit := d
  refine Blk.nf (nf40 n w _) ?_
  have no : ¬ (0 ≤ n ∧ n ≤ 65536 ∧ 0 ≤ w ∧ w ≤ 64) → TV.bool false = TV.bool (Sp.mayB n w) := fun h => congrArg TV.bool (Sp.mayB_not.2 h).symm
  refine brc_ige (fun h1 => brc_ile (fun h2 => brc_ige (fun h3 => ?_) fun h3 => no (by omega)) fun h2 => no (by omega)) fun h1 => no (by omega)
  refine congrArg TV.bool ?_
  unfold W.ile Sp.mayB
  by_cases h : w ≤ 64
  · rw [decide_eq_true h, decide_eq_true ⟨h1, h2, h3, h⟩]
  · rw [decide_eq_false h, decide_eq_false (fun hh => h hh.2.2.2)]
theorem good43L : Goods Try.prog [ctr40] := .cons good40 .nil
theorem good33 : GoodC Try.prog ctr33 := by
  refine good_plain (fn := Try.f33) wide good43L ⟨by kernel_rfl, by kernel_rfl, by kernel_rfl, by kernel_rfl⟩ (by kernel_rfl) fun d hd => Blk.un ?_
  obtain ⟨n, w, x⟩ : Int × Int × Unit := d
  refine Blk.nf (nf33 n w _) ⟨trivial, brc_bnot (fun h => ?_) fun h => ?_⟩
  · exact congrArg (TV.int .i64) (Sp.size_zero (Sp.mayB_not.1 h)).symm
  · exact congrArg (TV.int .i64) (Sp.size_eq (Sp.mayB_iff.1 h))
theorem good35 : GoodC Try.prog ctr35 := by
  refine good_plain (fn := Try.f35) wide .nil ⟨by kernel_rfl, by kernel_rfl, by kernel_rfl, by kernel_rfl⟩ (by kernel_rfl) fun d hd => Blk.un ?_
  obtain ⟨n, w, x⟩ : Int × Int × Unit := d
  have no : ¬ (0 ≤ n ∧ n ≤ 65536 ∧ 0 ≤ w ∧ w ≤ 64) → TV.int .i64 0 = TV.int .i64 (Sp.size n w) := fun h => congrArg (TV.int .i64) (Sp.size_zero h).symm
  refine Blk.nf (nf35 n w _) ?_
  refine brc_ilt (fun h => no (by omega)) fun h1 => brc_igt (fun h => no (by omega)) fun h2 => brc_ilt (fun h => no (by omega)) fun h3 => brc_igt (fun h => no (by omega)) fun h4 => ?_
  exact congrArg (TV.int .i64) (Sp.size_eq ⟨by omega, by omega, by omega, by omega⟩)
theorem len_end {y k : Nat} {x : Nat} (hy : y < 256) (hk : k ≤ 56) (he : Sp.bitLen x = Sp.bitLen y + k) {c : Int} (hc : c = (k : Int)) :
    grd (W.ile 0 (W.wrap .u8 (y : Int))) (grd (W.nlt (W.toNat (W.wrap .u8 (y : Int))) 256) (TV.int .i64 (W.add .i64 c (W.wrap .i64 (W.u8 (W.nth Sp.tab8 (W.toNat (W.wrap .u8 (y : Int))) (0 : UInt8))))) = TV.int .i64 (Sp.blen (x : Int)))) := by
  have e1 : W.wrap .u8 (y : Int) = (y : Int) := W.wu8_in (by omega) (by omega)
  have e2 : W.toNat (y : Int) = y := rfl
  have h8 := Sp.bitLen_8 hy
  rw [e1, e2, Sp.tab8_get hy, W.wi64_in (by omega) (by omega), hc, W.add_i64 (by omega) (by omega)]
  refine grd_ile (by omega) (grd_nlt hy ?_)
  refine congrArg (TV.int .i64) ?_
  show ((k : Nat) : Int) + ((Sp.bitLen y : Nat) : Int) = ((Sp.bitLen (x : Int).toNat : Nat) : Int)
  rw [Int.toNat_natCast, he]; omega
theorem good32 : GoodC Try.prog ctr32 := by
  refine good_plain (fn := Try.f32) wide .nil ⟨by kernel_rfl, by kernel_rfl, by kernel_rfl, by kernel_rfl⟩ (by kernel_rfl) fun d hd => Blk.un ?_
  obtain ⟨x, u⟩ : Int × Unit := d
  obtain ⟨h0, h1⟩ : 0 ≤ x ∧ x < 18446744073709551616 := hd
  obtain ⟨X, rfl⟩ : ∃ X : Nat, x = X := ⟨x.toNat, by omega⟩
  refine Blk.nf (nf32 _ _) ?_
  have s32 : W.shr .u64 (X : Int) 32 = ((X >>> 32 : Nat) : Int) := Sp.shr_nat (k := .u64) (s := 32) (by decide)
  have s16 : ∀ Y : Nat, W.shr .u64 (Y : Int) 16 = ((Y >>> 16 : Nat) : Int) := fun Y => Sp.shr_nat (k := .u64) (s := 16) (by decide)
  have s8 : ∀ Y : Nat, W.shr .u64 (Y : Int) 8 = ((Y >>> 8 : Nat) : Int) := fun Y => Sp.shr_nat (k := .u64) (s := 8) (by decide)
  simp only [s32, s16, s8]
  have d32 : ∀ Y : Nat, Y >>> 32 = Y / 4294967296 := fun Y => Nat.shiftRight_eq_div_pow Y 32
  have d16 : ∀ Y : Nat, Y >>> 16 = Y / 65536 := fun Y => Nat.shiftRight_eq_div_pow Y 16
  have d8 : ∀ Y : Nat, Y >>> 8 = Y / 256 := fun Y => Nat.shiftRight_eq_div_pow Y 8
  have b32 : ∀ Y : Nat, 4294967296 ≤ Y → Sp.bitLen Y = Sp.bitLen (Y >>> 32) + 32 := fun Y h => Sp.bitLen_shr (s := 32) h
  have b16 : ∀ Y : Nat, 65536 ≤ Y → Sp.bitLen Y = Sp.bitLen (Y >>> 16) + 16 := fun Y h => Sp.bitLen_shr (s := 16) h
  have b8 : ∀ Y : Nat, 256 ≤ Y → Sp.bitLen Y = Sp.bitLen (Y >>> 8) + 8 := fun Y h => Sp.bitLen_shr (s := 8) h
  refine brc_ige (fun h => brc_ige (fun h2 => brc_ige (fun h3 => ?_) fun h3 => ?_) fun h2 => brc_ige (fun h3 => ?_) fun h3 => ?_) fun h => brc_ige (fun h2 => brc_ige (fun h3 => ?_) fun h3 => ?_) fun h2 => brc_ige (fun h3 => ?_) fun h3 => ?_
  · exact len_end (k := 56) (by rw [d8, d16, d32]; omega) (by omega) (by rw [b32 X (by omega), b16 _ (by omega), b8 _ (by omega)]) rfl
  · exact len_end (k := 48) (by omega) (by omega) (by rw [b32 X (by omega), b16 _ (by omega)]) rfl
  · exact len_end (k := 40) (by rw [d8]; omega) (by omega) (by rw [b32 X (by omega), b8 _ (by omega)]) rfl
  · exact len_end (k := 32) (by omega) (by omega) (by rw [b32 X (by omega)]) rfl
  · exact len_end (k := 24) (by rw [d8, d16]; omega) (by omega) (by rw [b16 X (by omega), b8 _ (by omega)]) rfl
  · exact len_end (k := 16) (by omega) (by omega) (by rw [b16 X (by omega)]) rfl
  · exact len_end (k := 8) (by rw [d8]; omega) (by omega) (by rw [b8 X (by omega)]) rfl
  · exact len_end (k := 0) (by omega) (by omega) rfl rfl
theorem good42L : Goods Try.prog [ctr32] := .cons good32 .nil
theorem good21 : GoodC Try.prog ctr21 := by
  refine good_loop (fn := Try.f21) [3] [] (fun i : List Int × Int × Int => (i.1.length - i.2.2).toNat) wide good42L ⟨by kernel_rfl, by kernel_rfl, by kernel_rfl, by kernel_rfl⟩ (by kernel_rfl) (by kernel_rfl) (by kernel_rfl) (by kernel_rfl) (n := 18) (ls := [3, 6, 7, 8]) (ks := []) (mk := mk21) (ψ := psi21) (id := 0) ?_ ?_
  · rintro ⟨l, a, i⟩ Φ ⟨⟨hl, hlen, h0, h1, ha⟩, hΦ⟩
    simp only at hl hlen h0 h1 ha hΦ
    obtain ⟨n, rfl⟩ : ∃ n : Nat, i = n := ⟨i.toNat, by omega⟩
    rw [Int.toNat_natCast] at ha
    subst ha
    refine Eq.mpr (nf21s _ _ _ _ l _ n Φ _) ?_
    refine brc_ilt (fun h => ?_) fun h => ?_
    · have h : n < l.length := by have : ((n : Nat) : Int) < ((l.length : Nat) : Int) := h; omega
      have hg := Sp.inU_getD hl h
      have e3 : W.nth l (W.toNat (n : Int)) 0 = (((l.getD n 0).toNat : Nat) : Int) := by show l.getD n 0 = _; omega
      have ho := Sp.orAll_lt (Sp.inU_take hl n)
      have e4 : W.or .u64 ((Sp.orAll (l.take n) : Nat) : Int) (W.nth l (W.toNat (n : Int)) 0) = ((Sp.orAll (l.take (n + 1)) : Nat) : Int) := by
        rw [e3, Sp.or_u64 ho (by omega), Sp.orAll_take h]
      have e5 : W.add .i64 (n : Int) 1 = (n : Int) + 1 := W.add_i64 (by omega) (by omega)
      rw [e4, e5]
      refine grd_ile (by omega) (grd_nlt h ⟨(l, _, (n : Int) + 1), rfl, ?_, ⟨hl, hlen, ?_, ?_, ?_⟩, hΦ⟩)
      · show ((l.length : Int) - ((n : Int) + 1)).toNat < ((l.length : Int) - (n : Int)).toNat; omega
      · show 0 ≤ (n : Int) + 1; omega
      · show (n : Int) + 1 ≤ l.length; omega
      · show ((Sp.orAll (l.take (n + 1)) : Nat) : Int) = ((Sp.orAll (l.take ((n : Int) + 1).toNat) : Nat) : Int)
        have : ((n : Int) + 1).toNat = n + 1 := by omega
        rw [this]
    · have h : ((l.length : Nat) : Int) ≤ (n : Int) := h
      have : n = l.length := by omega
      subst this
      rw [List.take_length]; exact hΦ
  · intro d hd
    obtain ⟨l, x⟩ : List Int × Unit := d
    obtain ⟨hl, hlen⟩ : Sp.inU l ∧ l.length < 9223372036854775807 := hd
    have ho := Sp.orAll_lt hl
    refine Eq.mpr (nf21 l _) ⟨(l, 0, 0), rfl, ⟨hl, hlen, Int.le_refl _, ?_, rfl⟩, ⟨?_, ?_⟩, rfl⟩
    · show (0 : Int) ≤ l.length; omega
    · show (0 : Int) ≤ ((Sp.orAll l : Nat) : Int); omega
    · show ((Sp.orAll l : Nat) : Int) < 18446744073709551616
      have : Sp.orAll l < 18446744073709551616 := ho
      omega
theorem pow_le_64 {N : Nat} (h : N ≤ 64) : (2 : Nat) ^ N ≤ 18446744073709551616 := Nat.pow_le_pow_right (by decide) h
theorem step34 {b : List Int} {A U N : Nat} (h : pre34 b (A : Int) (U : Int) (N : Int)) (hN : N ≠ 0) {X : List Int → Int → Int → Int → Prop}
    (k : ∀ b' A' U' N', pre34 b' A' U' N' → Sp.putB b' A' U' = Sp.putB b (A : Int) (U : Int) → N'.toNat < N → X b' A' U' N') :
    grd (W.ile 0 (W.quo .i64 (A : Int) 8)) (grd (W.nlt (W.toNat (W.quo .i64 (A : Int) 8)) (W.len b)) (grd (W.nlt (W.toNat (W.quo .i64 (A : Int) 8)) (W.len b)) (grd (W.ile 0 (W.rem (A : Int) 8)) (grd (W.ile 0 (W.quo .i64 (A : Int) 8)) (grd (W.nlt (W.toNat (W.quo .i64 (A : Int) 8)) (W.len b)) (grd (W.nlt (W.toNat (W.quo .i64 (A : Int) 8)) (W.len b)) (grd (W.ile 0 (W.imin (N : Int) (W.sub .i64 8 (W.rem (A : Int) 8))))
      (X (W.upd b (W.toNat (W.quo .i64 (A : Int) 8)) (W.or .u8 (W.nth b (W.toNat (W.quo .i64 (A : Int) 8)) 0) (W.wrap .u8 (W.shl .u64 (U : Int) (W.rem (A : Int) 8))))) (W.add .i64 (A : Int) (W.imin (N : Int) (W.sub .i64 8 (W.rem (A : Int) 8)))) (W.shr .u64 (U : Int) (W.imin (N : Int) (W.sub .i64 8 (W.rem (A : Int) 8)))) (W.sub .i64 (N : Int) (W.imin (N : Int) (W.sub .i64 8 (W.rem (A : Int) 8)))))))))))) := by
  obtain ⟨hb, hl, h0, h1, h2, h3, h4, h5⟩ := h
  rw [Int.toNat_natCast, Int.toNat_natCast] at h5
  have hp := pow_le_64 (N := N) (by omega)
  have hm : A % 8 < 8 := Nat.mod_lt _ (by decide)
  have hj : A / 8 < b.length := by omega
  have e1 := Sp.quo8 (A := A) (by omega)
  have e2 := Sp.rem8 A
  have e3 : W.sub .i64 8 ((A % 8 : Nat) : Int) = ((8 - A % 8 : Nat) : Int) := by rw [W.sub_i64 (by omega) (by omega)]; omega
  have e4 : W.toNat ((A / 8 : Nat) : Int) = A / 8 := rfl
  have e5 : W.nth b (A / 8) 0 = (((b.getD (A / 8) 0).toNat : Nat) : Int) := by
    have := Sp.bytes_get hb (A / 8)
    show b.getD (A / 8) 0 = _; omega
  have hg : (b.getD (A / 8) 0).toNat < 256 := by have := Sp.bytes_get hb (A / 8); omega
  rw [e1, e2, e3, Sp.imin_nat, e4, e5, Sp.byte_shl hm, Sp.or_u8n hg (Nat.mod_lt _ (by decide)), W.add_i64 (by omega) (by omega), Sp.shr_nat (k := .u64) (by show min N (8 - A % 8) ≤ 64; omega), W.sub_i64 (by omega) (by omega)]
  obtain ⟨q1, q2⟩ := Sp.put_all hb (A := A) (U := U) (N := N) (by omega) h5 hN
  have e6 : (A : Int) + ((min N (8 - A % 8) : Nat) : Int) = ((A + min N (8 - A % 8) : Nat) : Int) := by omega
  have e7 : (N : Int) - ((min N (8 - A % 8) : Nat) : Int) = ((N - min N (8 - A % 8) : Nat) : Int) := by omega
  rw [e6, e7]
  refine grd_ile (by omega) (grd_nlt hj (grd_nlt hj (grd_ile (by omega) (grd_ile (by omega) (grd_nlt hj (grd_nlt hj (grd_ile (by omega) (k _ _ _ _ ⟨q1, ?_, by omega, by omega, by omega, ?_, Int.natCast_nonneg _, ?_⟩ q2 (by rw [Int.toNat_natCast]; omega)))))))))
  · show (b.set _ _).length < 1000000; rw [List.length_set]; exact hl
  · show _ ≤ 8 * (((b.set _ _).length : Nat) : Int); rw [List.length_set]; omega
  · rw [Int.toNat_natCast, Int.toNat_natCast]; exact Sp.shr_lt h5 (by omega)
theorem put0 {b : List Int} {a u : Int} (hb : Sp.bytes b) (h : u.toNat < 2 ^ 0) : Sp.putB b a u = b := by
  have : u.toNat = 0 := by simpa using h
  unfold Sp.putB; rw [this, Nat.zero_shiftLeft, Nat.or_zero, Sp.ofVal_valOf b hb]
theorem good34 : GoodL Try.prog lctr34 := by
  refine goodL_jump (fn := Try.f34) (l := 0) [] [500000] (fun i : List Int × Int × Int × Int => i.2.2.2.toNat) wide .nil .nil ⟨by kernel_rfl, by kernel_rfl, by kernel_rfl, by kernel_rfl⟩ (by kernel_rfl) (by kernel_rfl) (by kernel_rfl) (by kernel_rfl) (n := 37) (ls := [0, 1, 2, 3]) (ks := [500000]) (mk := mk34) (ψ := psi34) ?_ ?_
  · rintro ⟨b, a, u, n⟩ Φ ⟨h, hΦ⟩
    have h : pre34 b a u n := h
    obtain ⟨hb, hl, h0, h1, h2, h3, h4, h5⟩ := id h
    obtain ⟨A, rfl⟩ : ∃ A : Nat, a = A := ⟨a.toNat, by omega⟩
    obtain ⟨U, rfl⟩ : ∃ U : Nat, u = U := ⟨u.toNat, by omega⟩
    obtain ⟨N, rfl⟩ : ∃ N : Nat, n = N := ⟨n.toNat, by omega⟩
    refine Eq.mpr (nf34s _ _ _ _ b A U N Φ _) ?_
    refine brc_ieq (fun hz => ?_) fun hz => ?_
    · have hN : N = 0 := by omega
      subst hN
      have := put0 (a := (A : Int)) hb h5
      simp only at hΦ
      rw [this] at hΦ; exact hΦ
    · refine step34 (X := fun b' A' U' N' => ∃ j, mkS 37 [(0, TV.h 500000), (1, TV.int .i64 A'), (2, TV.int .u64 U'), (3, TV.int .i64 N')] [(500000, .arr false 5 (.int .u8) (asT (List Int) b'))] = mk34 j ∧ (fun i : List Int × Int × Int × Int => i.2.2.2.toNat) j < (fun i : List Int × Int × Int × Int => i.2.2.2.toNat) (b, (A : Int), (U : Int), (N : Int)) ∧ psi34 j Φ) h (by omega) fun b' A' U' N' g1 g2 g3 => ⟨(b', A', U', N'), rfl, g3, g1, ?_⟩
      show Φ .ret (mkS 37 [] [(500000, .arr false 5 (.int .u8) (Sp.putB b' A' U'))])
      rw [g2]; exact hΦ
  · intro d hd
    obtain ⟨b, a, u, n, x⟩ : List Int × Int × Int × Int × Unit := d
    have h : pre34 b a u n := hd
    obtain ⟨hb, hl, h0, h1, h2, h3, h4, h5⟩ := id h
    obtain ⟨A, rfl⟩ : ∃ A : Nat, a = A := ⟨a.toNat, by omega⟩
    obtain ⟨U, rfl⟩ : ∃ U : Nat, u = U := ⟨u.toNat, by omega⟩
    obtain ⟨N, rfl⟩ : ∃ N : Nat, n = N := ⟨n.toNat, by omega⟩
    refine Eq.mpr (nf34 b A U N _) ?_
    refine brc_ieq (fun hz => ?_) fun hz => ?_
    · have hN : N = 0 := by omega
      subst hN
      have := put0 (a := (A : Int)) hb h5
      exact ⟨congrArg (fun y : List Int => ((y, ()) : List Int × Unit)) this.symm, rfl⟩
    · refine step34 (X := fun b' A' U' N' => ∃ i, mkS 37 [(0, TV.h 500000), (1, TV.int .i64 A'), (2, TV.int .u64 U'), (3, TV.int .i64 N')] [(500000, .arr false 5 (.int .u8) (asT (List Int) b'))] = mk34 i ∧ (pre34 i.1 i.2.1 i.2.2.1 i.2.2.2 ∧ (((Sp.putB i.1 i.2.1 i.2.2.1, ()) : List Int × Unit) = (Sp.putB b (A : Int) (U : Int), ()) ∧ TV.tup [] = TV.tup []))) h (by omega) fun b' A' U' N' g1 g2 g3 => ⟨(b', A', U', N'), rfl, g1, by rw [g2], rfl⟩
end Go.Proofs.Ytmpnelihfeiimaa
end

section
set_option maxRecDepth 100000
namespace Sp
open Go Go.AbsM
theorem mask8 : ∀ s : Fin 9, W.sub .u8 (W.shl .u8 1 (s.val : Int)) 1 = ((2 ^ s.val - 1 : Nat) : Int) := by decide +kernel
theorem getB_zero (b : List Int) (a : Int) : getB b a 0 = 0 := by
  show (((valOf b >>> a.toNat) % 2 ^ 0 : Nat) : Int) = 0
  rw [Nat.pow_zero, Nat.mod_one]; rfl
theorem getB_lt (b : List Int) (a : Int) {n : Int} (h : n ≤ 64) : 0 ≤ getB b a n ∧ getB b a n < 18446744073709551616 := by
  have h1 : (valOf b >>> a.toNat) % 2 ^ n.toNat < 2 ^ n.toNat := Nat.mod_lt _ (Nat.two_pow_pos _)
  have h2 : (2 : Nat) ^ n.toNat ≤ 2 ^ 64 := Nat.pow_le_pow_right (by decide) (by omega)
  have h3 : (2 : Nat) ^ 64 = 18446744073709551616 := rfl
  unfold getB; omega
end Sp
namespace Go.Proofs.Ytmpnelihfeiimaa
open Go.AbsM
theorem step41 {b : List Int} {A N H : Nat} {u : Int} (h : pre41 b (A : Int) (N : Int)) (hN : H < N) (hu : u = Sp.getB b (A : Int) (H : Int)) {X : Int → Int → Int → Prop}
    (k : ∀ S : Nat, 0 < S → H + S ≤ N → X ((A : Int) + ((H + S : Nat) : Int)) (Sp.getB b (A : Int) ((H + S : Nat) : Int)) ((H + S : Nat) : Int)) :
    grd (W.ile 0 (W.quo .i64 ((A + H : Nat) : Int) 8)) (grd (W.nlt (W.toNat (W.quo .i64 ((A + H : Nat) : Int) 8)) (W.len b)) (grd (W.ile 0 (W.rem ((A + H : Nat) : Int) 8)) (grd (W.ile 0 (W.imin (W.sub .i64 (N : Int) (H : Int)) (W.sub .i64 8 (W.rem ((A + H : Nat) : Int) 8)))) (grd (W.ile 0 (H : Int))
      (X (W.add .i64 ((A + H : Nat) : Int) (W.imin (W.sub .i64 (N : Int) (H : Int)) (W.sub .i64 8 (W.rem ((A + H : Nat) : Int) 8)))) (W.or .u64 u (W.shl .u64 (W.wrap .u64 (W.and .u8 (W.shr .u8 (W.nth b (W.toNat (W.quo .i64 ((A + H : Nat) : Int) 8)) 0) (W.rem ((A + H : Nat) : Int) 8)) (W.sub .u8 (W.shl .u8 1 (W.imin (W.sub .i64 (N : Int) (H : Int)) (W.sub .i64 8 (W.rem ((A + H : Nat) : Int) 8)))) 1))) (H : Int))) (W.add .i64 (H : Int) (W.imin (W.sub .i64 (N : Int) (H : Int)) (W.sub .i64 8 (W.rem ((A + H : Nat) : Int) 8))))))))) := by
  obtain ⟨hb, hl, h0, h1, h2, h3⟩ := h
  have hm : (A + H) % 8 < 8 := Nat.mod_lt _ (by decide)
  have hj : (A + H) / 8 < b.length := by omega
  have e1 := Sp.quo8 (A := A + H) (by omega)
  have e2 := Sp.rem8 (A + H)
  have e3 : W.sub .i64 8 (((A + H) % 8 : Nat) : Int) = ((8 - (A + H) % 8 : Nat) : Int) := by rw [W.sub_i64 (by omega) (by omega)]; omega
  have e4 : W.sub .i64 (N : Int) (H : Int) = ((N - H : Nat) : Int) := by rw [W.sub_i64 (by omega) (by omega)]; omega
  have e5 : W.toNat (((A + H) / 8 : Nat) : Int) = (A + H) / 8 := rfl
  have e6 : W.nth b ((A + H) / 8) 0 = ((Sp.valOf b >>> (8 * ((A + H) / 8)) % 256 : Nat) : Int) := Sp.get_val hb hj
  rw [e1, e2, e3, e4, Sp.imin_nat, e5, e6]
  generalize hS : min (N - H) (8 - (A + H) % 8) = S
  have s1 : 0 < S := by omega
  have s2 : H + S ≤ N := by omega
  have s3 : S ≤ 8 - (A + H) % 8 := by omega
  have hmask := Sp.mask8 ⟨S, by omega⟩
  have hbyte : Sp.valOf b >>> (8 * ((A + H) / 8)) % 256 < 256 := Nat.mod_lt _ (by decide)
  have hp8 : 2 ^ S ≤ 256 := Nat.pow_le_pow_right (show 0 < 2 by decide) (show S ≤ 8 by omega)
  have hsh : (Sp.valOf b >>> (8 * ((A + H) / 8)) % 256) >>> ((A + H) % 8) < 256 := by
    rw [Nat.shiftRight_eq_div_pow]; exact Nat.lt_of_le_of_lt (Nat.div_le_self _ _) hbyte
  simp only at hmask
  rw [hmask, Sp.shr_nat (k := .u8) (by show (A + H) % 8 ≤ 8; omega), Sp.and_u8 hsh (by omega), Sp.mask_and]
  generalize hY : ((Sp.valOf b >>> (8 * ((A + H) / 8)) % 256) >>> ((A + H) % 8)) % 2 ^ S = Y
  have hYl : Y < 2 ^ S := by rw [← hY]; exact Nat.mod_lt _ (Nat.two_pow_pos _)
  have hYs : Y <<< H < 18446744073709551616 := by
    rw [Nat.shiftLeft_eq]
    calc Y * 2 ^ H < 2 ^ S * 2 ^ H := Nat.mul_lt_mul_of_pos_right hYl (Nat.two_pow_pos _)
      _ = 2 ^ (S + H) := by rw [← Nat.pow_add]
      _ ≤ 2 ^ 64 := Nat.pow_le_pow_right (by decide) (by omega)
  have hgl := Sp.getB_lt b (A : Int) (n := (H : Int)) (by omega)
  have e7 : W.or .u64 u (W.shl .u64 (W.wrap .u64 (Y : Int)) (H : Int)) = Sp.getB b (A : Int) ((H + S : Nat) : Int) := by
    rw [W.wu64_in (by omega) (by omega), Sp.shl_u64 (by omega), Nat.mod_eq_of_lt hYs, hu]
    have hgs := Sp.get_step (v := Sp.valOf b) (a := A) (at' := A + H) (h := H) (s := S) s3 rfl
    rw [hY] at hgs
    have e8 : Sp.getB b (A : Int) (H : Int) = (((Sp.valOf b >>> A) % 2 ^ H : Nat) : Int) := rfl
    rw [e8] at hgl ⊢
    rw [Sp.or_u64 (by omega) hYs, hgs]; rfl
  have e9 : W.add .i64 ((A + H : Nat) : Int) (S : Int) = (A : Int) + ((H + S : Nat) : Int) := by rw [W.add_i64 (by omega) (by omega)]; omega
  have e10 : W.add .i64 (H : Int) (S : Int) = ((H + S : Nat) : Int) := by rw [W.add_i64 (by omega) (by omega)]; omega
  rw [e7, e9, e10]
  exact grd_ile (by omega) (grd_nlt hj (grd_ile (by omega) (grd_ile (by omega) (grd_ile (by omega) (k S s1 s2)))))
theorem good41 : GoodC Try.prog ctr41 := by
  refine good_jump (fn := Try.f41) (l := 0) [6] [] (fun i : List Int × Int × Int × Int × Int => (i.2.2.1 - i.2.2.2.2).toNat) wide .nil ⟨by kernel_rfl, by kernel_rfl, by kernel_rfl, by kernel_rfl⟩ (by kernel_rfl) (by kernel_rfl) (by kernel_rfl) (by kernel_rfl) (n := 44) (ls := [0, 1, 2, 7, 8]) (ks := []) (mk := mk41) (ψ := psi41) ?_ ?_
  · rintro ⟨b, a, n, u, h⟩ Φ ⟨a0, hp, ha, h0, h1, hu, hΦ⟩
    have hp : pre41 b a0 n := hp
    simp only at ha h0 h1 hu hΦ
    obtain ⟨hb, hl, p0, p1, p2, p3⟩ := id hp
    obtain ⟨A, rfl⟩ : ∃ A : Nat, a0 = A := ⟨a0.toNat, by omega⟩
    obtain ⟨N, rfl⟩ : ∃ N : Nat, n = N := ⟨n.toNat, by omega⟩
    obtain ⟨H, rfl⟩ : ∃ H : Nat, h = H := ⟨h.toNat, by omega⟩
    have ha : a = ((A + H : Nat) : Int) := by omega
    subst ha
    refine Eq.mpr (nf41s _ _ _ _ b _ N u H Φ _) ?_
    refine brc_ieq (fun hz => ?_) fun hz => ?_
    · have : H = N := by omega
      subst this
      rw [hu]; exact hΦ
    · refine step41 (X := fun A' U' H' => ∃ j, mkS 44 [(0, TV.l 5 (.int .u8) b), (1, TV.int .i64 A'), (2, TV.int .i64 (N : Int)), (7, TV.int .u64 U'), (8, TV.int .i64 H')] [] = mk41 j ∧ (fun i : List Int × Int × Int × Int × Int => (i.2.2.1 - i.2.2.2.2).toNat) j < (fun i : List Int × Int × Int × Int × Int => (i.2.2.1 - i.2.2.2.2).toNat) (b, ((A + H : Nat) : Int), (N : Int), u, (H : Int)) ∧ psi41 j Φ) hp (by omega) hu fun S s1 s2 => ⟨(b, _, (N : Int), _, _), rfl, ?_, (A : Int), hp, rfl, ?_, ?_, rfl, hΦ⟩
      · show ((N : Int) - ((H + S : Nat) : Int)).toNat < ((N : Int) - (H : Int)).toNat; omega
      · show 0 ≤ ((H + S : Nat) : Int); omega
      · show ((H + S : Nat) : Int) ≤ (N : Int); omega
  · intro d hd
    obtain ⟨b, a, n, x⟩ : List Int × Int × Int × Unit := d
    have hp : pre41 b a n := hd
    obtain ⟨hb, hl, p0, p1, p2, p3⟩ := id hp
    obtain ⟨A, rfl⟩ : ∃ A : Nat, a = A := ⟨a.toNat, by omega⟩
    obtain ⟨N, rfl⟩ : ∃ N : Nat, n = N := ⟨n.toNat, by omega⟩
    refine Eq.mpr (nf41 b A N _) ?_
    refine brc_ieq (fun hz => ?_) fun hz => ?_
    · have : N = 0 := by omega
      subst this
      exact congrArg (TV.int .u64) (Sp.getB_zero b (A : Int)).symm
    · have := step41 (b := b) (A := A) (N := N) (H := 0) (u := 0) (X := fun A' U' H' => ∃ i, mkS 44 [(0, TV.l 5 (.int .u8) b), (1, TV.int .i64 A'), (2, TV.int .i64 (N : Int)), (7, TV.int .u64 U'), (8, TV.int .i64 H')] [] = mk41 i ∧ ∃ a, pre41 i.1 a i.2.2.1 ∧ i.2.1 = a + i.2.2.2.2 ∧ 0 ≤ i.2.2.2.2 ∧ i.2.2.2.2 ≤ i.2.2.1 ∧ i.2.2.2.1 = Sp.getB i.1 a i.2.2.2.2 ∧ TV.int .u64 (Sp.getB i.1 a i.2.2.1) = ctr41.out (b, (A : Int), (N : Int), x)) hp (by omega) (Sp.getB_zero b (A : Int)).symm fun S s1 s2 => ⟨(b, _, (N : Int), _, _), rfl, (A : Int), hp, rfl, ?_, ?_, rfl, rfl⟩
      · have g := grd_iff.1 this
        exact this |> fun h => by
          obtain ⟨q1, h⟩ := grd_iff.1 h
          obtain ⟨q2, h⟩ := grd_iff.1 h
          obtain ⟨q3, h⟩ := grd_iff.1 h
          obtain ⟨q4, h⟩ := grd_iff.1 h
          obtain ⟨_, h⟩ := grd_iff.1 h
          exact grd_iff.2 ⟨q1, grd_iff.2 ⟨q2, grd_iff.2 ⟨q3, grd_iff.2 ⟨q4, h⟩⟩⟩⟩
      · show 0 ≤ ((0 + S : Nat) : Int); omega
      · show ((0 + S : Nat) : Int) ≤ (N : Int); omega
end Go.Proofs.Ytmpnelihfeiimaa
end

section
set_option maxRecDepth 100000
namespace Sp
open Go Go.AbsM
def err (l : List Int) (w : Int) : Int := if w < 0 ∨ 64 < w ∨ w < width l then 1 else if 65536 < l.length then 4 else 0
def putTo (l : List Int) (w i : Int) : List Int := ofVal (size (l.length : Int) w).toNat (packN w.toNat (l.take i.toNat))
def mulI (a b : Int) : Int := a * b
def nextI (a : Int) : Int := a + 1
def inNum (l : List Int) (w i a k : Int) (b : List Int) : Prop := a = i * w + k ∧ ∃ v, b = ofVal (size (l.length : Int) w).toNat v ∧ v < 2 ^ a.toNat ∧ v ||| ((l.getD i.toNat 0).toNat >>> k.toNat) <<< a.toNat = packN w.toNat (l.take (i.toNat + 1))
def widthTo (l : List Int) (i : Int) : Int := width (l.take i.toNat)
def outP (l : List Int) (w : Int) : List Int := ofVal (size (l.length : Int) w).toNat (packN w.toNat l)
end Sp
namespace Go.Proofs.Ytmpnelihfeiimaa
open Go.AbsM
def errV (e : Int) : TV := TV.tup [.c (.a .nils), .c (.a (.x (.int .i64 e)))]
def ctrPut (f : FuncId) : TCtr where
  f := f
  sig := [.l 39 (.int .u64), .v (.int .i64)]
  pre := fun (d : List Int × Int × Unit) => Sp.inU d.1 ∧ d.1.length < 9223372036854775807
  out := fun (d : List Int × Int × Unit) => if Sp.err d.1 d.2.1 = 0 then TV.tup [.own 5 (.int .u8) (Sp.outP d.1 d.2.1), .c (.a (.x (.int .i64 0)))] else errV (Sp.err d.1 d.2.1)
  outK := fun (d : List Int × Int × Unit) K => (Sp.err d.1 d.2.1 ≠ 0 → K (TV.tup [.c (.a .nils), .c (.a (.x (.int .i64 (Sp.err d.1 d.2.1))))])) ∧ (Sp.err d.1 d.2.1 = 0 → K (TV.tup [.own 5 (.int .u8) (Sp.outP d.1 d.2.1), .c (.a (.x (.int .i64 0)))]))
  outK_ok := fun (d : List Int × Int × Unit) K h => by
    show K (if Sp.err d.1 d.2.1 = 0 then _ else _)
    split
    · exact h.2 (by assumption)
    · exact h.1 (by assumption)
  outOk := fun (d : List Int × Int × Unit) => by
    show TV.outOk (if Sp.err d.1 d.2.1 = 0 then _ else _) = true
    split <;> rfl
def ctr22 : TCtr := ctrPut 22
def ctr24 : TCtr := ctrPut 24
def mk22 (i : List Int × Int × Int × List Int) : TSt := mkS 45 [(1, TV.int .i64 i.2.1), (6, TV.h 28), (29, TV.l 39 (.int .u64) i.1), (30, TV.int .i64 i.1.length), (31, TV.int .i64 i.2.2.1)] [(28, .arr false 5 (.int .u8) i.2.2.2)]
def preP (l : List Int) (w : Int) : Prop := Sp.inU l ∧ l.length ≤ 65536 ∧ 0 ≤ w ∧ w ≤ 64 ∧ Sp.fits w.toNat l
def psi22 (i : List Int × Int × Int × List Int) (Φ : Post) : Prop := (preP i.1 i.2.1 ∧ 0 ≤ i.2.2.1 ∧ i.2.2.1 ≤ i.1.length ∧ i.2.2.2 = Sp.putTo i.1 i.2.1 i.2.2.1) ∧ Φ .normal (mkS 45 [(6, TV.h 28)] [(28, .arr false 5 (.int .u8) (Sp.outP i.1 i.2.1))])
def blk22 : Nat → Option Piece := one 0 (loopP 45 [1, 6, 29, 30, 31] [28] mk22 psi22)
def mk24 (i : List Int × Int × Int × Int × List Int) : TSt := mkS 67 [(0, TV.l 39 (.int .u64) i.1), (1, TV.int .i64 i.2.1), (6, TV.h 29), (7, TV.int .i64 i.2.2.2.1), (8, TV.int .i64 i.2.2.1)] [(29, .arr false 5 (.int .u8) i.2.2.2.2)]
def psi24 (i : List Int × Int × Int × Int × List Int) (Φ : Post) : Prop := (preP i.1 i.2.1 ∧ 0 ≤ i.2.2.1 ∧ i.2.2.1 ≤ i.1.length ∧ i.2.2.2.1 = Sp.mulI i.2.2.1 i.2.1 ∧ i.2.2.2.2 = Sp.putTo i.1 i.2.1 i.2.2.1) ∧ Φ .normal (mkS 67 [(6, TV.h 29)] [(29, .arr false 5 (.int .u8) (Sp.outP i.1 i.2.1))])
def mk24i (i : List Int × Int × Int × Int × Int × List Int) : TSt := mkS 67 [(0, TV.l 39 (.int .u64) i.1), (1, TV.int .i64 i.2.1), (6, TV.h 29), (7, TV.int .i64 i.2.2.2.1), (8, TV.int .i64 i.2.2.1), (9, TV.int .i64 i.2.2.2.2.1)] [(29, .arr false 5 (.int .u8) i.2.2.2.2.2)]
def psi24i (i : List Int × Int × Int × Int × Int × List Int) (Φ : Post) : Prop := (preP i.1 i.2.1 ∧ 0 ≤ i.2.2.1 ∧ i.2.2.1 < i.1.length ∧ 0 ≤ i.2.2.2.2.1 ∧ i.2.2.2.2.1 ≤ i.2.1 ∧ Sp.inNum i.1 i.2.1 i.2.2.1 i.2.2.2.1 i.2.2.2.2.1 i.2.2.2.2.2) ∧ Φ .normal (mkS 67 [(0, TV.l 39 (.int .u64) i.1), (1, TV.int .i64 i.2.1), (6, TV.h 29), (7, TV.int .i64 (Sp.mulI (Sp.nextI i.2.2.1) i.2.1)), (8, TV.int .i64 i.2.2.1)] [(29, .arr false 5 (.int .u8) (Sp.putTo i.1 i.2.1 (Sp.nextI i.2.2.1)))])
def blk24 (l : Nat) : Option Piece := match l.beq 0 with
  | true => some (loopP 67 [0, 1, 6, 7, 8] [29] mk24 psi24)
  | false => one 2 (loopP 67 [0, 1, 6, 7, 8, 9] [29] mk24i psi24i) l
def mk25 (i : List Int × Int × Int) : TSt := mkS 26 [(0, TV.l 39 (.int .u64) i.1), (3, TV.int .i64 i.2.1), (4, TV.int .i64 i.2.2)] []
def psi25 (i : List Int × Int × Int) (Φ : Post) : Prop := (Sp.inU i.1 ∧ i.1.length < 9223372036854775807 ∧ 0 ≤ i.2.2 ∧ i.2.2 ≤ i.1.length ∧ i.2.1 = Sp.widthTo i.1 i.2.2) ∧ Φ .normal (mkS 26 [(3, TV.int .i64 (Sp.width i.1))] [])
def psi25i (i : List Int × Int × Int) (Φ : Post) : Prop := (Sp.inU i.1 ∧ i.1.length < 9223372036854775807 ∧ 0 ≤ i.2.2 ∧ i.2.2 < i.1.length ∧ Sp.widthTo i.1 i.2.2 ≤ i.2.1 ∧ i.2.1 ≤ Sp.widthTo i.1 (Sp.nextI i.2.2)) ∧ Φ .normal (mkS 26 [(0, TV.l 39 (.int .u64) i.1), (3, TV.int .i64 (Sp.widthTo i.1 (Sp.nextI i.2.2))), (4, TV.int .i64 i.2.2)] [])
def blk25 (l : Nat) : Option Piece := match l.beq 0 with
  | true => some (loopP 26 [0, 3, 4] [] mk25 psi25)
  | false => one 2 (loopP 26 [0, 3, 4] [] mk25 psi25i) l
theorem nf22 (l : List Int) (w : Int) (Q : TV → Prop) : wpFn Try.prog (knownD [ctr21, ctr33] [lctr34] blk22 noneK) Try.f22 [.c (.sl 39 (.int .u64) (.mk l)), .c (.a (.x (.int .i64 w)))] Q = (
  brc (W.ilt w (0 : Int)) (Q (TV.tup [T1.c (TC.a AV.nils), T1.c (TC.a (AV.x (Value.int IntKind.i64 (1 : Int))))])) (brc (W.igt w (64 : Int)) (Q (TV.tup [T1.c (TC.a AV.nils), T1.c (TC.a (AV.x (Value.int IntKind.i64 (1 : Int))))])) ((Sp.inU l ∧ List.length l < (9223372036854775807 : Nat)) ∧ brc (W.igt (Sp.width l) w) (Q (TV.tup [T1.c (TC.a AV.nils), T1.c (TC.a (AV.x (Value.int IntKind.i64 (1 : Int))))])) (brc (W.igt (W.ofNat (W.len l)) (65536 : Int)) (Q (TV.tup [T1.c (TC.a AV.nils), T1.c (TC.a (AV.x (Value.int IntKind.i64 (4 : Int))))])) (True ∧ grd (W.ile (0 : Int) (Sp.size (W.ofNat (W.len l)) w)) (grd (W.ile (Sp.size (W.ofNat (W.len l)) w) (Sp.size (W.ofNat (W.len l)) w)) (grd (W.ile (Sp.size (W.ofNat (W.len l)) w) (9223372036854775807 : Int)) (grd (W.ile (W.bys (1 : Nat) (Sp.size (W.ofNat (W.len l)) w)) (281474976710656 : Int)) (∃ i, mkS (45 : Nat) [((1 : Nat), TV.int IntKind.i64 w), ((6 : Nat), TV.h (28 : Nat)), ((29 : Nat), TV.l (39 : Nat) (VT.int IntKind.u64) l), ((30 : Nat), TV.int IntKind.i64 (W.ofNat (W.len l))), ((31 : Nat), TV.int IntKind.i64 (0 : Int))] [((28 : Nat), TOb.arr false (5 : Nat) (VT.int IntKind.u8) (asT (List Int) (W.rep (W.toNat (Sp.size (W.ofNat (W.len l)) w)) (0 : Int))))] = mkS (45 : Nat) [((1 : Nat), TV.int IntKind.i64 (Prod.fst (Prod.snd i))), ((6 : Nat), TV.h (28 : Nat)), ((29 : Nat), TV.l (39 : Nat) (VT.int IntKind.u64) (asT (List Int) (Prod.fst i))), ((30 : Nat), TV.int IntKind.i64 (Int.ofNat (List.length (Prod.fst i)))), ((31 : Nat), TV.int IntKind.i64 (Prod.fst (Prod.snd (Prod.snd i))))] [((28 : Nat), TOb.arr false (5 : Nat) (VT.int IntKind.u8) (asT (List Int) (Prod.snd (Prod.snd (Prod.snd i)))))] ∧ ((Sp.inU (Prod.fst i) ∧ List.length (Prod.fst i) ≤ (65536 : Nat) ∧ (0 : Int) ≤ Prod.fst (Prod.snd i) ∧ Prod.fst (Prod.snd i) ≤ (64 : Int) ∧ Sp.fits (Int.toNat (Prod.fst (Prod.snd i))) (Prod.fst i)) ∧ (0 : Int) ≤ Prod.fst (Prod.snd (Prod.snd i)) ∧ Prod.fst (Prod.snd (Prod.snd i)) ≤ Int.ofNat (List.length (Prod.fst i)) ∧ Prod.snd (Prod.snd (Prod.snd i)) = Sp.putTo (Prod.fst i) (Prod.fst (Prod.snd i)) (Prod.fst (Prod.snd (Prod.snd i)))) ∧ Q (TV.tup [T1.own (5 : Nat) (VT.int IntKind.u8) (asT (List Int) (Sp.outP (Prod.fst i) (Prod.fst (Prod.snd i)))), T1.c (TC.a (AV.x (Value.int IntKind.i64 (0 : Int))))])))))))))) := by kernel_rfl
theorem nf22s (ι : Type) (mk : ι → TSt) (ψ : ι → Post → Prop) (μ : ι → Nat) (l : List Int) (w i : Int) (b : List Int) (Φ : Post) (m : Nat) : wpT Try.prog (knownD [ctr21, ctr33] [lctr34] blk22 noneK) (loopOf (blkC (bodyOf Try.f22) 0)) (mk22 (l, w, i, b)) (stepK 45 [1, 6, 29, 30, 31] [28] [6] [28] 0 mk μ ψ m Φ) = (
  brc (W.ilt i (Int.ofNat (List.length l))) (grd (W.ile (0 : Int) i) (grd (W.nlt (W.toNat i) (W.len l)) ((Sp.bytes b ∧ List.length b < (1000000 : Nat) ∧ (0 : Int) ≤ W.mul IntKind.i64 i w ∧ (0 : Int) ≤ w ∧ w ≤ (64 : Int) ∧ W.mul IntKind.i64 i w + w ≤ (8 : Int) * Int.ofNat (List.length b) ∧ (0 : Int) ≤ W.nth l (W.toNat i) (0 : Int) ∧ Int.toNat (W.nth l (W.toNat i) (0 : Int)) < Nat.pow (2 : Nat) (Int.toNat w)) ∧ ∃ j, mkS (45 : Nat) [((1 : Nat), TV.int IntKind.i64 w), ((6 : Nat), TV.h (28 : Nat)), ((29 : Nat), TV.l (39 : Nat) (VT.int IntKind.u64) l), ((30 : Nat), TV.int IntKind.i64 (Int.ofNat (List.length l))), ((31 : Nat), TV.int IntKind.i64 (W.add IntKind.i64 i (1 : Int)))] [((28 : Nat), TOb.arr false (5 : Nat) (VT.int IntKind.u8) (asT (List Int) (Sp.putB b (W.mul IntKind.i64 i w) (W.nth l (W.toNat i) (0 : Int)))))] = mk j ∧ μ j < m ∧ ψ j Φ))) (Φ AExit.normal (mkS (45 : Nat) [((6 : Nat), TV.h (28 : Nat))] [((28 : Nat), TOb.arr false (5 : Nat) (VT.int IntKind.u8) b)]))) := by kernel_rfl
theorem nf24 (l : List Int) (w : Int) (Q : TV → Prop) : wpFn Try.prog (knownL [ctr25, ctr35] blk24 noneK) Try.f24 [.c (.sl 39 (.int .u64) (.mk l)), .c (.a (.x (.int .i64 w)))] Q = (
  brc (W.ilt w (0 : Int)) (Q (TV.tup [T1.c (TC.a AV.nils), T1.c (TC.a (AV.x (Value.int IntKind.i64 (1 : Int))))])) (brc (W.igt w (64 : Int)) (Q (TV.tup [T1.c (TC.a AV.nils), T1.c (TC.a (AV.x (Value.int IntKind.i64 (1 : Int))))])) ((Sp.inU l ∧ List.length l < (9223372036854775807 : Nat)) ∧ brc (W.igt (Sp.width l) w) (Q (TV.tup [T1.c (TC.a AV.nils), T1.c (TC.a (AV.x (Value.int IntKind.i64 (1 : Int))))])) (brc (W.igt (W.ofNat (W.len l)) (65536 : Int)) (Q (TV.tup [T1.c (TC.a AV.nils), T1.c (TC.a (AV.x (Value.int IntKind.i64 (4 : Int))))])) (True ∧ grd (W.ile (0 : Int) (Sp.size (W.ofNat (W.len l)) w)) (grd (W.ile (Sp.size (W.ofNat (W.len l)) w) (Sp.size (W.ofNat (W.len l)) w)) (grd (W.ile (Sp.size (W.ofNat (W.len l)) w) (9223372036854775807 : Int)) (grd (W.ile (W.bys (1 : Nat) (Sp.size (W.ofNat (W.len l)) w)) (281474976710656 : Int)) (∃ i, mkS (67 : Nat) [((0 : Nat), TV.l (39 : Nat) (VT.int IntKind.u64) l), ((1 : Nat), TV.int IntKind.i64 w), ((6 : Nat), TV.h (29 : Nat)), ((7 : Nat), TV.int IntKind.i64 (0 : Int)), ((8 : Nat), TV.int IntKind.i64 (0 : Int))] [((29 : Nat), TOb.arr false (5 : Nat) (VT.int IntKind.u8) (asT (List Int) (W.rep (W.toNat (Sp.size (W.ofNat (W.len l)) w)) (0 : Int))))] = mkS (67 : Nat) [((0 : Nat), TV.l (39 : Nat) (VT.int IntKind.u64) (asT (List Int) (Prod.fst i))), ((1 : Nat), TV.int IntKind.i64 (Prod.fst (Prod.snd i))), ((6 : Nat), TV.h (29 : Nat)), ((7 : Nat), TV.int IntKind.i64 (Prod.fst (Prod.snd (Prod.snd (Prod.snd i))))), ((8 : Nat), TV.int IntKind.i64 (Prod.fst (Prod.snd (Prod.snd i))))] [((29 : Nat), TOb.arr false (5 : Nat) (VT.int IntKind.u8) (asT (List Int) (Prod.snd (Prod.snd (Prod.snd (Prod.snd i))))))] ∧ ((Sp.inU (Prod.fst i) ∧ List.length (Prod.fst i) ≤ (65536 : Nat) ∧ (0 : Int) ≤ Prod.fst (Prod.snd i) ∧ Prod.fst (Prod.snd i) ≤ (64 : Int) ∧ Sp.fits (Int.toNat (Prod.fst (Prod.snd i))) (Prod.fst i)) ∧ (0 : Int) ≤ Prod.fst (Prod.snd (Prod.snd i)) ∧ Prod.fst (Prod.snd (Prod.snd i)) ≤ Int.ofNat (List.length (Prod.fst i)) ∧ Prod.fst (Prod.snd (Prod.snd (Prod.snd i))) = Sp.mulI (Prod.fst (Prod.snd (Prod.snd i))) (Prod.fst (Prod.snd i)) ∧ Prod.snd (Prod.snd (Prod.snd (Prod.snd i))) = Sp.putTo (Prod.fst i) (Prod.fst (Prod.snd i)) (Prod.fst (Prod.snd (Prod.snd i)))) ∧ Q (TV.tup [T1.own (5 : Nat) (VT.int IntKind.u8) (asT (List Int) (Sp.outP (Prod.fst i) (Prod.fst (Prod.snd i)))), T1.c (TC.a (AV.x (Value.int IntKind.i64 (0 : Int))))])))))))))) := by kernel_rfl
theorem nf24s (ι : Type) (mk : ι → TSt) (ψ : ι → Post → Prop) (μ : ι → Nat) (l : List Int) (w i a : Int) (b : List Int) (Φ : Post) (m : Nat) : wpT Try.prog (knownL [ctr25, ctr35] blk24 noneK) (loopOf (blkC (bodyOf Try.f24) 0)) (mk24 (l, w, i, a, b)) (stepK 67 [0, 1, 6, 7, 8] [29] [6] [29] 0 mk μ ψ m Φ) = (
  brc (W.ilt i (W.ofNat (W.len l))) (∃ i_1, mkS (67 : Nat) [((0 : Nat), TV.l (39 : Nat) (VT.int IntKind.u64) l), ((1 : Nat), TV.int IntKind.i64 w), ((6 : Nat), TV.h (29 : Nat)), ((7 : Nat), TV.int IntKind.i64 a), ((8 : Nat), TV.int IntKind.i64 i), ((9 : Nat), TV.int IntKind.i64 (0 : Int))] [((29 : Nat), TOb.arr false (5 : Nat) (VT.int IntKind.u8) b)] = mkS (67 : Nat) [((0 : Nat), TV.l (39 : Nat) (VT.int IntKind.u64) (asT (List Int) (Prod.fst i_1))), ((1 : Nat), TV.int IntKind.i64 (Prod.fst (Prod.snd i_1))), ((6 : Nat), TV.h (29 : Nat)), ((7 : Nat), TV.int IntKind.i64 (Prod.fst (Prod.snd (Prod.snd (Prod.snd i_1))))), ((8 : Nat), TV.int IntKind.i64 (Prod.fst (Prod.snd (Prod.snd i_1)))), ((9 : Nat), TV.int IntKind.i64 (Prod.fst (Prod.snd (Prod.snd (Prod.snd (Prod.snd i_1))))))] [((29 : Nat), TOb.arr false (5 : Nat) (VT.int IntKind.u8) (asT (List Int) (Prod.snd (Prod.snd (Prod.snd (Prod.snd (Prod.snd i_1)))))))] ∧ ((Sp.inU (Prod.fst i_1) ∧ List.length (Prod.fst i_1) ≤ (65536 : Nat) ∧ (0 : Int) ≤ Prod.fst (Prod.snd i_1) ∧ Prod.fst (Prod.snd i_1) ≤ (64 : Int) ∧ Sp.fits (Int.toNat (Prod.fst (Prod.snd i_1))) (Prod.fst i_1)) ∧ (0 : Int) ≤ Prod.fst (Prod.snd (Prod.snd i_1)) ∧ Prod.fst (Prod.snd (Prod.snd i_1)) < Int.ofNat (List.length (Prod.fst i_1)) ∧ (0 : Int) ≤ Prod.fst (Prod.snd (Prod.snd (Prod.snd (Prod.snd i_1)))) ∧ Prod.fst (Prod.snd (Prod.snd (Prod.snd (Prod.snd i_1)))) ≤ Prod.fst (Prod.snd i_1) ∧ Sp.inNum (Prod.fst i_1) (Prod.fst (Prod.snd i_1)) (Prod.fst (Prod.snd (Prod.snd i_1))) (Prod.fst (Prod.snd (Prod.snd (Prod.snd i_1)))) (Prod.fst (Prod.snd (Prod.snd (Prod.snd (Prod.snd i_1))))) (Prod.snd (Prod.snd (Prod.snd (Prod.snd (Prod.snd i_1)))))) ∧ ∃ j, mkS (67 : Nat) [((0 : Nat), TV.l (39 : Nat) (VT.int IntKind.u64) (asT (List Int) (Prod.fst i_1))), ((1 : Nat), TV.int IntKind.i64 (Prod.fst (Prod.snd i_1))), ((6 : Nat), TV.h (29 : Nat)), ((7 : Nat), TV.int IntKind.i64 (Sp.mulI (Sp.nextI (Prod.fst (Prod.snd (Prod.snd i_1)))) (Prod.fst (Prod.snd i_1)))), ((8 : Nat), TV.int IntKind.i64 (W.add IntKind.i64 (Prod.fst (Prod.snd (Prod.snd i_1))) (1 : Int)))] [((29 : Nat), TOb.arr false (5 : Nat) (VT.int IntKind.u8) (asT (List Int) (Sp.putTo (Prod.fst i_1) (Prod.fst (Prod.snd i_1)) (Sp.nextI (Prod.fst (Prod.snd (Prod.snd i_1)))))))] = mk j ∧ μ j < m ∧ ψ j Φ) (Φ AExit.normal (mkS (67 : Nat) [((6 : Nat), TV.h (29 : Nat))] [((29 : Nat), TOb.arr false (5 : Nat) (VT.int IntKind.u8) b)]))) := by kernel_rfl
theorem nf24i (ι : Type) (mk : ι → TSt) (ψ : ι → Post → Prop) (μ : ι → Nat) (l : List Int) (w i a k : Int) (b : List Int) (Φ : Post) (m : Nat) : wpT Try.prog (knownL [ctr25, ctr35] blk24 noneK) (loopOf (blkC (bodyOf Try.f24) 2)) (mk24i (l, w, i, a, k, b)) (stepK 67 [0, 1, 6, 7, 8, 9] [29] [0, 1, 6, 7, 8] [29] 2 mk μ ψ m Φ) = (
  brc (W.ilt k w) (grd (W.ile (0 : Int) i) (grd (W.nlt (W.toNat i) (W.len l)) (grd (W.ile (0 : Int) (W.wrap IntKind.u64 k)) (brc (W.ieq (W.and IntKind.u64 (W.shr IntKind.u64 (W.nth l (W.toNat i) (0 : Int)) (W.wrap IntKind.u64 k)) (1 : Int)) (1 : Int)) (grd (W.ile (0 : Int) (W.quo IntKind.i64 a (8 : Int))) (grd (W.nlt (W.toNat (W.quo IntKind.i64 a (8 : Int))) (W.len b)) (grd (W.nlt (W.toNat (W.quo IntKind.i64 a (8 : Int))) (W.len b)) (grd (W.ile (0 : Int) (W.wrap IntKind.u64 (W.rem a (8 : Int)))) (grd (W.ile (0 : Int) (W.quo IntKind.i64 a (8 : Int))) (grd (W.nlt (W.toNat (W.quo IntKind.i64 a (8 : Int))) (W.len b)) (grd (W.nlt (W.toNat (W.quo IntKind.i64 a (8 : Int))) (W.len b)) (∃ j, mkS (67 : Nat) [((0 : Nat), TV.l (39 : Nat) (VT.int IntKind.u64) l), ((1 : Nat), TV.int IntKind.i64 w), ((6 : Nat), TV.h (29 : Nat)), ((7 : Nat), TV.int IntKind.i64 (W.add IntKind.i64 a (1 : Int))), ((8 : Nat), TV.int IntKind.i64 i), ((9 : Nat), TV.int IntKind.i64 (W.add IntKind.i64 k (1 : Int)))] [((29 : Nat), TOb.arr false (5 : Nat) (VT.int IntKind.u8) (asT (List Int) (W.upd b (W.toNat (W.quo IntKind.i64 a (8 : Int))) (W.or IntKind.u8 (W.nth b (W.toNat (W.quo IntKind.i64 a (8 : Int))) (0 : Int)) (W.shl IntKind.u8 (1 : Int) (W.wrap IntKind.u64 (W.rem a (8 : Int))))))))] = mk j ∧ μ j < m ∧ ψ j Φ)))))))) (∃ j, mkS (67 : Nat) [((0 : Nat), TV.l (39 : Nat) (VT.int IntKind.u64) l), ((1 : Nat), TV.int IntKind.i64 w), ((6 : Nat), TV.h (29 : Nat)), ((7 : Nat), TV.int IntKind.i64 (W.add IntKind.i64 a (1 : Int))), ((8 : Nat), TV.int IntKind.i64 i), ((9 : Nat), TV.int IntKind.i64 (W.add IntKind.i64 k (1 : Int)))] [((29 : Nat), TOb.arr false (5 : Nat) (VT.int IntKind.u8) b)] = mk j ∧ μ j < m ∧ ψ j Φ))))) (Φ AExit.normal (mkS (67 : Nat) [((0 : Nat), TV.l (39 : Nat) (VT.int IntKind.u64) l), ((1 : Nat), TV.int IntKind.i64 w), ((6 : Nat), TV.h (29 : Nat)), ((7 : Nat), TV.int IntKind.i64 a), ((8 : Nat), TV.int IntKind.i64 i)] [((29 : Nat), TOb.arr false (5 : Nat) (VT.int IntKind.u8) b)]))) := by kernel_rfl
theorem nf25 (l : List Int) (Q : TV → Prop) : wpFn Try.prog (knownL [] blk25 noneK) Try.f25 [.c (.sl 39 (.int .u64) (.mk l))] Q = (
  ∃ i, mkS (26 : Nat) [((0 : Nat), TV.l (39 : Nat) (VT.int IntKind.u64) l), ((3 : Nat), TV.int IntKind.i64 (0 : Int)), ((4 : Nat), TV.int IntKind.i64 (0 : Int))] [] = mkS (26 : Nat) [((0 : Nat), TV.l (39 : Nat) (VT.int IntKind.u64) (asT (List Int) (Prod.fst i))), ((3 : Nat), TV.int IntKind.i64 (Prod.fst (Prod.snd i))), ((4 : Nat), TV.int IntKind.i64 (Prod.snd (Prod.snd i)))] [] ∧ (Sp.inU (Prod.fst i) ∧ List.length (Prod.fst i) < (9223372036854775807 : Nat) ∧ (0 : Int) ≤ Prod.snd (Prod.snd i) ∧ Prod.snd (Prod.snd i) ≤ Int.ofNat (List.length (Prod.fst i)) ∧ Prod.fst (Prod.snd i) = Sp.widthTo (Prod.fst i) (Prod.snd (Prod.snd i))) ∧ Q (TV.int IntKind.i64 (Sp.width (Prod.fst i)))) := by kernel_rfl
theorem nf25s (ι : Type) (mk : ι → TSt) (ψ : ι → Post → Prop) (μ : ι → Nat) (l : List Int) (w i : Int) (Φ : Post) (m : Nat) : wpT Try.prog (knownL [] blk25 noneK) (loopOf (blkC (bodyOf Try.f25) 0)) (mk25 (l, w, i)) (stepK 26 [0, 3, 4] [] [3] [] 0 mk μ ψ m Φ) = (
  brc (W.ilt i (W.ofNat (W.len l))) (∃ i_1, mkS (26 : Nat) [((0 : Nat), TV.l (39 : Nat) (VT.int IntKind.u64) l), ((3 : Nat), TV.int IntKind.i64 w), ((4 : Nat), TV.int IntKind.i64 i)] [] = mkS (26 : Nat) [((0 : Nat), TV.l (39 : Nat) (VT.int IntKind.u64) (asT (List Int) (Prod.fst i_1))), ((3 : Nat), TV.int IntKind.i64 (Prod.fst (Prod.snd i_1))), ((4 : Nat), TV.int IntKind.i64 (Prod.snd (Prod.snd i_1)))] [] ∧ (Sp.inU (Prod.fst i_1) ∧ List.length (Prod.fst i_1) < (9223372036854775807 : Nat) ∧ (0 : Int) ≤ Prod.snd (Prod.snd i_1) ∧ Prod.snd (Prod.snd i_1) < Int.ofNat (List.length (Prod.fst i_1)) ∧ Sp.widthTo (Prod.fst i_1) (Prod.snd (Prod.snd i_1)) ≤ Prod.fst (Prod.snd i_1) ∧ Prod.fst (Prod.snd i_1) ≤ Sp.widthTo (Prod.fst i_1) (Sp.nextI (Prod.snd (Prod.snd i_1)))) ∧ ∃ j, mkS (26 : Nat) [((0 : Nat), TV.l (39 : Nat) (VT.int IntKind.u64) (asT (List Int) (Prod.fst i_1))), ((3 : Nat), TV.int IntKind.i64 (Sp.widthTo (Prod.fst i_1) (Sp.nextI (Prod.snd (Prod.snd i_1))))), ((4 : Nat), TV.int IntKind.i64 (W.add IntKind.i64 (Prod.snd (Prod.snd i_1)) (1 : Int)))] [] = mk j ∧ μ j < m ∧ ψ j Φ) (Φ AExit.normal (mkS (26 : Nat) [((3 : Nat), TV.int IntKind.i64 w)] []))) := by kernel_rfl
theorem nf25i (ι : Type) (mk : ι → TSt) (ψ : ι → Post → Prop) (μ : ι → Nat) (l : List Int) (w i : Int) (Φ : Post) (m : Nat) : wpT Try.prog (knownL [] blk25 noneK) (loopOf (blkC (bodyOf Try.f25) 2)) (mk25 (l, w, i)) (stepK 26 [0, 3, 4] [] [0, 3, 4] [] 2 mk μ ψ m Φ) = (
  brc (W.ilt w (64 : Int)) (grd (W.ile (0 : Int) i) (grd (W.nlt (W.toNat i) (W.len l)) (grd (W.ile (0 : Int) (W.wrap IntKind.u64 w)) (brc (W.ine (W.shr IntKind.u64 (W.nth l (W.toNat i) (0 : Int)) (W.wrap IntKind.u64 w)) (0 : Int)) (∃ j, mkS (26 : Nat) [((0 : Nat), TV.l (39 : Nat) (VT.int IntKind.u64) l), ((3 : Nat), TV.int IntKind.i64 (W.add IntKind.i64 w (1 : Int))), ((4 : Nat), TV.int IntKind.i64 i)] [] = mk j ∧ μ j < m ∧ ψ j Φ) (Φ AExit.normal (mkS (26 : Nat) [((0 : Nat), TV.l (39 : Nat) (VT.int IntKind.u64) l), ((3 : Nat), TV.int IntKind.i64 w), ((4 : Nat), TV.int IntKind.i64 i)] [])))))) (Φ AExit.normal (mkS (26 : Nat) [((0 : Nat), TV.l (39 : Nat) (VT.int IntKind.u64) l), ((3 : Nat), TV.int IntKind.i64 w), ((4 : Nat), TV.int IntKind.i64 i)] []))) := by kernel_rfl
end Go.Proofs.Ytmpnelihfeiimaa
end

section
set_option maxRecDepth 100000
namespace Sp
open Go Go.AbsM
theorem size_val {n w : Int} (h : 0 ≤ n ∧ n ≤ 65536 ∧ 0 ≤ w ∧ w ≤ 64) : size n w = (n * w + 7) / 8 := by unfold size; rw [if_pos (mayB_iff.2 h)]
theorem le_orAll {l : List Int} {x : Int} (h : x ∈ l) : x.toNat ≤ orAll l := by
  induction l with
  | nil => cases h
  | cons y r ih =>
    rcases List.mem_cons.1 h with rfl | h
    · exact Nat.left_le_or
    · exact Nat.le_trans (ih h) Nat.right_le_or
theorem fits_of {l : List Int} {w : Int} (hl : inU l) (h0 : 0 ≤ w) (h : width l ≤ w) : fits w.toNat l := fun x hx => by
  refine ⟨(hl x hx).1, Nat.lt_of_le_of_lt (le_orAll hx) ?_⟩
  have : bitLen (orAll l) ≤ w.toNat := by unfold width at h; omega
  exact bitLen_le.1 this
theorem fits_take {w : Nat} {l : List Int} (h : fits w l) (i : Nat) : fits w (l.take i) := fun x hx => h x (List.mem_of_mem_take hx)
structure Num (l : List Int) (W n : Nat) : Prop where
  w : W ≤ 64
  len : l.length = n
  n : n ≤ 65536
  fits : fits W l
theorem Num.mul {l : List Int} {W n i : Nat} (h : Num l W n) (hi : i ≤ n) : i * W ≤ n * W ∧ n * W ≤ 4194304 := by
  refine ⟨Nat.mul_le_mul_right _ hi, ?_⟩
  calc n * W ≤ 65536 * W := Nat.mul_le_mul_right _ h.n
    _ ≤ 65536 * 64 := Nat.mul_le_mul_left _ h.w
theorem Num.size {l : List Int} {W n : Nat} (h : Num l W n) : Sp.size (l.length : Int) (W : Int) = (((n * W + 7) / 8 : Nat) : Int) := by
  have h1 := h.w
  have h2 := h.n
  rw [h.len, size_val ⟨by omega, by omega, by omega, by omega⟩]
  omega
theorem putTo_nat {l : List Int} {W n : Nat} (h : Num l W n) (i : Nat) : putTo l (W : Int) (i : Int) = ofVal ((n * W + 7) / 8) (packN W (l.take i)) := by
  unfold putTo
  rw [h.size, Int.toNat_natCast, Int.toNat_natCast, Int.toNat_natCast]
theorem Num.lt {l : List Int} {W n i : Nat} (h : Num l W n) (hi : i ≤ n) : packN W (l.take i) < 2 ^ (i * W) := by
  have := packN_lt (fits_take h.fits i)
  rw [List.length_take, h.len, Nat.min_eq_left hi] at this; exact this
theorem Num.lt8 {l : List Int} {W n i : Nat} (h : Num l W n) (hi : i ≤ n) : packN W (l.take i) < 2 ^ (8 * ((n * W + 7) / 8)) :=
  Nat.lt_of_lt_of_le (h.lt hi) (Nat.pow_le_pow_right (by decide) (by have := (h.mul hi).1; omega))
theorem putTo_step {l : List Int} {W n i : Nat} (h : Num l W n) (hi : i < n) : putB (putTo l (W : Int) (i : Int)) ((i * W : Nat) : Int) (l.getD i 0) = putTo l (W : Int) ((i + 1 : Nat) : Int) := by
  rw [putTo_nat h, putTo_nat h, packN_take (by rw [h.len]; exact hi)]
  unfold putB
  rw [ofVal_len, valOf_ofVal (h.lt8 (by omega)), Int.toNat_natCast]
theorem putTo_end {l : List Int} {W n : Nat} (h : Num l W n) : putTo l (W : Int) (n : Int) = outP l (W : Int) := by
  unfold putTo outP
  have e : l.take n = l := List.take_of_length_le (by rw [h.len]; exact Nat.le_refl _)
  simp only [Int.toNat_natCast, e]
theorem bit_split (X k a : Nat) : (X >>> k) <<< a = ((X >>> k) % 2) <<< a ||| (X >>> (k + 1)) <<< (a + 1) := by
  apply Nat.eq_of_testBit_eq
  intro b
  have e2 : (2 : Nat) = 2 ^ 1 := rfl
  rw [e2]
  simp only [Nat.testBit_or, Nat.testBit_shiftLeft, Nat.testBit_shiftRight, Nat.testBit_mod_two_pow]
  by_cases h1 : a ≤ b
  · by_cases h2 : b = a
    · subst h2
      have : ¬ (b + 1 ≤ b) := by omega
      simp [this]
    · have h3 : a + 1 ≤ b := by omega
      have h4 : ¬ (b - a < 1) := by omega
      have h5 : k + 1 + (b - (a + 1)) = k + (b - a) := by omega
      simp [h1, h3, h4, h5]
  · have h3 : ¬ (a + 1 ≤ b) := by omega
    simp [h1, h3]
theorem widthTo_step {l : List Int} {i : Nat} (h : i < l.length) : widthTo l ((i + 1 : Nat) : Int) = ((bitLen (orAll (l.take i) ||| (l.getD i 0).toNat) : Nat) : Int) := by
  unfold widthTo width
  rw [Int.toNat_natCast, orAll_take h]
theorem bitLen_mono {a b : Nat} (h : a ≤ b) : bitLen a ≤ bitLen b := bitLen_le.2 (Nat.lt_of_le_of_lt h (bitLen_le.1 (Nat.le_refl _)))
end Sp
namespace Go.Proofs.Ytmpnelihfeiimaa
open Go.AbsM
theorem num_of {l : List Int} {W : Nat} (h : preP l (W : Int)) : Sp.Num l W l.length := by
  obtain ⟨h1, h2, h3, h4, h5⟩ := h
  exact ⟨by omega, rfl, h2, by rw [Int.toNat_natCast] at h5; exact h5⟩
theorem good17L : Goods Try.prog [ctr21, ctr33] := .cons good21 (.cons good33 .nil)
theorem good17D : GoodDs Try.prog [lctr34] := .cons good34 .nil
theorem enterP {l : List Int} {w : Int} (hu : Sp.inU l) (hlen : l.length < 9223372036854775807) {f : FuncId} {u : Unit} {X : Prop} (k : preP l w → Sp.err l w = 0 → (W.rep (W.toNat (Sp.size (W.ofNat (W.len l)) w)) 0 : List Int) = Sp.putTo l w 0 → X) :
    brc (W.ilt w 0) (errV 1 = (ctrPut f).out (l, w, u)) (brc (W.igt w 64) (errV 1 = (ctrPut f).out (l, w, u)) ((Sp.inU l ∧ l.length < 9223372036854775807) ∧ brc (W.igt (Sp.width l) w) (errV 1 = (ctrPut f).out (l, w, u)) (brc (W.igt (W.ofNat (W.len l)) 65536) (errV 4 = (ctrPut f).out (l, w, u)) (True ∧ grd (W.ile 0 (Sp.size (W.ofNat (W.len l)) w)) (grd (W.ile (Sp.size (W.ofNat (W.len l)) w) (Sp.size (W.ofNat (W.len l)) w)) (grd (W.ile (Sp.size (W.ofNat (W.len l)) w) 9223372036854775807) (grd (W.ile (W.bys 1 (Sp.size (W.ofNat (W.len l)) w)) 281474976710656) X))))))) := by
  have out1 : ∀ e : Int, e ≠ 0 → Sp.err l w = e → errV e = (ctrPut f).out (l, w, u) := fun e he h => by
    show _ = (if Sp.err l w = 0 then _ else _)
    rw [h, if_neg he]
  have e0 : W.ofNat (W.len l) = (l.length : Int) := rfl
  rw [e0]
  refine brc_ilt (fun h => out1 1 (by decide) (if_pos (.inl h))) fun h1 => brc_igt (fun h => out1 1 (by decide) (if_pos (.inr (.inl h)))) fun h2 => ⟨⟨hu, hlen⟩, brc_igt (fun h => out1 1 (by decide) (if_pos (.inr (.inr h)))) fun h3 => brc_igt (fun h => out1 4 (by decide) ?_) fun h4 => ⟨trivial, ?_⟩⟩
  · unfold Sp.err; rw [if_neg (by omega), if_pos (by omega)]
  · obtain ⟨W0, rfl⟩ : ∃ W0 : Nat, w = W0 := ⟨w.toNat, by omega⟩
    have hp : preP l (W0 : Int) := ⟨hu, by omega, h1, h2, Sp.fits_of hu h1 h3⟩
    have hn := num_of hp
    have hm := hn.mul (Nat.le_refl _)
    have hs := hn.size
    refine grd_ile (by rw [hs]; omega) (grd_ile (Int.le_refl _) (grd_ile (by rw [hs]; omega) (grd_ile ?_ (k hp (by unfold Sp.err; rw [if_neg (by omega), if_neg (by omega)]) ?_))))
    · show ((1 : Nat) : Int) * _ ≤ _; rw [hs]; omega
    · have e1 : Sp.putTo l (W0 : Int) ((0 : Nat) : Int) = _ := Sp.putTo_nat hn 0
      show List.replicate (Sp.size (l.length : Int) (W0 : Int)).toNat (0 : Int) = Sp.putTo l (W0 : Int) ((0 : Nat) : Int)
      rw [e1, hs, Int.toNat_natCast]
      exact (Sp.ofVal_zero _).symm
theorem outOk0 {l : List Int} {w : Int} {f : FuncId} {u : Unit} (h : Sp.err l w = 0) : TV.tup [.own 5 (.int .u8) (asT (List Int) (Sp.outP l w)), .c (.a (.x (.int .i64 0)))] = (ctrPut f).out (l, w, u) := by
  show _ = (if Sp.err l w = 0 then _ else _)
  rw [if_pos h]
theorem good22 : GoodC Try.prog ctr22 := by
  refine good_loopD (fn := Try.f22) [6] [28] (fun i : List Int × Int × Int × List Int => (i.1.length - i.2.2.1).toNat) wide good17L good17D ⟨by kernel_rfl, by kernel_rfl, by kernel_rfl, by kernel_rfl⟩ (by kernel_rfl) (by kernel_rfl) (by kernel_rfl) (by kernel_rfl) (n := 45) (ls := [1, 6, 29, 30, 31]) (ks := [28]) (mk := mk22) (ψ := psi22) (id := 0) ?_ ?_
  · rintro ⟨l, w, i, b⟩ Φ ⟨⟨hp, h0, h1, hb⟩, hΦ⟩
    have hp : preP l w := hp
    simp only at h0 h1 hb hΦ
    obtain ⟨p1, p2, p3, p4, p5⟩ := id hp
    obtain ⟨W0, rfl⟩ : ∃ W0 : Nat, w = W0 := ⟨w.toNat, by omega⟩
    obtain ⟨n, rfl⟩ : ∃ n : Nat, i = n := ⟨i.toNat, by omega⟩
    have hn : Sp.Num l W0 l.length := num_of hp
    subst hb
    refine Eq.mpr (nf22s _ _ _ _ l W0 n _ Φ _) ?_
    refine brc_ilt (fun h => ?_) fun h => ?_
    · have h : n < l.length := by have : ((n : Nat) : Int) < ((l.length : Nat) : Int) := h; omega
      have hm := hn.mul (i := n + 1) h
      have hm2 := hn.mul (i := n) (by omega)
      have e0 : (n + 1) * W0 = n * W0 + W0 := by rw [Nat.add_mul, Nat.one_mul]
      have e1 : W.mul .i64 (n : Int) (W0 : Int) = ((n * W0 : Nat) : Int) := by
        have : (n : Int) * (W0 : Int) = ((n * W0 : Nat) : Int) := (Int.natCast_mul n W0).symm
        rw [W.mul_i64 (by rw [this]; omega) (by rw [this]; omega), this]
      have e2 : W.nth l (W.toNat (n : Int)) 0 = l.getD n 0 := rfl
      have e3 : W.add .i64 (n : Int) 1 = ((n + 1 : Nat) : Int) := by rw [W.add_i64 (by omega) (by omega)]; rfl
      have hg := Sp.inU_getD p1 h
      have hf := p5 (l.getD n 0) (by rw [List.getD_eq_getElem?_getD, List.getElem?_eq_getElem h]; exact List.getElem_mem h)
      have hlen : (Sp.putTo l (W0 : Int) (n : Int)).length = (l.length * W0 + 7) / 8 := by rw [Sp.putTo_nat hn, Sp.ofVal_len]
      rw [e1, e2, e3]
      refine grd_ile (by omega) (grd_nlt h ⟨⟨by rw [Sp.putTo_nat hn]; exact Sp.ofVal_bytes _ _, by rw [hlen]; omega, by omega, p3, p4, ?_, hg.1, hf.2⟩, (l, (W0 : Int), ((n + 1 : Nat) : Int), _), rfl, ?_, ⟨hp, ?_, ?_, Sp.putTo_step hn h⟩, hΦ⟩)
      · show ((n * W0 : Nat) : Int) + (W0 : Int) ≤ 8 * (((Sp.putTo l (W0 : Int) (n : Int)).length : Nat) : Int)
        rw [hlen]; omega
      · show ((l.length : Int) - ((n + 1 : Nat) : Int)).toNat < ((l.length : Int) - (n : Int)).toNat; omega
      · show 0 ≤ ((n + 1 : Nat) : Int); omega
      · show ((n + 1 : Nat) : Int) ≤ (l.length : Int); omega
    · have h : ((l.length : Nat) : Int) ≤ (n : Int) := h
      have : n = l.length := by omega
      subst this
      rw [Sp.putTo_end hn]; exact hΦ
  · intro d hd
    obtain ⟨l, w, u⟩ : List Int × Int × Unit := d
    obtain ⟨hu, hlen⟩ : Sp.inU l ∧ l.length < 9223372036854775807 := hd
    refine Eq.mpr (nf22 l w _) (enterP (f := 17) (u := u) hu hlen fun hp he hr => ⟨(l, w, 0, _), rfl, ⟨hp, Int.le_refl _, ?_, hr⟩, outOk0 he⟩)
    show (0 : Int) ≤ l.length; omega
theorem good25 : GoodC Try.prog ctr25 := by
  have hK := knownL_ok wide .nil blk25 noneK
  have inner : ∀ s Φ, loopP 26 [0, 3, 4] [] mk25 psi25i s Φ → Run Try.prog (.code (.block 2 (blkC (bodyOf Try.f25) 2))) s Φ := by
    refine run_loopB (lx := [0, 3, 4]) (kx := []) hK (fun i : List Int × Int × Int => (65 - i.2.1).toNat) (by kernel_rfl) (lamOk_free (by kernel_rfl)) ?_
    rintro ⟨l, w, i⟩ Φ ⟨⟨hl, hlen, h0, h1, h2, h3⟩, hΦ⟩
    simp only at hl hlen h0 h1 h2 h3 hΦ
    obtain ⟨n, rfl⟩ : ∃ n : Nat, i = n := ⟨i.toNat, by omega⟩
    have hn : n < l.length := by omega
    have en : Sp.nextI (n : Int) = ((n + 1 : Nat) : Int) := rfl
    rw [en] at h3 hΦ
    rw [Sp.widthTo_step hn] at h3 hΦ
    have hw0 : 0 ≤ Sp.widthTo l (n : Int) := Int.natCast_nonneg _
    obtain ⟨W0, rfl⟩ : ∃ W0 : Nat, w = W0 := ⟨w.toNat, by omega⟩
    have hx := Sp.inU_getD hl hn
    have ho : Sp.orAll (l.take n) < 2 ^ W0 := by
      have : Sp.bitLen (Sp.orAll (l.take n)) ≤ W0 := by
        have h2 : ((Sp.bitLen (Sp.orAll (l.take n)) : Nat) : Int) ≤ (W0 : Int) := h2
        omega
      exact Sp.bitLen_le.1 this
    have fin : (l.getD n 0).toNat < 2 ^ W0 → ((Sp.bitLen (Sp.orAll (l.take n) ||| (l.getD n 0).toNat) : Nat) : Int) = (W0 : Int) := fun h => by
      have := Sp.bitLen_le.2 (Nat.or_lt_two_pow ho h); omega
    refine Eq.mpr (nf25i _ _ _ _ l W0 n Φ _) ?_
    refine brc_ilt (fun h => ?_) fun h => ?_
    · have e1 : W.wrap .u64 (W0 : Int) = (W0 : Int) := W.wu64_in (by omega) (by omega)
      have e2 : W.nth l (W.toNat (n : Int)) 0 = (((l.getD n 0).toNat : Nat) : Int) := by show l.getD n 0 = _; omega
      rw [e1, e2, Sp.shr_nat (k := .u64) (by show W0 ≤ 64; omega)]
      refine grd_ile (by omega) (grd_nlt hn (grd_ile (by omega) (brc_ine (fun hne => ?_) fun heq => ?_)))
      · have hlt : ¬ (l.getD n 0).toNat < 2 ^ W0 := fun hh => hne (by
          rw [Nat.shiftRight_eq_div_pow, Nat.div_eq_of_lt hh]; rfl)
        have hb : W0 + 1 ≤ Sp.bitLen (l.getD n 0).toNat := Nat.lt_of_not_le fun hh => hlt (Sp.bitLen_le.1 hh)
        have hb2 := Sp.bitLen_mono (show (l.getD n 0).toNat ≤ Sp.orAll (l.take n) ||| (l.getD n 0).toNat from Nat.right_le_or)
        rw [W.add_i64 (by omega) (by omega)]
        refine ⟨(l, (W0 : Int) + 1, (n : Int)), rfl, ?_, ⟨hl, hlen, h0, h1, ?_, ?_⟩, ?_⟩
        · show (65 - ((W0 : Int) + 1)).toNat < (65 - (W0 : Int)).toNat; omega
        · show Sp.widthTo l (n : Int) ≤ (W0 : Int) + 1; omega
        · show (W0 : Int) + 1 ≤ Sp.widthTo l ((n + 1 : Nat) : Int)
          rw [Sp.widthTo_step hn]; omega
        · show Φ .normal (mkS 26 [(0, TV.l 39 (.int .u64) l), (3, TV.int .i64 (Sp.widthTo l ((n + 1 : Nat) : Int))), (4, TV.int .i64 (n : Int))] [])
          rw [Sp.widthTo_step hn]; exact hΦ
      · have hz : (l.getD n 0).toNat >>> W0 = 0 := by omega
        rw [Nat.shiftRight_eq_div_pow] at hz
        have hlt : (l.getD n 0).toNat < 2 ^ W0 := (Nat.div_eq_zero_iff_lt (Nat.two_pow_pos _)).1 hz
        rw [fin hlt] at hΦ; exact hΦ
    · have hlt : (l.getD n 0).toNat < 2 ^ W0 := by
        have : (2 : Nat) ^ 64 ≤ 2 ^ W0 := Nat.pow_le_pow_right (by decide) (by omega)
        have h64 : (2 : Nat) ^ 64 = 18446744073709551616 := rfl
        omega
      rw [fin hlt] at hΦ; exact hΦ
  have outer : ∀ s Φ, loopP 26 [0, 3, 4] [] mk25 psi25 s Φ → Run Try.prog (.code (.block 0 (blkC (bodyOf Try.f25) 0))) s Φ := by
    refine run_loopB (lx := [3]) (kx := []) hK (fun i : List Int × Int × Int => (i.1.length - i.2.2).toNat) (by kernel_rfl) ?_ ?_
    · refine lamOk_of (fun id c' hm ψ hψ => ?_) (fun c' hm => ?_)
      · have hids : (blocksOf (loopOf (blkC (bodyOf Try.f25) 0))).map (·.1) = [1, 2, 3] := by kernel_rfl
        have hc : c' = blkC (loopOf (blkC (bodyOf Try.f25) 0)) id := findB_mem (by rw [hids]; rfl) hm
        have hid : id ∈ [1, 2, 3] := by rw [← hids]; exact List.mem_map.2 ⟨_, hm, rfl⟩
        simp only [List.mem_cons, List.not_mem_nil, or_false] at hid
        rcases hid with rfl | rfl | rfl
        · cases hψ
        · cases hψ
          rw [hc]
          have : blkC (loopOf (blkC (bodyOf Try.f25) 0)) 2 = blkC (bodyOf Try.f25) 2 := by kernel_rfl
          rw [this]; exact inner
        · cases hψ
      · have : scopesOf (loopOf (blkC (bodyOf Try.f25) 0)) = [] := by kernel_rfl
        rw [this] at hm; cases hm
    rintro ⟨l, w, i⟩ Φ ⟨⟨hl, hlen, h0, h1, h2⟩, hΦ⟩
    simp only at hl hlen h0 h1 h2 hΦ
    obtain ⟨n, rfl⟩ : ∃ n : Nat, i = n := ⟨i.toNat, by omega⟩
    refine Eq.mpr (nf25s _ _ _ _ l w n Φ _) ?_
    refine brc_ilt (fun h => ?_) fun h => ?_
    · have h : n < l.length := by have : ((n : Nat) : Int) < ((l.length : Nat) : Int) := h; omega
      have e3 : W.add .i64 (n : Int) 1 = ((n + 1 : Nat) : Int) := by rw [W.add_i64 (by omega) (by omega)]; rfl
      refine ⟨(l, w, (n : Int)), rfl, ⟨hl, hlen, h0, ?_, ?_, ?_⟩, ?_⟩
      · show (n : Int) < l.length; omega
      · show Sp.widthTo l (n : Int) ≤ w; omega
      · show w ≤ Sp.widthTo l ((n + 1 : Nat) : Int)
        rw [h2, Sp.widthTo_step h]
        have := Sp.bitLen_mono (show Sp.orAll (l.take n) ≤ Sp.orAll (l.take n) ||| (l.getD n 0).toNat from Nat.left_le_or)
        show ((Sp.bitLen (Sp.orAll (l.take n)) : Nat) : Int) ≤ _
        omega
      · show ∃ j, mkS 26 [(0, TV.l 39 (.int .u64) l), (3, TV.int .i64 (Sp.widthTo l ((n + 1 : Nat) : Int))), (4, TV.int .i64 (W.add .i64 (n : Int) 1))] [] = mk25 j ∧ _ ∧ psi25 j Φ
        rw [e3]
        refine ⟨(l, _, ((n + 1 : Nat) : Int)), rfl, ?_, ⟨hl, hlen, ?_, ?_, rfl⟩, hΦ⟩
        · show ((l.length : Int) - ((n + 1 : Nat) : Int)).toNat < ((l.length : Int) - (n : Int)).toNat; omega
        · show 0 ≤ ((n + 1 : Nat) : Int); omega
        · show ((n + 1 : Nat) : Int) ≤ (l.length : Int); omega
    · have h : ((l.length : Nat) : Int) ≤ (n : Int) := h
      have : n = l.length := by omega
      subst this
      have e : Sp.widthTo l (l.length : Int) = Sp.width l := by unfold Sp.widthTo; rw [Int.toNat_natCast, List.take_length]
      rw [h2, e]; exact hΦ
  refine good_by (blk := blk25) (lab := noneK) (fn := Try.f25) wide .nil ⟨by kernel_rfl, by kernel_rfl, by kernel_rfl, by kernel_rfl⟩ (lamOk_body (by kernel_rfl) (by kernel_rfl) (fun id ψ h => ?_) (fun l rest ψ _ hl => by cases hl)) fun d hd => ?_
  · have h : blk25 id = some ψ := h
    unfold blk25 at h
    split at h
    · rename_i hb
      have := Nat.eq_of_beq_eq_true hb
      subst this
      cases h; exact outer
    · obtain ⟨rfl, rfl⟩ := one_some h
      exact inner
  · obtain ⟨l, x⟩ : List Int × Unit := d
    obtain ⟨hl, hlen⟩ : Sp.inU l ∧ l.length < 9223372036854775807 := hd
    refine Eq.mpr (nf25 l _) ⟨(l, 0, 0), rfl, ⟨hl, hlen, Int.le_refl _, ?_, rfl⟩, rfl⟩
    show (0 : Int) ≤ l.length; omega
end Go.Proofs.Ytmpnelihfeiimaa
end

section
set_option maxRecDepth 100000
namespace Sp
open Go Go.AbsM
theorem one_shl : ∀ r : Fin 8, W.shl .u8 1 (r.val : Int) = (((1 <<< r.val : Nat)) : Int) := by decide +kernel
theorem one_lt : ∀ r : Fin 8, 1 <<< r.val < 256 := by decide
theorem set_bit {b : List Int} {L v A : Nat} (hb : b = ofVal L v) (hA : A / 8 < L) : W.upd b (A / 8) (W.or .u8 (W.nth b (A / 8) 0) (W.shl .u8 1 ((A % 8 : Nat) : Int))) = ofVal L (v ||| 1 <<< A) := by
  subst hb
  have hm : A % 8 < 8 := Nat.mod_lt _ (by decide)
  have h1 := one_shl ⟨A % 8, hm⟩
  have h2 := one_lt ⟨A % 8, hm⟩
  simp only at h1 h2
  have e1 : W.nth (ofVal L v) (A / 8) 0 = ((v >>> (8 * (A / 8)) % 256 : Nat) : Int) := ofVal_get hA
  rw [e1, h1, or_u8n (Nat.mod_lt _ (by decide)) h2]
  have := ofVal_or (L := L) (v := v) hA h2
  rw [← Nat.shiftLeft_add] at this
  have e2 : A % 8 + 8 * (A / 8) = A := Nat.mod_add_div A 8
  rw [e2] at this
  exact this
end Sp
namespace Go.Proofs.Ytmpnelihfeiimaa
open Go.AbsM
theorem good18L : Goods Try.prog [ctr25, ctr35] := .cons good25 (.cons good35 .nil)
theorem good24 : GoodC Try.prog ctr24 := by
  have hK := knownL_ok wide good18L blk24 noneK
  have inner : ∀ s Φ, loopP 67 [0, 1, 6, 7, 8, 9] [29] mk24i psi24i s Φ → Run Try.prog (.code (.block 2 (blkC (bodyOf Try.f24) 2))) s Φ := by
    refine run_loopB (lx := [0, 1, 6, 7, 8]) (kx := [29]) hK (fun i : List Int × Int × Int × Int × Int × List Int => (i.2.1 - i.2.2.2.2.1).toNat) (by kernel_rfl) (lamOk_free (by kernel_rfl)) ?_
    rintro ⟨l, w, i, a, k, b⟩ Φ ⟨⟨hp, h0, h1, h2, h3, ha, v, hv, hvl, hin⟩, hΦ⟩
    have hp : preP l w := hp
    simp only at h0 h1 h2 h3 ha hv hvl hin hΦ
    obtain ⟨p1, p2, p3, p4, p5⟩ := id hp
    obtain ⟨W0, rfl⟩ : ∃ W0 : Nat, w = W0 := ⟨w.toNat, by omega⟩
    obtain ⟨n, rfl⟩ : ∃ n : Nat, i = n := ⟨i.toNat, by omega⟩
    obtain ⟨K, rfl⟩ : ∃ K : Nat, k = K := ⟨k.toNat, by omega⟩
    have hn : Sp.Num l W0 l.length := num_of hp
    have hnl : n < l.length := by omega
    have hm := hn.mul (i := n + 1) hnl
    have e0 : (n + 1) * W0 = n * W0 + W0 := by rw [Nat.add_mul, Nat.one_mul]
    obtain ⟨A, hA⟩ : ∃ A : Nat, A = n * W0 + K := ⟨_, rfl⟩
    have haA : a = (A : Int) := by rw [ha, hA]; push_cast; rfl
    subst haA
    simp only [Int.toNat_natCast] at hvl hin hv
    rw [hn.size, Int.toNat_natCast] at hv
    have hx := Sp.inU_getD p1 hnl
    have hf := (p5 (l.getD n 0) (by rw [List.getD_eq_getElem?_getD, List.getElem?_eq_getElem hnl]; exact List.getElem_mem hnl)).2
    rw [Int.toNat_natCast] at hf
    refine Eq.mpr (nf24i _ _ _ _ l W0 n A K b Φ _) ?_
    refine brc_ilt (fun h => ?_) fun h => ?_
    · have hA8 : A / 8 < (l.length * W0 + 7) / 8 := by omega
      have hbl : b.length = (l.length * W0 + 7) / 8 := by rw [hv, Sp.ofVal_len]
      have e1 : W.wrap .u64 (K : Int) = (K : Int) := W.wu64_in (by omega) (by omega)
      have e2 : W.nth l (W.toNat (n : Int)) 0 = (((l.getD n 0).toNat : Nat) : Int) := by show l.getD n 0 = _; omega
      have e3 := Sp.quo8 (A := A) (by omega)
      have e4 : W.wrap .u64 (W.rem (A : Int) 8) = ((A % 8 : Nat) : Int) := by rw [Sp.rem8, W.wu64_in (by omega) (by omega)]
      have e5 : W.toNat ((A / 8 : Nat) : Int) = A / 8 := rfl
      have e6 : W.add .i64 (A : Int) 1 = ((A + 1 : Nat) : Int) := by rw [W.add_i64 (by omega) (by omega)]; rfl
      have e7 : W.add .i64 (K : Int) 1 = ((K + 1 : Nat) : Int) := by rw [W.add_i64 (by omega) (by omega)]; rfl
      have hsx : (l.getD n 0).toNat >>> K < 18446744073709551616 := by
        rw [Nat.shiftRight_eq_div_pow]
        exact Nat.lt_of_le_of_lt (Nat.div_le_self _ _) (by omega)
      have e8 : W.and .u64 (W.shr .u64 (((l.getD n 0).toNat : Nat) : Int) (K : Int)) 1 = ((((l.getD n 0).toNat >>> K) % 2 : Nat) : Int) := by
        rw [Sp.shr_nat (k := .u64) (by show K ≤ 64; omega)]
        have := Sp.and_u64 (x := (l.getD n 0).toNat >>> K) (y := 1) hsx (by decide)
        rw [← Nat.and_one_is_mod]; exact this
      rw [e1, e2, e3, e4, e5, e6, e7, e8]
      have hsplit := Sp.bit_split (l.getD n 0).toNat K A
      have next : ∀ (b2 : List Int) (v2 : Nat), b2 = Sp.ofVal ((l.length * W0 + 7) / 8) v2 → v2 = v ||| (((l.getD n 0).toNat >>> K) % 2) <<< A → ∃ j, mkS 67 [(0, TV.l 39 (.int .u64) l), (1, TV.int .i64 (W0 : Int)), (6, TV.h 29), (7, TV.int .i64 ((A + 1 : Nat) : Int)), (8, TV.int .i64 (n : Int)), (9, TV.int .i64 ((K + 1 : Nat) : Int))] [(29, .arr false 5 (.int .u8) b2)] = mk24i j ∧ (fun i : List Int × Int × Int × Int × Int × List Int => (i.2.1 - i.2.2.2.2.1).toNat) j < (fun i : List Int × Int × Int × Int × Int × List Int => (i.2.1 - i.2.2.2.2.1).toNat) (l, (W0 : Int), (n : Int), (A : Int), (K : Int), b) ∧ psi24i j Φ := fun b2 v2 hb2 hv2 => by
        refine ⟨(l, (W0 : Int), (n : Int), ((A + 1 : Nat) : Int), ((K + 1 : Nat) : Int), b2), rfl, ?_, ⟨hp, h0, h1, ?_, ?_, ?_, v2, ?_, ?_, ?_⟩, hΦ⟩
        · show ((W0 : Int) - ((K + 1 : Nat) : Int)).toNat < ((W0 : Int) - (K : Int)).toNat; omega
        · show 0 ≤ ((K + 1 : Nat) : Int); omega
        · show ((K + 1 : Nat) : Int) ≤ (W0 : Int); omega
        · show ((A + 1 : Nat) : Int) = (n : Int) * (W0 : Int) + ((K + 1 : Nat) : Int)
          rw [hA]; push_cast; omega
        · show b2 = Sp.ofVal (Sp.size (l.length : Int) (W0 : Int)).toNat v2
          rw [hn.size, Int.toNat_natCast]; exact hb2
        · show v2 < 2 ^ (A + 1)
          rw [hv2]
          apply Nat.or_lt_two_pow
          · exact Nat.lt_of_lt_of_le hvl (Nat.pow_le_pow_right (by decide) (by omega))
          · rw [Nat.shiftLeft_eq, Nat.pow_succ]
            have : ((l.getD n 0).toNat >>> K) % 2 < 2 := Nat.mod_lt _ (by decide)
            calc ((l.getD n 0).toNat >>> K) % 2 * 2 ^ A < 2 * 2 ^ A := Nat.mul_lt_mul_of_pos_right this (Nat.two_pow_pos _)
              _ = 2 ^ A * 2 := Nat.mul_comm _ _
        · show v2 ||| ((l.getD n 0).toNat >>> (K + 1)) <<< (A + 1) = _
          rw [hv2, Nat.or_assoc, ← hsplit]; exact hin
      refine grd_ile (by omega) (grd_nlt hnl (grd_ile (by omega) (brc_ieq (fun hb1 => ?_) fun hb1 => ?_)))
      · have hbit : ((l.getD n 0).toNat >>> K) % 2 = 1 := by omega
        have hset := Sp.set_bit hv hA8
        have hbA : A / 8 < W.len b := by show A / 8 < b.length; rw [hbl]; exact hA8
        exact grd_ile (by omega) (grd_nlt hbA (grd_nlt hbA (grd_ile (by omega) (grd_ile (by omega) (grd_nlt hbA (grd_nlt hbA (next _ _ hset (by rw [hbit]))))))))
      · have hbit : ((l.getD n 0).toNat >>> K) % 2 = 0 := by
          have := Nat.mod_lt ((l.getD n 0).toNat >>> K) (show 0 < 2 by decide)
          omega
        exact next b v hv (by rw [hbit, Nat.zero_shiftLeft, Nat.or_zero])
    · have hK : K = W0 := by omega
      subst hK
      have hz : (l.getD n 0).toNat >>> K = 0 := by
        rw [Nat.shiftRight_eq_div_pow]; exact Nat.div_eq_of_lt hf
      rw [hz, Nat.zero_shiftLeft, Nat.or_zero] at hin
      have en : Sp.nextI (n : Int) = ((n + 1 : Nat) : Int) := rfl
      have e1 : Sp.mulI ((n + 1 : Nat) : Int) (K : Int) = (A : Int) := by
        show ((n + 1 : Nat) : Int) * (K : Int) = _
        rw [hA, ← Int.natCast_mul, e0]
      have e2 : Sp.putTo l (K : Int) ((n + 1 : Nat) : Int) = b := by rw [Sp.putTo_nat hn, hv, hin]
      rw [en, e1, e2] at hΦ
      exact hΦ
  have outer : ∀ s Φ, loopP 67 [0, 1, 6, 7, 8] [29] mk24 psi24 s Φ → Run Try.prog (.code (.block 0 (blkC (bodyOf Try.f24) 0))) s Φ := by
    refine run_loopB (lx := [6]) (kx := [29]) hK (fun i : List Int × Int × Int × Int × List Int => (i.1.length - i.2.2.1).toNat) (by kernel_rfl) ?_ ?_
    · refine lamOk_of (fun id c' hm ψ hψ => ?_) (fun c' hm => ?_)
      · have hids : (blocksOf (loopOf (blkC (bodyOf Try.f24) 0))).map (·.1) = [1, 2, 3] := by kernel_rfl
        have hc : c' = blkC (loopOf (blkC (bodyOf Try.f24) 0)) id := findB_mem (by rw [hids]; rfl) hm
        have hid : id ∈ [1, 2, 3] := by rw [← hids]; exact List.mem_map.2 ⟨_, hm, rfl⟩
        simp only [List.mem_cons, List.not_mem_nil, or_false] at hid
        rcases hid with rfl | rfl | rfl
        · cases hψ
        · cases hψ
          rw [hc]
          have : blkC (loopOf (blkC (bodyOf Try.f24) 0)) 2 = blkC (bodyOf Try.f24) 2 := by kernel_rfl
          rw [this]; exact inner
        · cases hψ
      · have : scopesOf (loopOf (blkC (bodyOf Try.f24) 0)) = [] := by kernel_rfl
        rw [this] at hm; cases hm
    rintro ⟨l, w, i, a, b⟩ Φ ⟨⟨hp, h0, h1, ha, hb⟩, hΦ⟩
    have hp : preP l w := hp
    simp only at h0 h1 ha hb hΦ
    obtain ⟨p1, p2, p3, p4, p5⟩ := id hp
    obtain ⟨W0, rfl⟩ : ∃ W0 : Nat, w = W0 := ⟨w.toNat, by omega⟩
    obtain ⟨n, rfl⟩ : ∃ n : Nat, i = n := ⟨i.toNat, by omega⟩
    have hn : Sp.Num l W0 l.length := num_of hp
    refine Eq.mpr (nf24s _ _ _ _ l W0 n a b Φ _) ?_
    refine brc_ilt (fun h => ?_) fun h => ?_
    · have h : n < l.length := by have : ((n : Nat) : Int) < ((l.length : Nat) : Int) := h; omega
      have e3 : W.add .i64 (n : Int) 1 = ((n + 1 : Nat) : Int) := by rw [W.add_i64 (by omega) (by omega)]; rfl
      have haN : a = ((n * W0 : Nat) : Int) := by rw [ha]; exact (Int.natCast_mul n W0).symm
      refine ⟨(l, (W0 : Int), (n : Int), a, 0, b), rfl, ⟨hp, h0, ?_, Int.le_refl _, p3, ?_, Sp.packN W0 (l.take n), ?_, ?_, ?_⟩, ?_⟩
      · show (n : Int) < l.length; omega
      · show a = (n : Int) * (W0 : Int) + 0; rw [Int.add_zero]; exact ha
      · show b = Sp.ofVal (Sp.size (l.length : Int) (W0 : Int)).toNat _
        rw [hn.size, Int.toNat_natCast, hb, Sp.putTo_nat hn]
      · show Sp.packN W0 (l.take n) < 2 ^ a.toNat
        rw [haN, Int.toNat_natCast]; exact hn.lt (by omega)
      · show Sp.packN W0 (l.take n) ||| ((l.getD n 0).toNat >>> 0) <<< a.toNat = Sp.packN W0 (l.take (n + 1))
        rw [haN, Int.toNat_natCast, Nat.shiftRight_zero, Sp.packN_take h]
      · show ∃ j, mkS 67 [(0, TV.l 39 (.int .u64) l), (1, TV.int .i64 (W0 : Int)), (6, TV.h 29), (7, TV.int .i64 (Sp.mulI ((n + 1 : Nat) : Int) (W0 : Int))), (8, TV.int .i64 (W.add .i64 (n : Int) 1))] [(29, .arr false 5 (.int .u8) (Sp.putTo l (W0 : Int) ((n + 1 : Nat) : Int)))] = mk24 j ∧ _ ∧ psi24 j Φ
        rw [e3]
        refine ⟨(l, (W0 : Int), ((n + 1 : Nat) : Int), _, _), rfl, ?_, ⟨hp, ?_, ?_, rfl, rfl⟩, hΦ⟩
        · show ((l.length : Int) - ((n + 1 : Nat) : Int)).toNat < ((l.length : Int) - (n : Int)).toNat; omega
        · show 0 ≤ ((n + 1 : Nat) : Int); omega
        · show ((n + 1 : Nat) : Int) ≤ (l.length : Int); omega
    · have h : ((l.length : Nat) : Int) ≤ (n : Int) := h
      have : n = l.length := by omega
      subst this
      rw [hb, Sp.putTo_end hn]; exact hΦ
  refine good_by (blk := blk24) (lab := noneK) (fn := Try.f24) wide good18L ⟨by kernel_rfl, by kernel_rfl, by kernel_rfl, by kernel_rfl⟩ (lamOk_body (by kernel_rfl) (by kernel_rfl) (fun id ψ h => ?_) (fun l rest ψ _ hl => by cases hl)) fun d hd => ?_
  · have h : blk24 id = some ψ := h
    unfold blk24 at h
    split at h
    · rename_i hb
      have := Nat.eq_of_beq_eq_true hb
      subst this
      cases h; exact outer
    · obtain ⟨rfl, rfl⟩ := one_some h
      exact inner
  · obtain ⟨l, w, u⟩ : List Int × Int × Unit := d
    obtain ⟨hu, hlen⟩ : Sp.inU l ∧ l.length < 9223372036854775807 := hd
    refine Eq.mpr (nf24 l w _) (enterP (f := 18) (u := u) hu hlen fun hp he hr => ⟨(l, w, 0, 0, _), rfl, ⟨hp, Int.le_refl _, ?_, ?_, hr⟩, outOk0 he⟩)
    · show (0 : Int) ≤ l.length; omega
    · show (0 : Int) = 0 * w; rw [Int.zero_mul]
end Go.Proofs.Ytmpnelihfeiimaa
end

section
set_option maxRecDepth 100000
namespace Sp
open Go Go.AbsM
def gerr (b : List Int) (n w : Int) : Int := if mayB n w = false then 1 else if (b.length : Int) < size n w then 5 else if size n w < b.length then 4 else if valOf b >>> (n * w).toNat ≠ 0 then 2 else 0
def got (b : List Int) (n w : Int) : List Int := unpackN w.toNat (valOf b) n.toNat
def gotTo (b : List Int) (n w i : Int) : List Int := (got b n w).take i.toNat ++ List.replicate (n.toNat - i.toNat) 0
def gotN (b : List Int) (n w i : Int) : List Int := (got b n w).take i.toNat
def restZ (b : List Int) (n w a : Int) : Prop := (valOf b >>> (n * w).toNat) % 2 ^ (a.toNat - (n * w).toNat) = 0
def allZ (b : List Int) (n w : Int) : Prop := valOf b >>> (n * w).toNat = 0
def fitB (b : List Int) (n w : Int) : Prop := bytes b ∧ mayB n w = true ∧ (b.length : Int) = size n w
def at3 (i w k a : Int) : Prop := a = i * w + k
end Sp
namespace Go.Proofs.Ytmpnelihfeiimaa
open Go.AbsM
def ctr38 : TCtr where
  f := 38
  sig := [.l 5 (.int .u8), .v (.int .i64), .v (.int .i64)]
  pre := fun (d : List Int × Int × Int × Unit) => Sp.bytes d.1 ∧ d.1.length < 9223372036854775807
  out := fun (d : List Int × Int × Int × Unit) => if Sp.gerr d.1 d.2.1 d.2.2.1 = 0 then TV.tup [.own 39 (.int .u64) (Sp.got d.1 d.2.1 d.2.2.1), .c (.a (.x (.int .i64 0)))] else errV (Sp.gerr d.1 d.2.1 d.2.2.1)
  outK := fun (d : List Int × Int × Int × Unit) K => (Sp.gerr d.1 d.2.1 d.2.2.1 ≠ 0 → K (TV.tup [.c (.a .nils), .c (.a (.x (.int .i64 (Sp.gerr d.1 d.2.1 d.2.2.1))))])) ∧ (Sp.gerr d.1 d.2.1 d.2.2.1 = 0 → K (TV.tup [.own 39 (.int .u64) (Sp.got d.1 d.2.1 d.2.2.1), .c (.a (.x (.int .i64 0)))]))
  outK_ok := fun (d : List Int × Int × Int × Unit) K h => by
    show K (if Sp.gerr d.1 d.2.1 d.2.2.1 = 0 then _ else _)
    split
    · exact h.2 (by assumption)
    · exact h.1 (by assumption)
  outOk := fun (d : List Int × Int × Int × Unit) => by
    show TV.outOk (if Sp.gerr d.1 d.2.1 d.2.2.1 = 0 then _ else _) = true
    split <;> rfl
def mk38 (i : List Int × Int × Int × Int × List Int) : TSt := mkS 56 [(0, TV.l 5 (.int .u8) i.1), (2, TV.int .i64 i.2.2.1), (9, TV.h 39), (41, TV.int .i64 i.2.1), (42, TV.int .i64 i.2.2.2.1)] [(39, .arr false 39 (.int .u64) i.2.2.2.2)]
def psi38 (i : List Int × Int × Int × Int × List Int) (Φ : Post) : Prop := (Sp.fitB i.1 i.2.1 i.2.2.1 ∧ 0 ≤ i.2.2.2.1 ∧ i.2.2.2.1 ≤ i.2.1 ∧ i.2.2.2.2 = Sp.gotTo i.1 i.2.1 i.2.2.1 i.2.2.2.1) ∧ Φ .normal (mkS 56 [(9, TV.h 39)] [(39, .arr false 39 (.int .u64) (Sp.got i.1 i.2.1 i.2.2.1))])
def blk38 : Nat → Option Piece := one 0 (loopP 56 [0, 2, 9, 41, 42] [39] mk38 psi38)
theorem nf38 (b : List Int) (n w : Int) (Q : TV → Prop) : wpFn Try.prog (knownL [ctr40, ctr33, ctr41] blk38 noneK) Try.f38 [.c (.sl 5 (.int .u8) (.mk b)), .c (.a (.x (.int .i64 n))), .c (.a (.x (.int .i64 w)))] Q = (
  True ∧ brc (W.bnot (Sp.mayB n w)) (Q (TV.tup [T1.c (TC.a AV.nils), T1.c (TC.a (AV.x (Value.int IntKind.i64 (1 : Int))))])) (True ∧ brc (W.ilt (W.ofNat (W.len b)) (Sp.size n w)) (Q (TV.tup [T1.c (TC.a AV.nils), T1.c (TC.a (AV.x (Value.int IntKind.i64 (5 : Int))))])) (brc (W.igt (W.ofNat (W.len b)) (Sp.size n w)) (Q (TV.tup [T1.c (TC.a AV.nils), T1.c (TC.a (AV.x (Value.int IntKind.i64 (4 : Int))))])) ((Sp.bytes b ∧ List.length b < (1000000 : Nat) ∧ (0 : Int) ≤ W.mul IntKind.i64 n w ∧ (0 : Int) ≤ W.sub IntKind.i64 (W.mul IntKind.i64 (Sp.size n w) (8 : Int)) (W.mul IntKind.i64 n w) ∧ W.sub IntKind.i64 (W.mul IntKind.i64 (Sp.size n w) (8 : Int)) (W.mul IntKind.i64 n w) ≤ (64 : Int) ∧ W.mul IntKind.i64 n w + W.sub IntKind.i64 (W.mul IntKind.i64 (Sp.size n w) (8 : Int)) (W.mul IntKind.i64 n w) ≤ (8 : Int) * Int.ofNat (List.length b)) ∧ brc (W.ine (Sp.getB b (W.mul IntKind.i64 n w) (W.sub IntKind.i64 (W.mul IntKind.i64 (Sp.size n w) (8 : Int)) (W.mul IntKind.i64 n w))) (0 : Int)) (Q (TV.tup [T1.c (TC.a AV.nils), T1.c (TC.a (AV.x (Value.int IntKind.i64 (2 : Int))))])) (grd (W.ile (0 : Int) n) (grd (W.ile n n) (grd (W.ile n (9223372036854775807 : Int)) (grd (W.ile (W.bys (8 : Nat) n) (281474976710656 : Int)) (∃ i, mkS (56 : Nat) [((0 : Nat), TV.l (5 : Nat) (VT.int IntKind.u8) b), ((2 : Nat), TV.int IntKind.i64 w), ((9 : Nat), TV.h (39 : Nat)), ((41 : Nat), TV.int IntKind.i64 (W.ofNat (W.len (W.rep (W.toNat n) (0 : Int))))), ((42 : Nat), TV.int IntKind.i64 (0 : Int))] [((39 : Nat), TOb.arr false (39 : Nat) (VT.int IntKind.u64) (asT (List Int) (W.rep (W.toNat n) (0 : Int))))] = mkS (56 : Nat) [((0 : Nat), TV.l (5 : Nat) (VT.int IntKind.u8) (asT (List Int) (Prod.fst i))), ((2 : Nat), TV.int IntKind.i64 (Prod.fst (Prod.snd (Prod.snd i)))), ((9 : Nat), TV.h (39 : Nat)), ((41 : Nat), TV.int IntKind.i64 (Prod.fst (Prod.snd i))), ((42 : Nat), TV.int IntKind.i64 (Prod.fst (Prod.snd (Prod.snd (Prod.snd i)))))] [((39 : Nat), TOb.arr false (39 : Nat) (VT.int IntKind.u64) (asT (List Int) (Prod.snd (Prod.snd (Prod.snd (Prod.snd i))))))] ∧ (Sp.fitB (Prod.fst i) (Prod.fst (Prod.snd i)) (Prod.fst (Prod.snd (Prod.snd i))) ∧ (0 : Int) ≤ Prod.fst (Prod.snd (Prod.snd (Prod.snd i))) ∧ Prod.fst (Prod.snd (Prod.snd (Prod.snd i))) ≤ Prod.fst (Prod.snd i) ∧ Prod.snd (Prod.snd (Prod.snd (Prod.snd i))) = Sp.gotTo (Prod.fst i) (Prod.fst (Prod.snd i)) (Prod.fst (Prod.snd (Prod.snd i))) (Prod.fst (Prod.snd (Prod.snd (Prod.snd i))))) ∧ Q (TV.tup [T1.own (39 : Nat) (VT.int IntKind.u64) (asT (List Int) (Sp.got (Prod.fst i) (Prod.fst (Prod.snd i)) (Prod.fst (Prod.snd (Prod.snd i))))), T1.c (TC.a (AV.x (Value.int IntKind.i64 (0 : Int))))])))))))))) := by kernel_rfl
theorem nf38s (ι : Type) (mk : ι → TSt) (ψ : ι → Post → Prop) (μ : ι → Nat) (b : List Int) (n w i : Int) (xs : List Int) (Φ : Post) (m : Nat) : wpT Try.prog (knownL [ctr40, ctr33, ctr41] blk38 noneK) (loopOf (blkC (bodyOf Try.f38) 0)) (mk38 (b, n, w, i, xs)) (stepK 56 [0, 2, 9, 41, 42] [39] [9] [39] 0 mk μ ψ m Φ) = (
  brc (W.ilt i n) ((Sp.bytes b ∧ List.length b < (1000000 : Nat) ∧ (0 : Int) ≤ W.mul IntKind.i64 i w ∧ (0 : Int) ≤ w ∧ w ≤ (64 : Int) ∧ W.mul IntKind.i64 i w + w ≤ (8 : Int) * Int.ofNat (List.length b)) ∧ grd (W.ile (0 : Int) i) (grd (W.nlt (W.toNat i) (W.len xs)) (grd (W.nlt (W.toNat i) (W.len xs)) (∃ j, mkS (56 : Nat) [((0 : Nat), TV.l (5 : Nat) (VT.int IntKind.u8) b), ((2 : Nat), TV.int IntKind.i64 w), ((9 : Nat), TV.h (39 : Nat)), ((41 : Nat), TV.int IntKind.i64 n), ((42 : Nat), TV.int IntKind.i64 (W.add IntKind.i64 i (1 : Int)))] [((39 : Nat), TOb.arr false (39 : Nat) (VT.int IntKind.u64) (asT (List Int) (W.upd xs (W.toNat i) (Sp.getB b (W.mul IntKind.i64 i w) w))))] = mk j ∧ μ j < m ∧ ψ j Φ)))) (Φ AExit.normal (mkS (56 : Nat) [((9 : Nat), TV.h (39 : Nat))] [((39 : Nat), TOb.arr false (39 : Nat) (VT.int IntKind.u64) xs)]))) := by kernel_rfl
end Go.Proofs.Ytmpnelihfeiimaa
end

section
set_option maxRecDepth 100000
namespace Sp
open Go Go.AbsM
theorem getB_nat (b : List Int) (a k : Nat) : getB b (a : Int) (k : Int) = (((valOf b >>> a) % 2 ^ k : Nat) : Int) := rfl
structure Fit (b : List Int) (n w : Nat) : Prop where
  hw : w ≤ 64
  hn : n ≤ 65536
  hb : bytes b
  len : b.length = (n * w + 7) / 8
theorem Fit.mul {b : List Int} {n w i : Nat} (h : Fit b n w) (hi : i ≤ n) : i * w ≤ n * w ∧ n * w ≤ 4194304 := by
  refine ⟨Nat.mul_le_mul_right _ hi, ?_⟩
  calc n * w ≤ 65536 * w := Nat.mul_le_mul_right _ h.hn
    _ ≤ 65536 * 64 := Nat.mul_le_mul_left _ h.hw
theorem fit_of {b : List Int} {n w : Int} (h : fitB b n w) : ∃ N M : Nat, n = N ∧ w = M ∧ Fit b N M := by
  obtain ⟨h1, h2, h3⟩ := h
  have h4 := mayB_iff.1 h2
  obtain ⟨N, rfl⟩ : ∃ N : Nat, n = N := ⟨n.toNat, by omega⟩
  obtain ⟨M, rfl⟩ : ∃ M : Nat, w = M := ⟨w.toNat, by omega⟩
  refine ⟨N, M, rfl, rfl, by omega, by omega, h1, ?_⟩
  rw [size_val h4] at h3
  have : ((N * M : Nat) : Int) = (N : Int) * (M : Int) := Int.natCast_mul N M
  rw [← this] at h3
  omega
theorem got_len (b : List Int) (N M : Nat) : (got b (N : Int) (M : Int)).length = N := by
  unfold got; rw [unpackN_len, Int.toNat_natCast]
theorem got_get {b : List Int} {N M i : Nat} (h : i < N) : (got b (N : Int) (M : Int)).getD i 0 = getB b ((i * M : Nat) : Int) (M : Int) := by
  unfold got; rw [getB_nat]
  simp only [Int.toNat_natCast]
  exact unpackN_get M N (valOf b) i h
theorem gotN_step {b : List Int} {N M i : Nat} (h : i < N) : gotN b (N : Int) (M : Int) ((i + 1 : Nat) : Int) = gotN b (N : Int) (M : Int) (i : Int) ++ [getB b ((i * M : Nat) : Int) (M : Int)] := by
  unfold gotN
  simp only [Int.toNat_natCast]
  have hl : i < (got b (N : Int) (M : Int)).length := by rw [got_len]; exact h
  rw [List.take_add_one, List.getElem?_eq_getElem hl]
  congr 1
  have := got_get (b := b) (M := M) h
  rw [List.getD_eq_getElem?_getD, List.getElem?_eq_getElem hl] at this
  show [_] = [_]
  rw [← this]; rfl
theorem gotN_all (b : List Int) (N M : Nat) : gotN b (N : Int) (M : Int) (N : Int) = got b (N : Int) (M : Int) := by
  unfold gotN
  exact List.take_of_length_le (by rw [got_len, Int.toNat_natCast]; exact Nat.le_refl _)
theorem gotN_len {b : List Int} {N M i : Nat} (h : i ≤ N) : (gotN b (N : Int) (M : Int) (i : Int)).length = i := by
  unfold gotN; rw [List.length_take, got_len, Int.toNat_natCast]; omega
theorem gotTo_eq (b : List Int) (N M i : Nat) : gotTo b (N : Int) (M : Int) (i : Int) = gotN b (N : Int) (M : Int) (i : Int) ++ List.replicate (N - i) 0 := by
  unfold gotTo gotN; simp only [Int.toNat_natCast]
theorem set_app (l : List Int) (k : Nat) (x : Int) : (l ++ List.replicate (k + 1) 0).set l.length x = (l ++ [x]) ++ List.replicate k 0 := by
  rw [List.set_append_right _ _ (Nat.le_refl _), Nat.sub_self, List.replicate_succ, List.set_cons_zero, List.append_assoc]; rfl
theorem gotTo_step {b : List Int} {N M i : Nat} (h : i < N) : (gotTo b (N : Int) (M : Int) (i : Int)).set i (getB b ((i * M : Nat) : Int) (M : Int)) = gotTo b (N : Int) (M : Int) ((i + 1 : Nat) : Int) := by
  rw [gotTo_eq, gotTo_eq, gotN_step h]
  obtain ⟨k, hk⟩ : ∃ k, N - i = k + 1 := ⟨N - i - 1, by omega⟩
  have hk2 : N - (i + 1) = k := by omega
  have hl := gotN_len (b := b) (M := M) (show i ≤ N by omega)
  rw [hk, hk2]
  have := set_app (gotN b (N : Int) (M : Int) (i : Int)) k (getB b ((i * M : Nat) : Int) (M : Int))
  rw [hl] at this; exact this
theorem gotTo_all (b : List Int) (N M : Nat) : gotTo b (N : Int) (M : Int) (N : Int) = got b (N : Int) (M : Int) := by
  rw [gotTo_eq, gotN_all, Nat.sub_self, List.replicate_zero, List.append_nil]
theorem Fit.val {b : List Int} {n w : Nat} (h : Fit b n w) : valOf b < 2 ^ (8 * b.length) := valOf_lt b
theorem Fit.rest {b : List Int} {n w : Nat} (h : Fit b n w) : (valOf b >>> (n * w)) % 2 ^ (8 * b.length - n * w) = valOf b >>> (n * w) := by
  have hm := (h.mul (Nat.le_refl _)).2
  have hl := h.len
  exact Nat.mod_eq_of_lt (shr_lt (valOf_lt b) (by omega))
theorem gerr_fit {b : List Int} {n w : Nat} (h : Fit b n w) : gerr b (n : Int) (w : Int) = if valOf b >>> (n * w) ≠ 0 then 2 else 0 := by
  have h1 := h.hw
  have h2 := h.hn
  have hs : size (n : Int) (w : Int) = (b.length : Int) := by
    rw [size_val ⟨by omega, by omega, by omega, by omega⟩, h.len, ← Int.natCast_mul]; omega
  have hm : mayB (n : Int) (w : Int) = true := mayB_iff.2 ⟨by omega, by omega, by omega, by omega⟩
  unfold gerr
  rw [hm, if_neg (by decide), hs, if_neg (by omega), if_neg (by omega), ← Int.natCast_mul, Int.toNat_natCast]
end Sp
namespace Go.Proofs.Ytmpnelihfeiimaa
open Go.AbsM
theorem good21L' : Goods Try.prog [ctr40, ctr33, ctr41] := .cons good40 (.cons good33 (.cons good41 .nil))
theorem mulN {i w : Nat} (h : i * w ≤ 4194304) : W.mul .i64 (i : Int) (w : Int) = ((i * w : Nat) : Int) := by
  have : (i : Int) * (w : Int) = ((i * w : Nat) : Int) := (Int.natCast_mul i w).symm
  rw [W.mul_i64 (by rw [this]; omega) (by rw [this]; omega), this]
theorem fitB_of {b : List Int} {n w : Int} (hb : Sp.bytes b) (hm : Sp.mayB n w = true) (h1 : Sp.size n w ≤ (b.length : Int)) (h2 : (b.length : Int) ≤ Sp.size n w) : Sp.fitB b n w := ⟨hb, hm, by omega⟩
theorem good38 : GoodC Try.prog ctr38 := by
  refine good_loop (fn := Try.f38) [9] [39] (fun i : List Int × Int × Int × Int × List Int => (i.2.1 - i.2.2.2.1).toNat) wide good21L' ⟨by kernel_rfl, by kernel_rfl, by kernel_rfl, by kernel_rfl⟩ (by kernel_rfl) (by kernel_rfl) (by kernel_rfl) (by kernel_rfl) (n := 56) (ls := [0, 2, 9, 41, 42]) (ks := [39]) (mk := mk38) (ψ := psi38) (id := 0) ?_ ?_
  · rintro ⟨b, n, w, i, xs⟩ Φ ⟨⟨hf, h0, h1, hx⟩, hΦ⟩
    simp only at hf h0 h1 hx hΦ
    have hfb := hf
    obtain ⟨N, M, rfl, rfl, hF⟩ := Sp.fit_of hf
    obtain ⟨I, rfl⟩ : ∃ I : Nat, i = I := ⟨i.toNat, by omega⟩
    refine Eq.mpr (nf38s _ _ _ _ b N M I xs Φ _) ?_
    refine brc_ilt (fun h => ?_) fun h => ?_
    · have hI : I < N := by omega
      have hm := hF.mul (i := I + 1) hI
      have e0 : (I + 1) * M = I * M + M := by rw [Nat.add_mul, Nat.one_mul]
      have hl := hF.len
      have hw := hF.hw
      have e3 : W.add .i64 (I : Int) 1 = ((I + 1 : Nat) : Int) := by rw [W.add_i64 (by have := hF.hn; omega) (by have := hF.hn; omega)]; rfl
      have hxl : xs.length = N := by rw [hx, Sp.gotTo_eq, List.length_append, Sp.gotN_len (by omega), List.length_replicate]; omega
      rw [mulN (by omega), e3]
      refine ⟨⟨hF.hb, by omega, by omega, by omega, by omega, ?_⟩, grd_ile (by omega) (grd_nlt (by show I < xs.length; omega) (grd_nlt (by show I < xs.length; omega) ⟨(b, (N : Int), (M : Int), ((I + 1 : Nat) : Int), _), rfl, ?_, ⟨hfb, ?_, ?_, ?_⟩, hΦ⟩))⟩
      · show ((I * M : Nat) : Int) + (M : Int) ≤ 8 * ((b.length : Nat) : Int); omega
      · show ((N : Int) - ((I + 1 : Nat) : Int)).toNat < ((N : Int) - (I : Int)).toNat; omega
      · show 0 ≤ ((I + 1 : Nat) : Int); omega
      · show ((I + 1 : Nat) : Int) ≤ (N : Int); omega
      · show xs.set I _ = _
        rw [hx]; exact Sp.gotTo_step hI
    · have : I = N := by omega
      subst this
      rw [hx, Sp.gotTo_all]; exact hΦ
  · intro d hd
    obtain ⟨b, n, w, u⟩ : List Int × Int × Int × Unit := d
    obtain ⟨hb, hlen⟩ : Sp.bytes b ∧ b.length < 9223372036854775807 := hd
    have out1 : ∀ e : Int, e ≠ 0 → Sp.gerr b n w = e → errV e = ctr38.out (b, n, w, u) := fun e he h => by
      show _ = (if Sp.gerr b n w = 0 then _ else _)
      rw [h, if_neg he]
    refine Eq.mpr (nf38 b n w _) ⟨trivial, brc_bnot (fun h => out1 1 (by decide) (if_pos h)) fun hm => ⟨trivial, ?_⟩⟩
    have e0 : W.ofNat (W.len b) = (b.length : Int) := rfl
    rw [e0]
    refine brc_ilt (fun h => out1 5 (by decide) ?_) fun h1 => brc_igt (fun h => out1 4 (by decide) ?_) fun h2 => ?_
    · unfold Sp.gerr; rw [hm, if_neg (by decide), if_pos h]
    · unfold Sp.gerr; rw [hm, if_neg (by decide), if_neg (by omega), if_pos h]
    · have hfb := fitB_of hb hm h1 h2
      have hsz : Sp.size n w = (b.length : Int) := by omega
      obtain ⟨N, M, rfl, rfl, hF⟩ := Sp.fit_of hfb
      have hmu := (hF.mul (Nat.le_refl _)).2
      have hl := hF.len
      have hnn := hF.hn
      have e1 : W.mul .i64 (b.length : Int) 8 = ((8 * b.length : Nat) : Int) := by rw [W.mul_i64 (by omega) (by omega)]; omega
      have e2 : W.sub .i64 ((8 * b.length : Nat) : Int) ((N * M : Nat) : Int) = ((8 * b.length - N * M : Nat) : Int) := by rw [W.sub_i64 (by omega) (by omega)]; omega
      have e3 : Sp.getB b ((N * M : Nat) : Int) ((8 * b.length - N * M : Nat) : Int) = ((Sp.valOf b >>> (N * M) : Nat) : Int) := by rw [Sp.getB_nat, hF.rest]
      rw [hsz, mulN hmu, e1, e2, e3]
      have hge := Sp.gerr_fit hF
      refine ⟨⟨hb, by omega, by omega, by omega, by omega, by show ((N * M : Nat) : Int) + ((8 * b.length - N * M : Nat) : Int) ≤ 8 * ((b.length : Nat) : Int); omega⟩, brc_ine (fun h => out1 2 (by decide) (by rw [hge, if_pos (fun hz => h (by rw [hz]; rfl))])) fun h => ?_⟩
      have hz : Sp.valOf b >>> (N * M) = 0 := Int.ofNat.inj h
      rw [hz, if_neg (by decide)] at hge
      refine grd_ile (by omega) (grd_ile (Int.le_refl _) (grd_ile (by omega) (grd_ile (by show ((8 : Nat) : Int) * (N : Int) ≤ _; omega) ⟨(b, (N : Int), (M : Int), 0, List.replicate N (0 : Int)), ?_, ⟨hfb, Int.le_refl _, by show (0 : Int) ≤ (N : Int); omega, ?_⟩, ?_⟩)))
      · show mkS 56 [(0, TV.l 5 (.int .u8) b), (2, TV.int .i64 (M : Int)), (9, TV.h 39), (41, TV.int .i64 ((List.replicate (N : Int).toNat (0 : Int)).length : Int)), (42, TV.int .i64 0)] _ = _
        rw [List.length_replicate, Int.toNat_natCast]; rfl
      · show List.replicate N (0 : Int) = Sp.gotTo b (N : Int) (M : Int) ((0 : Nat) : Int)
        rw [Sp.gotTo_eq]; rfl
      · show _ = (if Sp.gerr b (N : Int) (M : Int) = 0 then _ else _)
        rw [if_pos hge]
end Go.Proofs.Ytmpnelihfeiimaa
end

section
set_option maxRecDepth 100000
namespace Sp
open Go Go.AbsM
theorem width_nonneg (l : List Int) : 0 ≤ width l := Int.natCast_nonneg _
theorem err_zero {l : List Int} {w : Int} (h : err l w = 0) : 0 ≤ w ∧ w ≤ 64 ∧ width l ≤ w ∧ l.length ≤ 65536 := by
  unfold err at h
  split at h
  · exact absurd h (by decide)
  · split at h
    · exact absurd h (by decide)
    · omega
theorem err_is {l : List Int} {w : Int} (h0 : 0 ≤ w) (h1 : w ≤ 64) (h2 : width l ≤ w) (h3 : l.length ≤ 65536) : err l w = 0 := by
  unfold err; rw [if_neg (by omega), if_neg (by omega)]
theorem put_got {l : List Int} {w : Int} (hu : inU l) (h : err l w = 0) : (outP l w).length = (size (l.length : Int) w).toNat ∧ bytes (outP l w) ∧ gerr (outP l w) (l.length : Int) w = 0 ∧ got (outP l w) (l.length : Int) w = l ∧ ((outP l w).length : Int) = size (l.length : Int) w := by
  obtain ⟨h0, h1, h2, h3⟩ := err_zero h
  obtain ⟨W0, rfl⟩ : ∃ W0 : Nat, w = W0 := ⟨w.toNat, by omega⟩
  have hn : Num l W0 l.length := ⟨by omega, rfl, h3, by have := fits_of hu h0 h2; rwa [Int.toNat_natCast] at this⟩
  have hs := hn.size
  have hlt := hn.lt (Nat.le_refl _)
  have hlt8 := hn.lt8 (Nat.le_refl _)
  rw [List.take_length] at hlt hlt8
  have eo : outP l (W0 : Int) = ofVal ((l.length * W0 + 7) / 8) (packN W0 l) := by unfold outP; rw [hs, Int.toNat_natCast, Int.toNat_natCast]
  have hv : valOf (outP l (W0 : Int)) = packN W0 l := by rw [eo]; exact valOf_ofVal hlt8
  have hF : Fit (outP l (W0 : Int)) l.length W0 := ⟨by omega, h3, by rw [eo]; exact ofVal_bytes _ _, by rw [eo, ofVal_len]⟩
  refine ⟨by rw [eo, ofVal_len, hs, Int.toNat_natCast], hF.hb, ?_, ?_, by rw [hF.len, hs]⟩
  · rw [gerr_fit hF, hv, if_neg]
    rw [Nat.shiftRight_eq_div_pow, Nat.div_eq_of_lt hlt]; decide
  · unfold got
    rw [hv, Int.toNat_natCast, Int.toNat_natCast, unpack_pack W0 l hn.fits]
theorem size_le {n w : Int} : size n w ≤ 524288 := by
  by_cases h : 0 ≤ n ∧ n ≤ 65536 ∧ 0 ≤ w ∧ w ≤ 64
  · have := mul_le h
    rw [size_val h]; omega
  · rw [size_zero h]; decide
theorem outP_len (l : List Int) (w : Int) : (outP l w).length ≤ 524288 := by
  unfold outP; rw [ofVal_len]
  have := size_le (n := (l.length : Int)) (w := w); omega
theorem width64 {l : List Int} (h : inU l) : width l ≤ 64 := by
  have := bitLen_le.2 (orAll_lt h)
  unfold width; omega
end Sp
end
