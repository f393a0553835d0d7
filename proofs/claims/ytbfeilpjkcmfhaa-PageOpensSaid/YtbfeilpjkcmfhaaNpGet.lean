/-
  Texts of a proof over the translated program: NpGet.
-/
import Derived.Test.YtbfeilpjkcmfhaaNpPut
import Derived.Test.YtbfeilpjkcmfhaaN1Sp2
import Derived.Test.YtbfeilpjkcmfhaaLib5
set_option linter.unusedVariables false
namespace Go.Proofs.Ytbfeilpjkcmfhaa
open Go.AbsM
/-- noriaref11.Put -/
def mk29 (i : Int × List Int) : TSt := mkS 24 [(1, TV.int .u64 i.1), (4, .a .nils), (5, TV.h 6)] [(6, .arr false 5 (.int .u8) i.2)]
def psi29 (i : Int × List Int) (Φ : Post) : Prop := (0 ≤ i.1 ∧ i.1 < 18446744073709551616 ∧ i.2.length + (Sp.enc i.1).length < 1000000) ∧ ∀ (u : Int) (xs : List Int), 0 ≤ u → u < 128 → xs ++ [u] = i.2 ++ Sp.enc i.1 → Φ .normal (mk29 (u, xs))
def blk29 : Nat → Option Piece := one 0 (loopP 24 [1, 4, 5] [6] mk29 psi29)
theorem nf29 (L : List TCtr) (b : List Int) (u : Int) (Q : TV → Prop) : wpFn Try.prog (knownL L blk29 noneK) Try.f29 [.c (.sl 5 (.int .u8) (.mk b)), .c (.a (.x (.int .u64 u)))] Q = (
  grd (W.nle (W.nmul (W.nadd (0 : Nat) (W.len b)) (1 : Nat)) (140737488355328 : Nat)) (∃ i, mkS (24 : Nat) [((1 : Nat), TV.int IntKind.u64 u), ((4 : Nat), TV.o (T1.c (TC.a AV.nils))), ((5 : Nat), TV.h (6 : Nat))] [((6 : Nat), TOb.arr false (5 : Nat) (VT.int IntKind.u8) (asT (List Int) (W.app [] b)))] = mkS (24 : Nat) [((1 : Nat), TV.int IntKind.u64 (Prod.fst i)), ((4 : Nat), TV.o (T1.c (TC.a AV.nils))), ((5 : Nat), TV.h (6 : Nat))] [((6 : Nat), TOb.arr false (5 : Nat) (VT.int IntKind.u8) (asT (List Int) (Prod.snd i)))] ∧ ((0 : Int) ≤ Prod.fst i ∧ Prod.fst i < (18446744073709551616 : Int) ∧ List.length (Prod.snd i) + List.length (Sp.enc (Prod.fst i)) < (1000000 : Nat)) ∧ ∀ (u : Int) (xs : List Int), (0 : Int) ≤ u → u < (128 : Int) → List.append xs [u] = List.append (Prod.snd i) (Sp.enc (Prod.fst i)) → grd (W.nle (W.nmul (W.nadd (W.len xs) (W.len [W.wrap IntKind.u8 u])) (1 : Nat)) (140737488355328 : Nat)) (Q (TV.o (T1.own (5 : Nat) (VT.int IntKind.u8) (asT (List Int) (W.app xs [W.wrap IntKind.u8 u]))))))) := by kernel_rfl
theorem nf29s (L : List TCtr) (μ : Int × List Int → Nat) (u : Int) (xs : List Int) (Φ : Post) (m : Nat) : wpT Try.prog (knownL L blk29 noneK) (loopOf (blkC (bodyOf Try.f29) 0)) (mk29 (u, xs)) (stepK 24 [1, 4, 5] [6] [1, 4, 5] [6] 0 mk29 μ psi29 m Φ) = (
  brc (W.ige u (128 : Int)) (grd (W.nle (W.nmul (W.nadd (W.len xs) (W.len [W.or IntKind.u8 (W.wrap IntKind.u8 u) (128 : Int)])) (1 : Nat)) (140737488355328 : Nat)) (∃ j, mkS (24 : Nat) [((1 : Nat), TV.int IntKind.u64 (W.shr IntKind.u64 u (7 : Int))), ((4 : Nat), TV.o (T1.c (TC.a AV.nils))), ((5 : Nat), TV.h (6 : Nat))] [((6 : Nat), TOb.arr false (5 : Nat) (VT.int IntKind.u8) (asT (List Int) (W.app xs [W.or IntKind.u8 (W.wrap IntKind.u8 u) (128 : Int)])))] = mkS (24 : Nat) [((1 : Nat), TV.int IntKind.u64 (Prod.fst j)), ((4 : Nat), TV.o (T1.c (TC.a AV.nils))), ((5 : Nat), TV.h (6 : Nat))] [((6 : Nat), TOb.arr false (5 : Nat) (VT.int IntKind.u8) (asT (List Int) (Prod.snd j)))] ∧ μ j < m ∧ ((0 : Int) ≤ Prod.fst j ∧ Prod.fst j < (18446744073709551616 : Int) ∧ List.length (Prod.snd j) + List.length (Sp.enc (Prod.fst j)) < (1000000 : Nat)) ∧ ∀ (u : Int) (xs : List Int), (0 : Int) ≤ u → u < (128 : Int) → List.append xs [u] = List.append (Prod.snd j) (Sp.enc (Prod.fst j)) → Φ AExit.normal (mkS (24 : Nat) [((1 : Nat), TV.int IntKind.u64 u), ((4 : Nat), TV.o (T1.c (TC.a AV.nils))), ((5 : Nat), TV.h (6 : Nat))] [((6 : Nat), TOb.arr false (5 : Nat) (VT.int IntKind.u8) (asT (List Int) xs))]))) (Φ AExit.normal (mkS (24 : Nat) [((1 : Nat), TV.int IntKind.u64 u), ((4 : Nat), TV.o (T1.c (TC.a AV.nils))), ((5 : Nat), TV.h (6 : Nat))] [((6 : Nat), TOb.arr false (5 : Nat) (VT.int IntKind.u8) xs)]))) := by kernel_rfl
/-- num.Get -/
def mk33 (i : List Int × Int × Int × Int) : TSt := mkS 58 [(0, TV.l 5 (.int .u8) i.1), (1, TV.int .i64 i.2.1), (4, TV.int .u64 0), (5, TV.int .i64 0), (6, TV.int .i64 0), (7, TV.int .u64 i.2.2.1), (8, TV.int .i64 i.2.2.2)] []
def preGet (i : List Int × Int × Int × Int) : Prop := Sp.bytes i.1 ∧ i.1.length < 4611686018427387904 ∧ 0 ≤ i.2.1 ∧ 0 ≤ i.2.2.2 ∧ i.2.2.2 ≤ 9 ∧ i.2.1 + i.2.2.2 ≤ i.1.length ∧ 0 ≤ i.2.2.1 ∧ i.2.2.1 < 128 ^ i.2.2.2.toNat
def resGet (i : List Int × Int × Int × Int) : Int × Int × Int := Sp.getF i.1 i.2.1.toNat (10 - i.2.2.2.toNat) i.2.2.2 i.2.2.1
def psi33 (i : List Int × Int × Int × Int) (Φ : Post) : Prop := preGet i ∧ Φ .ret (mkS 58 [(4, TV.int .u64 (resGet i).1), (5, TV.int .i64 (resGet i).2.1), (6, TV.int .i64 (resGet i).2.2)] [])
def lab33 : Nat → Option Piece := one 0 (loopP 58 [0, 1, 4, 5, 6, 7, 8] [] mk33 psi33)
theorem nf33 (L : List TCtr) (b : List Int) (a : Int) (Q : TV → Prop) : wpFn Try.prog (knownL L noneK lab33) Try.f33 [.c (.sl 5 (.int .u8) (.mk b)), .c (.a (.x (.int .i64 a)))] Q = (
  brc (W.ilt a (0 : Int)) (Q (TV.tup [T1.c (TC.a (AV.x (Value.int IntKind.u64 (0 : Int)))), T1.c (TC.a (AV.x (Value.int IntKind.i64 (0 : Int)))), T1.c (TC.a (AV.x (Value.int IntKind.i64 (1 : Int))))])) (brc (W.igt a (W.ofNat (W.len b))) (Q (TV.tup [T1.c (TC.a (AV.x (Value.int IntKind.u64 (0 : Int)))), T1.c (TC.a (AV.x (Value.int IntKind.i64 (0 : Int)))), T1.c (TC.a (AV.x (Value.int IntKind.i64 (1 : Int))))])) (brc (W.ieq (W.add IntKind.i64 a (0 : Int)) (W.ofNat (W.len b))) (Q (TV.tup [T1.c (TC.a (AV.x (Value.int IntKind.u64 (0 : Int)))), T1.c (TC.a (AV.x (Value.int IntKind.i64 (0 : Int)))), T1.c (TC.a (AV.x (Value.int IntKind.i64 (5 : Int))))])) (grd (W.ile (0 : Int) (W.add IntKind.i64 a (0 : Int))) (grd (W.nlt (W.toNat (W.add IntKind.i64 a (0 : Int))) (W.len b)) (brc (W.ige (W.nth b (W.toNat (W.add IntKind.i64 a (0 : Int))) (0 : Int)) (128 : Int)) (∃ i, mkS (58 : Nat) [((0 : Nat), TV.l (5 : Nat) (VT.int IntKind.u8) b), ((1 : Nat), TV.int IntKind.i64 a), ((4 : Nat), TV.int IntKind.u64 (0 : Int)), ((5 : Nat), TV.int IntKind.i64 (0 : Int)), ((6 : Nat), TV.int IntKind.i64 (0 : Int)), ((7 : Nat), TV.int IntKind.u64 (W.or IntKind.u64 (0 : Int) (W.shl IntKind.u64 (W.wrap IntKind.u64 (W.and IntKind.u8 (W.nth b (W.toNat (W.add IntKind.i64 a (0 : Int))) (0 : Int)) (127 : Int))) (0 : Int)))), ((8 : Nat), TV.int IntKind.i64 (1 : Int))] [] = mkS (58 : Nat) [((0 : Nat), TV.l (5 : Nat) (VT.int IntKind.u8) (asT (List Int) (Prod.fst i))), ((1 : Nat), TV.int IntKind.i64 (Prod.fst (Prod.snd i))), ((4 : Nat), TV.int IntKind.u64 (0 : Int)), ((5 : Nat), TV.int IntKind.i64 (0 : Int)), ((6 : Nat), TV.int IntKind.i64 (0 : Int)), ((7 : Nat), TV.int IntKind.u64 (Prod.fst (Prod.snd (Prod.snd i)))), ((8 : Nat), TV.int IntKind.i64 (Prod.snd (Prod.snd (Prod.snd i))))] [] ∧ (Sp.bytes (Prod.fst i) ∧ List.length (Prod.fst i) < (4611686018427387904 : Nat) ∧ (0 : Int) ≤ Prod.fst (Prod.snd i) ∧ (0 : Int) ≤ Prod.snd (Prod.snd (Prod.snd i)) ∧ Prod.snd (Prod.snd (Prod.snd i)) ≤ (9 : Int) ∧ Prod.fst (Prod.snd i) + Prod.snd (Prod.snd (Prod.snd i)) ≤ Int.ofNat (List.length (Prod.fst i)) ∧ (0 : Int) ≤ Prod.fst (Prod.snd (Prod.snd i)) ∧ Prod.fst (Prod.snd (Prod.snd i)) < Int.ofNat (Nat.pow (128 : Nat) (Int.toNat (Prod.snd (Prod.snd (Prod.snd i)))))) ∧ Q (TV.tup [T1.c (TC.a (AV.x (Value.int IntKind.u64 (Prod.fst (Sp.getF (Prod.fst i) (Int.toNat (Prod.fst (Prod.snd i))) ((10 : Nat) - Int.toNat (Prod.snd (Prod.snd (Prod.snd i)))) (Prod.snd (Prod.snd (Prod.snd i))) (Prod.fst (Prod.snd (Prod.snd i)))))))), T1.c (TC.a (AV.x (Value.int IntKind.i64 (Prod.fst (Prod.snd (Sp.getF (Prod.fst i) (Int.toNat (Prod.fst (Prod.snd i))) ((10 : Nat) - Int.toNat (Prod.snd (Prod.snd (Prod.snd i)))) (Prod.snd (Prod.snd (Prod.snd i))) (Prod.fst (Prod.snd (Prod.snd i))))))))), T1.c (TC.a (AV.x (Value.int IntKind.i64 (Prod.snd (Prod.snd (Sp.getF (Prod.fst i) (Int.toNat (Prod.fst (Prod.snd i))) ((10 : Nat) - Int.toNat (Prod.snd (Prod.snd (Prod.snd i)))) (Prod.snd (Prod.snd (Prod.snd i))) (Prod.fst (Prod.snd (Prod.snd i)))))))))])) (Q (TV.tup [T1.c (TC.a (AV.x (Value.int IntKind.u64 (W.or IntKind.u64 (0 : Int) (W.shl IntKind.u64 (W.wrap IntKind.u64 (W.and IntKind.u8 (W.nth b (W.toNat (W.add IntKind.i64 a (0 : Int))) (0 : Int)) (127 : Int))) (0 : Int)))))), T1.c (TC.a (AV.x (Value.int IntKind.i64 (1 : Int)))), T1.c (TC.a (AV.x (Value.int IntKind.i64 (0 : Int))))])))))))) := by kernel_rfl
theorem nf33s (L : List TCtr) (mk : List Int × Int × Int × Int → TSt) (ψ : List Int × Int × Int × Int → Post → Prop) (μ : List Int × Int × Int × Int → Nat) (b : List Int) (a u n : Int) (Φ : Post) (m : Nat) : wpT Try.prog (knownL L noneK lab33) (restC (bodyOf Try.f33) 0) (mk33 (b, a, u, n)) (jumpK (knownL L noneK lab33) 58 [0, 1, 4, 5, 6, 7, 8] [] [4, 5, 6] [] (scC (bodyOf Try.f33)) 0 mk μ ψ m Φ) = (
  brc (W.ieq (W.add IntKind.i64 a n) (W.ofNat (W.len b))) (Φ AExit.ret (mkS (58 : Nat) [((4 : Nat), TV.int IntKind.u64 (0 : Int)), ((5 : Nat), TV.int IntKind.i64 (0 : Int)), ((6 : Nat), TV.int IntKind.i64 (5 : Int))] [])) (grd (W.ile (0 : Int) (W.add IntKind.i64 a n)) (grd (W.nlt (W.toNat (W.add IntKind.i64 a n)) (W.len b)) (brc (W.ieq n (9 : Int)) (brc (W.igt (W.nth b (W.toNat (W.add IntKind.i64 a n)) (0 : Int)) (1 : Int)) (Φ AExit.ret (mkS (58 : Nat) [((4 : Nat), TV.int IntKind.u64 (0 : Int)), ((5 : Nat), TV.int IntKind.i64 (0 : Int)), ((6 : Nat), TV.int IntKind.i64 (2 : Int))] [])) (brc (W.igt n (0 : Int)) (brc (W.ieq (W.nth b (W.toNat (W.add IntKind.i64 a n)) (0 : Int)) (0 : Int)) (Φ AExit.ret (mkS (58 : Nat) [((4 : Nat), TV.int IntKind.u64 (0 : Int)), ((5 : Nat), TV.int IntKind.i64 (0 : Int)), ((6 : Nat), TV.int IntKind.i64 (2 : Int))] [])) (grd (W.ile (0 : Int) (W.mul IntKind.i64 (7 : Int) n)) (brc (W.ige (W.nth b (W.toNat (W.add IntKind.i64 a n)) (0 : Int)) (128 : Int)) (∃ j, mkS (58 : Nat) [((0 : Nat), TV.l (5 : Nat) (VT.int IntKind.u8) b), ((1 : Nat), TV.int IntKind.i64 a), ((4 : Nat), TV.int IntKind.u64 (0 : Int)), ((5 : Nat), TV.int IntKind.i64 (0 : Int)), ((6 : Nat), TV.int IntKind.i64 (0 : Int)), ((7 : Nat), TV.int IntKind.u64 (W.or IntKind.u64 u (W.shl IntKind.u64 (W.wrap IntKind.u64 (W.and IntKind.u8 (W.nth b (W.toNat (W.add IntKind.i64 a n)) (0 : Int)) (127 : Int))) (W.mul IntKind.i64 (7 : Int) n)))), ((8 : Nat), TV.int IntKind.i64 (W.add IntKind.i64 n (1 : Int)))] [] = mk j ∧ μ j < m ∧ ψ j Φ) (Φ AExit.ret (mkS (58 : Nat) [((4 : Nat), TV.int IntKind.u64 (W.or IntKind.u64 u (W.shl IntKind.u64 (W.wrap IntKind.u64 (W.and IntKind.u8 (W.nth b (W.toNat (W.add IntKind.i64 a n)) (0 : Int)) (127 : Int))) (W.mul IntKind.i64 (7 : Int) n)))), ((5 : Nat), TV.int IntKind.i64 (W.add IntKind.i64 n (1 : Int))), ((6 : Nat), TV.int IntKind.i64 (0 : Int))] []))))) (grd (W.ile (0 : Int) (W.mul IntKind.i64 (7 : Int) n)) (brc (W.ige (W.nth b (W.toNat (W.add IntKind.i64 a n)) (0 : Int)) (128 : Int)) (∃ j, mkS (58 : Nat) [((0 : Nat), TV.l (5 : Nat) (VT.int IntKind.u8) b), ((1 : Nat), TV.int IntKind.i64 a), ((4 : Nat), TV.int IntKind.u64 (0 : Int)), ((5 : Nat), TV.int IntKind.i64 (0 : Int)), ((6 : Nat), TV.int IntKind.i64 (0 : Int)), ((7 : Nat), TV.int IntKind.u64 (W.or IntKind.u64 u (W.shl IntKind.u64 (W.wrap IntKind.u64 (W.and IntKind.u8 (W.nth b (W.toNat (W.add IntKind.i64 a n)) (0 : Int)) (127 : Int))) (W.mul IntKind.i64 (7 : Int) n)))), ((8 : Nat), TV.int IntKind.i64 (W.add IntKind.i64 n (1 : Int)))] [] = mk j ∧ μ j < m ∧ ψ j Φ) (Φ AExit.ret (mkS (58 : Nat) [((4 : Nat), TV.int IntKind.u64 (W.or IntKind.u64 u (W.shl IntKind.u64 (W.wrap IntKind.u64 (W.and IntKind.u8 (W.nth b (W.toNat (W.add IntKind.i64 a n)) (0 : Int)) (127 : Int))) (W.mul IntKind.i64 (7 : Int) n)))), ((5 : Nat), TV.int IntKind.i64 (W.add IntKind.i64 n (1 : Int))), ((6 : Nat), TV.int IntKind.i64 (0 : Int))] [])))))) (brc (W.igt n (0 : Int)) (brc (W.ieq (W.nth b (W.toNat (W.add IntKind.i64 a n)) (0 : Int)) (0 : Int)) (Φ AExit.ret (mkS (58 : Nat) [((4 : Nat), TV.int IntKind.u64 (0 : Int)), ((5 : Nat), TV.int IntKind.i64 (0 : Int)), ((6 : Nat), TV.int IntKind.i64 (2 : Int))] [])) (grd (W.ile (0 : Int) (W.mul IntKind.i64 (7 : Int) n)) (brc (W.ige (W.nth b (W.toNat (W.add IntKind.i64 a n)) (0 : Int)) (128 : Int)) (∃ j, mkS (58 : Nat) [((0 : Nat), TV.l (5 : Nat) (VT.int IntKind.u8) b), ((1 : Nat), TV.int IntKind.i64 a), ((4 : Nat), TV.int IntKind.u64 (0 : Int)), ((5 : Nat), TV.int IntKind.i64 (0 : Int)), ((6 : Nat), TV.int IntKind.i64 (0 : Int)), ((7 : Nat), TV.int IntKind.u64 (W.or IntKind.u64 u (W.shl IntKind.u64 (W.wrap IntKind.u64 (W.and IntKind.u8 (W.nth b (W.toNat (W.add IntKind.i64 a n)) (0 : Int)) (127 : Int))) (W.mul IntKind.i64 (7 : Int) n)))), ((8 : Nat), TV.int IntKind.i64 (W.add IntKind.i64 n (1 : Int)))] [] = mk j ∧ μ j < m ∧ ψ j Φ) (Φ AExit.ret (mkS (58 : Nat) [((4 : Nat), TV.int IntKind.u64 (W.or IntKind.u64 u (W.shl IntKind.u64 (W.wrap IntKind.u64 (W.and IntKind.u8 (W.nth b (W.toNat (W.add IntKind.i64 a n)) (0 : Int)) (127 : Int))) (W.mul IntKind.i64 (7 : Int) n)))), ((5 : Nat), TV.int IntKind.i64 (W.add IntKind.i64 n (1 : Int))), ((6 : Nat), TV.int IntKind.i64 (0 : Int))] []))))) (grd (W.ile (0 : Int) (W.mul IntKind.i64 (7 : Int) n)) (brc (W.ige (W.nth b (W.toNat (W.add IntKind.i64 a n)) (0 : Int)) (128 : Int)) (∃ j, mkS (58 : Nat) [((0 : Nat), TV.l (5 : Nat) (VT.int IntKind.u8) b), ((1 : Nat), TV.int IntKind.i64 a), ((4 : Nat), TV.int IntKind.u64 (0 : Int)), ((5 : Nat), TV.int IntKind.i64 (0 : Int)), ((6 : Nat), TV.int IntKind.i64 (0 : Int)), ((7 : Nat), TV.int IntKind.u64 (W.or IntKind.u64 u (W.shl IntKind.u64 (W.wrap IntKind.u64 (W.and IntKind.u8 (W.nth b (W.toNat (W.add IntKind.i64 a n)) (0 : Int)) (127 : Int))) (W.mul IntKind.i64 (7 : Int) n)))), ((8 : Nat), TV.int IntKind.i64 (W.add IntKind.i64 n (1 : Int)))] [] = mk j ∧ μ j < m ∧ ψ j Φ) (Φ AExit.ret (mkS (58 : Nat) [((4 : Nat), TV.int IntKind.u64 (W.or IntKind.u64 u (W.shl IntKind.u64 (W.wrap IntKind.u64 (W.and IntKind.u8 (W.nth b (W.toNat (W.add IntKind.i64 a n)) (0 : Int)) (127 : Int))) (W.mul IntKind.i64 (7 : Int) n)))), ((5 : Nat), TV.int IntKind.i64 (W.add IntKind.i64 n (1 : Int))), ((6 : Nat), TV.int IntKind.i64 (0 : Int))] []))))))))) := by kernel_rfl
/-- noriaref11.Get -/
def mk36 (i : List Int × Int × Int × Int) : TSt := mkS 62 [(0, TV.l 5 (.int .u8) i.1), (1, TV.int .i64 i.2.1), (4, TV.int .u64 0), (5, TV.int .i64 0), (6, TV.int .i64 0), (7, TV.int .u64 i.2.2.1), (8, TV.int .i64 i.2.2.2)] []
def psi36 (i : List Int × Int × Int × Int) (Φ : Post) : Prop := preGet i ∧ Φ .ret (mkS 62 [(4, TV.int .u64 (resGet i).1), (5, TV.int .i64 (resGet i).2.1), (6, TV.int .i64 (resGet i).2.2)] [])
def blk36 : Nat → Option Piece := one 0 (loopP 62 [0, 1, 4, 5, 6, 7, 8] [] mk36 psi36)
theorem nf36 (L : List TCtr) (b : List Int) (a : Int) (Q : TV → Prop) : wpFn Try.prog (knownL L blk36 noneK) Try.f36 [.c (.sl 5 (.int .u8) (.mk b)), .c (.a (.x (.int .i64 a)))] Q = (
  brc (W.ilt a (0 : Int)) (Q (TV.tup [T1.c (TC.a (AV.x (Value.int IntKind.u64 (0 : Int)))), T1.c (TC.a (AV.x (Value.int IntKind.i64 (0 : Int)))), T1.c (TC.a (AV.x (Value.int IntKind.i64 (1 : Int))))])) (brc (W.igt a (W.ofNat (W.len b))) (Q (TV.tup [T1.c (TC.a (AV.x (Value.int IntKind.u64 (0 : Int)))), T1.c (TC.a (AV.x (Value.int IntKind.i64 (0 : Int)))), T1.c (TC.a (AV.x (Value.int IntKind.i64 (1 : Int))))])) (∃ i, mkS (62 : Nat) [((0 : Nat), TV.l (5 : Nat) (VT.int IntKind.u8) b), ((1 : Nat), TV.int IntKind.i64 a), ((4 : Nat), TV.int IntKind.u64 (0 : Int)), ((5 : Nat), TV.int IntKind.i64 (0 : Int)), ((6 : Nat), TV.int IntKind.i64 (0 : Int)), ((7 : Nat), TV.int IntKind.u64 (0 : Int)), ((8 : Nat), TV.int IntKind.i64 (0 : Int))] [] = mkS (62 : Nat) [((0 : Nat), TV.l (5 : Nat) (VT.int IntKind.u8) (asT (List Int) (Prod.fst i))), ((1 : Nat), TV.int IntKind.i64 (Prod.fst (Prod.snd i))), ((4 : Nat), TV.int IntKind.u64 (0 : Int)), ((5 : Nat), TV.int IntKind.i64 (0 : Int)), ((6 : Nat), TV.int IntKind.i64 (0 : Int)), ((7 : Nat), TV.int IntKind.u64 (Prod.fst (Prod.snd (Prod.snd i)))), ((8 : Nat), TV.int IntKind.i64 (Prod.snd (Prod.snd (Prod.snd i))))] [] ∧ (Sp.bytes (Prod.fst i) ∧ List.length (Prod.fst i) < (4611686018427387904 : Nat) ∧ (0 : Int) ≤ Prod.fst (Prod.snd i) ∧ (0 : Int) ≤ Prod.snd (Prod.snd (Prod.snd i)) ∧ Prod.snd (Prod.snd (Prod.snd i)) ≤ (9 : Int) ∧ Prod.fst (Prod.snd i) + Prod.snd (Prod.snd (Prod.snd i)) ≤ Int.ofNat (List.length (Prod.fst i)) ∧ (0 : Int) ≤ Prod.fst (Prod.snd (Prod.snd i)) ∧ Prod.fst (Prod.snd (Prod.snd i)) < Int.ofNat (Nat.pow (128 : Nat) (Int.toNat (Prod.snd (Prod.snd (Prod.snd i)))))) ∧ Q (TV.tup [T1.c (TC.a (AV.x (Value.int IntKind.u64 (Prod.fst (Sp.getF (Prod.fst i) (Int.toNat (Prod.fst (Prod.snd i))) ((10 : Nat) - Int.toNat (Prod.snd (Prod.snd (Prod.snd i)))) (Prod.snd (Prod.snd (Prod.snd i))) (Prod.fst (Prod.snd (Prod.snd i)))))))), T1.c (TC.a (AV.x (Value.int IntKind.i64 (Prod.fst (Prod.snd (Sp.getF (Prod.fst i) (Int.toNat (Prod.fst (Prod.snd i))) ((10 : Nat) - Int.toNat (Prod.snd (Prod.snd (Prod.snd i)))) (Prod.snd (Prod.snd (Prod.snd i))) (Prod.fst (Prod.snd (Prod.snd i))))))))), T1.c (TC.a (AV.x (Value.int IntKind.i64 (Prod.snd (Prod.snd (Sp.getF (Prod.fst i) (Int.toNat (Prod.fst (Prod.snd i))) ((10 : Nat) - Int.toNat (Prod.snd (Prod.snd (Prod.snd i)))) (Prod.snd (Prod.snd (Prod.snd i))) (Prod.fst (Prod.snd (Prod.snd i)))))))))])))) := by kernel_rfl
theorem nf36s (L : List TCtr) (mk : List Int × Int × Int × Int → TSt) (ψ : List Int × Int × Int × Int → Post → Prop) (μ : List Int × Int × Int × Int → Nat) (b : List Int) (a u n : Int) (Φ : Post) (m : Nat) : wpT Try.prog (knownL L blk36 noneK) (loopOf (blkC (bodyOf Try.f36) 0)) (mk36 (b, a, u, n)) (stepK 62 [0, 1, 4, 5, 6, 7, 8] [] [4, 5, 6] [] 0 mk μ ψ m Φ) = (
  brc (W.ilt n (10 : Int)) (brc (W.ile (W.sub IntKind.i64 (W.ofNat (W.len b)) a) n) (Φ AExit.ret (mkS (62 : Nat) [((4 : Nat), TV.int IntKind.u64 (0 : Int)), ((5 : Nat), TV.int IntKind.i64 (0 : Int)), ((6 : Nat), TV.int IntKind.i64 (5 : Int))] [])) (grd (W.ile (0 : Int) (W.add IntKind.i64 a n)) (grd (W.nlt (W.toNat (W.add IntKind.i64 a n)) (W.len b)) (brc (W.ieq n (9 : Int)) (brc (W.igt (W.nth b (W.toNat (W.add IntKind.i64 a n)) (0 : Int)) (1 : Int)) (Φ AExit.ret (mkS (62 : Nat) [((4 : Nat), TV.int IntKind.u64 (0 : Int)), ((5 : Nat), TV.int IntKind.i64 (0 : Int)), ((6 : Nat), TV.int IntKind.i64 (2 : Int))] [])) (brc (W.igt n (0 : Int)) (brc (W.ieq (W.nth b (W.toNat (W.add IntKind.i64 a n)) (0 : Int)) (0 : Int)) (Φ AExit.ret (mkS (62 : Nat) [((4 : Nat), TV.int IntKind.u64 (0 : Int)), ((5 : Nat), TV.int IntKind.i64 (0 : Int)), ((6 : Nat), TV.int IntKind.i64 (2 : Int))] [])) (grd (W.ile (0 : Int) (W.wrap IntKind.u64 (W.mul IntKind.i64 (7 : Int) n))) (brc (W.ilt (W.nth b (W.toNat (W.add IntKind.i64 a n)) (0 : Int)) (128 : Int)) (Φ AExit.ret (mkS (62 : Nat) [((4 : Nat), TV.int IntKind.u64 (W.or IntKind.u64 u (W.shl IntKind.u64 (W.wrap IntKind.u64 (W.and IntKind.u8 (W.nth b (W.toNat (W.add IntKind.i64 a n)) (0 : Int)) (127 : Int))) (W.wrap IntKind.u64 (W.mul IntKind.i64 (7 : Int) n))))), ((5 : Nat), TV.int IntKind.i64 (W.add IntKind.i64 n (1 : Int))), ((6 : Nat), TV.int IntKind.i64 (0 : Int))] [])) (∃ j, mkS (62 : Nat) [((0 : Nat), TV.l (5 : Nat) (VT.int IntKind.u8) b), ((1 : Nat), TV.int IntKind.i64 a), ((4 : Nat), TV.int IntKind.u64 (0 : Int)), ((5 : Nat), TV.int IntKind.i64 (0 : Int)), ((6 : Nat), TV.int IntKind.i64 (0 : Int)), ((7 : Nat), TV.int IntKind.u64 (W.or IntKind.u64 u (W.shl IntKind.u64 (W.wrap IntKind.u64 (W.and IntKind.u8 (W.nth b (W.toNat (W.add IntKind.i64 a n)) (0 : Int)) (127 : Int))) (W.wrap IntKind.u64 (W.mul IntKind.i64 (7 : Int) n))))), ((8 : Nat), TV.int IntKind.i64 (W.add IntKind.i64 n (1 : Int)))] [] = mk j ∧ μ j < m ∧ ψ j Φ)))) (grd (W.ile (0 : Int) (W.wrap IntKind.u64 (W.mul IntKind.i64 (7 : Int) n))) (brc (W.ilt (W.nth b (W.toNat (W.add IntKind.i64 a n)) (0 : Int)) (128 : Int)) (Φ AExit.ret (mkS (62 : Nat) [((4 : Nat), TV.int IntKind.u64 (W.or IntKind.u64 u (W.shl IntKind.u64 (W.wrap IntKind.u64 (W.and IntKind.u8 (W.nth b (W.toNat (W.add IntKind.i64 a n)) (0 : Int)) (127 : Int))) (W.wrap IntKind.u64 (W.mul IntKind.i64 (7 : Int) n))))), ((5 : Nat), TV.int IntKind.i64 (W.add IntKind.i64 n (1 : Int))), ((6 : Nat), TV.int IntKind.i64 (0 : Int))] [])) (∃ j, mkS (62 : Nat) [((0 : Nat), TV.l (5 : Nat) (VT.int IntKind.u8) b), ((1 : Nat), TV.int IntKind.i64 a), ((4 : Nat), TV.int IntKind.u64 (0 : Int)), ((5 : Nat), TV.int IntKind.i64 (0 : Int)), ((6 : Nat), TV.int IntKind.i64 (0 : Int)), ((7 : Nat), TV.int IntKind.u64 (W.or IntKind.u64 u (W.shl IntKind.u64 (W.wrap IntKind.u64 (W.and IntKind.u8 (W.nth b (W.toNat (W.add IntKind.i64 a n)) (0 : Int)) (127 : Int))) (W.wrap IntKind.u64 (W.mul IntKind.i64 (7 : Int) n))))), ((8 : Nat), TV.int IntKind.i64 (W.add IntKind.i64 n (1 : Int)))] [] = mk j ∧ μ j < m ∧ ψ j Φ))))) (brc (W.igt n (0 : Int)) (brc (W.ieq (W.nth b (W.toNat (W.add IntKind.i64 a n)) (0 : Int)) (0 : Int)) (Φ AExit.ret (mkS (62 : Nat) [((4 : Nat), TV.int IntKind.u64 (0 : Int)), ((5 : Nat), TV.int IntKind.i64 (0 : Int)), ((6 : Nat), TV.int IntKind.i64 (2 : Int))] [])) (grd (W.ile (0 : Int) (W.wrap IntKind.u64 (W.mul IntKind.i64 (7 : Int) n))) (brc (W.ilt (W.nth b (W.toNat (W.add IntKind.i64 a n)) (0 : Int)) (128 : Int)) (Φ AExit.ret (mkS (62 : Nat) [((4 : Nat), TV.int IntKind.u64 (W.or IntKind.u64 u (W.shl IntKind.u64 (W.wrap IntKind.u64 (W.and IntKind.u8 (W.nth b (W.toNat (W.add IntKind.i64 a n)) (0 : Int)) (127 : Int))) (W.wrap IntKind.u64 (W.mul IntKind.i64 (7 : Int) n))))), ((5 : Nat), TV.int IntKind.i64 (W.add IntKind.i64 n (1 : Int))), ((6 : Nat), TV.int IntKind.i64 (0 : Int))] [])) (∃ j, mkS (62 : Nat) [((0 : Nat), TV.l (5 : Nat) (VT.int IntKind.u8) b), ((1 : Nat), TV.int IntKind.i64 a), ((4 : Nat), TV.int IntKind.u64 (0 : Int)), ((5 : Nat), TV.int IntKind.i64 (0 : Int)), ((6 : Nat), TV.int IntKind.i64 (0 : Int)), ((7 : Nat), TV.int IntKind.u64 (W.or IntKind.u64 u (W.shl IntKind.u64 (W.wrap IntKind.u64 (W.and IntKind.u8 (W.nth b (W.toNat (W.add IntKind.i64 a n)) (0 : Int)) (127 : Int))) (W.wrap IntKind.u64 (W.mul IntKind.i64 (7 : Int) n))))), ((8 : Nat), TV.int IntKind.i64 (W.add IntKind.i64 n (1 : Int)))] [] = mk j ∧ μ j < m ∧ ψ j Φ)))) (grd (W.ile (0 : Int) (W.wrap IntKind.u64 (W.mul IntKind.i64 (7 : Int) n))) (brc (W.ilt (W.nth b (W.toNat (W.add IntKind.i64 a n)) (0 : Int)) (128 : Int)) (Φ AExit.ret (mkS (62 : Nat) [((4 : Nat), TV.int IntKind.u64 (W.or IntKind.u64 u (W.shl IntKind.u64 (W.wrap IntKind.u64 (W.and IntKind.u8 (W.nth b (W.toNat (W.add IntKind.i64 a n)) (0 : Int)) (127 : Int))) (W.wrap IntKind.u64 (W.mul IntKind.i64 (7 : Int) n))))), ((5 : Nat), TV.int IntKind.i64 (W.add IntKind.i64 n (1 : Int))), ((6 : Nat), TV.int IntKind.i64 (0 : Int))] [])) (∃ j, mkS (62 : Nat) [((0 : Nat), TV.l (5 : Nat) (VT.int IntKind.u8) b), ((1 : Nat), TV.int IntKind.i64 a), ((4 : Nat), TV.int IntKind.u64 (0 : Int)), ((5 : Nat), TV.int IntKind.i64 (0 : Int)), ((6 : Nat), TV.int IntKind.i64 (0 : Int)), ((7 : Nat), TV.int IntKind.u64 (W.or IntKind.u64 u (W.shl IntKind.u64 (W.wrap IntKind.u64 (W.and IntKind.u8 (W.nth b (W.toNat (W.add IntKind.i64 a n)) (0 : Int)) (127 : Int))) (W.wrap IntKind.u64 (W.mul IntKind.i64 (7 : Int) n))))), ((8 : Nat), TV.int IntKind.i64 (W.add IntKind.i64 n (1 : Int)))] [] = mk j ∧ μ j < m ∧ ψ j Φ)))))))) (Φ AExit.normal (mkS (62 : Nat) [((4 : Nat), TV.int IntKind.u64 (0 : Int)), ((5 : Nat), TV.int IntKind.i64 (0 : Int)), ((6 : Nat), TV.int IntKind.i64 (0 : Int))] []))) := by kernel_rfl
theorem nf32 (L : List TCtr) (b : List Int) (a : Int) (Q : TV → Prop) : wpFn Try.prog (knownL L noneK noneK) Try.f32 [.c (.sl 5 (.int .u8) (.mk b)), .c (.a (.x (.int .i64 a)))] Q = (
  brc (W.ilt a (0 : Int)) (Q (TV.tup [T1.c (TC.a (AV.x (Value.int IntKind.u32 (0 : Int)))), T1.c (TC.a (AV.x (Value.int IntKind.i64 (0 : Int)))), T1.c (TC.a (AV.x (Value.int IntKind.i64 (1 : Int))))])) (brc (W.igt a (W.ofNat (W.len b))) (Q (TV.tup [T1.c (TC.a (AV.x (Value.int IntKind.u32 (0 : Int)))), T1.c (TC.a (AV.x (Value.int IntKind.i64 (0 : Int)))), T1.c (TC.a (AV.x (Value.int IntKind.i64 (1 : Int))))])) (brc (W.ilt (W.sub IntKind.i64 (W.ofNat (W.len b)) a) (4 : Int)) (Q (TV.tup [T1.c (TC.a (AV.x (Value.int IntKind.u32 (0 : Int)))), T1.c (TC.a (AV.x (Value.int IntKind.i64 (0 : Int)))), T1.c (TC.a (AV.x (Value.int IntKind.i64 (5 : Int))))])) (grd (W.ile (0 : Int) a) (grd (W.nlt (W.toNat a) (W.len b)) (grd (W.ile (0 : Int) (W.add IntKind.i64 a (1 : Int))) (grd (W.nlt (W.toNat (W.add IntKind.i64 a (1 : Int))) (W.len b)) (grd (W.ile (0 : Int) (W.add IntKind.i64 a (2 : Int))) (grd (W.nlt (W.toNat (W.add IntKind.i64 a (2 : Int))) (W.len b)) (grd (W.ile (0 : Int) (W.add IntKind.i64 a (3 : Int))) (grd (W.nlt (W.toNat (W.add IntKind.i64 a (3 : Int))) (W.len b)) (Q (TV.tup [T1.c (TC.a (AV.x (Value.int IntKind.u32 (W.or IntKind.u32 (W.or IntKind.u32 (W.or IntKind.u32 (W.wrap IntKind.u32 (W.nth b (W.toNat a) (0 : Int))) (W.shl IntKind.u32 (W.wrap IntKind.u32 (W.nth b (W.toNat (W.add IntKind.i64 a (1 : Int))) (0 : Int))) (8 : Int))) (W.shl IntKind.u32 (W.wrap IntKind.u32 (W.nth b (W.toNat (W.add IntKind.i64 a (2 : Int))) (0 : Int))) (16 : Int))) (W.shl IntKind.u32 (W.wrap IntKind.u32 (W.nth b (W.toNat (W.add IntKind.i64 a (3 : Int))) (0 : Int))) (24 : Int)))))), T1.c (TC.a (AV.x (Value.int IntKind.i64 (4 : Int)))), T1.c (TC.a (AV.x (Value.int IntKind.i64 (0 : Int))))]))))))))))))) := by kernel_rfl
theorem nf35 (L : List TCtr) (b : List Int) (a : Int) (Q : TV → Prop) : wpFn Try.prog (knownL L noneK noneK) Try.f35 [.c (.sl 5 (.int .u8) (.mk b)), .c (.a (.x (.int .i64 a)))] Q = (
  brc (W.ilt a (0 : Int)) (Q (TV.tup [T1.c (TC.a (AV.x (Value.int IntKind.u32 (0 : Int)))), T1.c (TC.a (AV.x (Value.int IntKind.i64 (0 : Int)))), T1.c (TC.a (AV.x (Value.int IntKind.i64 (1 : Int))))])) (brc (W.igt a (W.ofNat (W.len b))) (Q (TV.tup [T1.c (TC.a (AV.x (Value.int IntKind.u32 (0 : Int)))), T1.c (TC.a (AV.x (Value.int IntKind.i64 (0 : Int)))), T1.c (TC.a (AV.x (Value.int IntKind.i64 (1 : Int))))])) (brc (W.ilt (W.sub IntKind.i64 (W.ofNat (W.len b)) a) (4 : Int)) (Q (TV.tup [T1.c (TC.a (AV.x (Value.int IntKind.u32 (0 : Int)))), T1.c (TC.a (AV.x (Value.int IntKind.i64 (0 : Int)))), T1.c (TC.a (AV.x (Value.int IntKind.i64 (5 : Int))))])) (grd (W.ile (0 : Int) a) (grd (W.nlt (W.toNat a) (W.len b)) (grd (W.ile (0 : Int) (W.add IntKind.i64 a (1 : Int))) (grd (W.nlt (W.toNat (W.add IntKind.i64 a (1 : Int))) (W.len b)) (grd (W.ile (0 : Int) (W.add IntKind.i64 a (2 : Int))) (grd (W.nlt (W.toNat (W.add IntKind.i64 a (2 : Int))) (W.len b)) (grd (W.ile (0 : Int) (W.add IntKind.i64 a (3 : Int))) (grd (W.nlt (W.toNat (W.add IntKind.i64 a (3 : Int))) (W.len b)) (Q (TV.tup [T1.c (TC.a (AV.x (Value.int IntKind.u32 (W.or IntKind.u32 (W.or IntKind.u32 (W.or IntKind.u32 (W.wrap IntKind.u32 (W.nth b (W.toNat a) (0 : Int))) (W.shl IntKind.u32 (W.wrap IntKind.u32 (W.nth b (W.toNat (W.add IntKind.i64 a (1 : Int))) (0 : Int))) (8 : Int))) (W.shl IntKind.u32 (W.wrap IntKind.u32 (W.nth b (W.toNat (W.add IntKind.i64 a (2 : Int))) (0 : Int))) (16 : Int))) (W.shl IntKind.u32 (W.wrap IntKind.u32 (W.nth b (W.toNat (W.add IntKind.i64 a (3 : Int))) (0 : Int))) (24 : Int)))))), T1.c (TC.a (AV.x (Value.int IntKind.i64 (4 : Int)))), T1.c (TC.a (AV.x (Value.int IntKind.i64 (0 : Int))))]))))))))))))) := by kernel_rfl
theorem nf27 (L : List TCtr) (b : List Int) (a : Int) (Q : TV → Prop) : wpFn Try.prog (knownL L noneK noneK) Try.f27 [.c (.sl 5 (.int .u8) (.mk b)), .c (.a (.x (.int .u32 a)))] Q = (
  grd (W.ile (W.ofNat (W.len b)) (W.add IntKind.i64 (W.ofNat (W.len b)) (4 : Int))) (grd (W.ile (W.add IntKind.i64 (W.ofNat (W.len b)) (4 : Int)) (9223372036854775807 : Int)) (grd (W.ile (W.bys (1 : Nat) (W.add IntKind.i64 (W.ofNat (W.len b)) (4 : Int))) (281474976710656 : Int)) (grd (W.nle (W.nmul (W.nadd (W.len (W.app (W.take (W.nmin (W.len b) (W.len (W.rep (W.toNat (W.ofNat (W.len b))) (0 : Int)))) b) (W.drop (W.nmin (W.len b) (W.len (W.rep (W.toNat (W.ofNat (W.len b))) (0 : Int)))) (W.rep (W.toNat (W.ofNat (W.len b))) (0 : Int))))) (W.len [W.wrap IntKind.u8 a, W.wrap IntKind.u8 (W.shr IntKind.u32 a (8 : Int)), W.wrap IntKind.u8 (W.shr IntKind.u32 a (16 : Int)), W.wrap IntKind.u8 (W.shr IntKind.u32 a (24 : Int))])) (1 : Nat)) (140737488355328 : Nat)) (Q (TV.o (T1.own (5 : Nat) (VT.int IntKind.u8) (asT (List Int) (W.app (W.app (W.take (W.nmin (W.len b) (W.len (W.rep (W.toNat (W.ofNat (W.len b))) (0 : Int)))) b) (W.drop (W.nmin (W.len b) (W.len (W.rep (W.toNat (W.ofNat (W.len b))) (0 : Int)))) (W.rep (W.toNat (W.ofNat (W.len b))) (0 : Int)))) [W.wrap IntKind.u8 a, W.wrap IntKind.u8 (W.shr IntKind.u32 a (8 : Int)), W.wrap IntKind.u8 (W.shr IntKind.u32 a (16 : Int)), W.wrap IntKind.u8 (W.shr IntKind.u32 a (24 : Int))]))))))))) := by kernel_rfl
def ctr29 : TCtr := .det 29 [.l 5 (.int .u8), .v (.int .u64)] (fun (d : List Int × Int × Unit) => 0 ≤ d.2.1 ∧ d.2.1 < 18446744073709551616 ∧ d.1.length < 100000) (fun (d : List Int × Int × Unit) => .o (.own 5 (.int .u8) (d.1 ++ Sp.enc d.2.1))) fun _ => rfl
theorem good29 {L : List TCtr} (hL : Goods Try.prog L) : GoodC Try.prog ctr29 := by
  refine good_loop (fn := Try.f29) [1, 4, 5] [6] (fun i : Int × List Int => i.1.toNat) wide hL ⟨by kernel_rfl, by kernel_rfl, by kernel_rfl, by kernel_rfl⟩ (by kernel_rfl) (by kernel_rfl) (by kernel_rfl) (by kernel_rfl) (n := 24) (ls := [1, 4, 5]) (ks := [6]) (mk := mk29) (ψ := psi29) (id := 0) ?_ ?_
  · rintro ⟨u, xs⟩ Φ ⟨⟨h0, h1, h2⟩, hΦ⟩
    refine Eq.mpr (nf29s L _ u xs Φ _) ?_
    simp only [asT] at h0 h1 h2 hΦ ⊢
    refine brc_ige (fun h => ?_) fun h => ?_
    · have hl : (Sp.enc u).length = 1 + (Sp.enc (u / 128)).length := by rw [Sp.enc_high h0 h]; simp; omega
      refine grd_nle (by simp [W.nmul, W.nadd, W.len]; omega) ?_
      rw [Sp.or_u8 h0, Sp.shr7]
      rw [Sp.enc_high h0 h] at hΦ
      refine ⟨(u / 128, xs ++ [u % 128 + 128]), rfl, ?_, ⟨?_, ?_, ?_⟩, fun v ys hv0 hv1 hv => hΦ v ys hv0 hv1 (hv.trans ?_)⟩
      · show (u / 128).toNat < u.toNat; omega
      · show 0 ≤ u / 128; omega
      · show u / 128 < _; omega
      · show (xs ++ [u % 128 + 128]).length + (Sp.enc (u / 128)).length < 1000000; simp; omega
      · show (xs ++ [u % 128 + 128]) ++ Sp.enc (u / 128) = _
        rw [List.append_assoc]; rfl
    · exact hΦ u xs h0 h (by rw [Sp.enc_low h0 h])
  · intro d hd
    obtain ⟨b, u, x⟩ : List Int × Int × Unit := d
    obtain ⟨h0, h1, h2⟩ : 0 ≤ u ∧ u < 18446744073709551616 ∧ b.length < 100000 := hd
    refine Eq.mpr (nf29 L b u _) ?_
    have := (Sp.enc_len h0 h1).2
    refine grd_nle (by simp [W.nmul, W.nadd, W.len]; omega) ⟨(u, b), rfl, ⟨h0, h1, ?_⟩, fun v ys hv0 hv1 hv => ?_⟩
    · show b.length + (Sp.enc u).length < 1000000; omega
    · have hv : ys ++ [v] = b ++ Sp.enc u := hv
      have hl : ys.length + 1 = b.length + (Sp.enc u).length := by have := congrArg List.length hv; simpa using this
      refine grd_nle (by simp [W.nmul, W.nadd, W.len]; omega) ?_
      rw [Sp.wrap_low hv0 hv1]
      show TV.o (T1.own 5 (VT.int .u8) (ys ++ [v])) = TV.o (T1.own 5 (VT.int .u8) (b ++ Sp.enc u))
      rw [hv]

def outGet (d : List Int × Int × Unit) : TV := .tup [.c (.a (.x (.int .u64 (Sp.get d.1 d.2.1).1))), .c (.a (.x (.int .i64 (Sp.get d.1 d.2.1).2.1))), .c (.a (.x (.int .i64 (Sp.get d.1 d.2.1).2.2)))]
def preG (d : List Int × Int × Unit) : Prop := Sp.bytes d.1 ∧ d.1.length < 4611686018427387904 ∧ -9223372036854775808 ≤ d.2.1 ∧ d.2.1 < 9223372036854775808
def ctr36 : TCtr := .det 36 [.l 5 (.int .u8), .v (.int .i64)] preG outGet fun _ => rfl
def ctr33 : TCtr := .det 33 [.l 5 (.int .u8), .v (.int .i64)] preG outGet fun _ => rfl

theorem good36 {L : List TCtr} (hL : Goods Try.prog L) : GoodC Try.prog ctr36 := by
  refine good_loop (fn := Try.f36) [4, 5, 6] [] (fun i : List Int × Int × Int × Int => 10 - i.2.2.2.toNat) wide hL ⟨by kernel_rfl, by kernel_rfl, by kernel_rfl, by kernel_rfl⟩ (by kernel_rfl) (by kernel_rfl) (by kernel_rfl) (by kernel_rfl) (n := 62) (ls := [0, 1, 4, 5, 6, 7, 8]) (ks := []) (mk := mk36) (ψ := psi36) (id := 0) ?_ ?_
  · rintro ⟨b, a, u, n⟩ Φ ⟨⟨hb, hl, ha, hn0, hn9, hle, hu0, hu⟩, hΦ⟩
    refine Eq.mpr (nf36s L _ _ _ b a u n Φ _) ?_
    simp only at hb hl ha hn0 hn9 hle hu0 hu
    obtain ⟨N, rfl⟩ : ∃ N : Nat, n = N := ⟨n.toNat, by omega⟩
    obtain ⟨A, rfl⟩ : ∃ A : Nat, a = A := ⟨a.toNat, by omega⟩
    have e1 : W.add .i64 (A : Int) N = A + N := W.add_i64 (by omega) (by omega)
    have e2 : W.sub .i64 (W.ofNat (W.len b)) A = (b.length : Int) - A := W.sub_i64 (by simp only [W.ofNat, W.len]; omega) (by simp only [W.ofNat, W.len]; omega)
    have e3 : W.mul .i64 7 (N : Int) = 7 * (N : Int) := W.mul_i64 (by omega) (by omega)
    have e4 : W.wrap .u64 (7 * (N : Int)) = 7 * (N : Int) := W.wu64_in (by omega) (by omega)
    have e5 : W.toNat ((A : Int) + N) = A + N := by simp only [W.toNat]; omega
    have e6 : W.add .i64 (N : Int) 1 = N + 1 := W.add_i64 (by omega) (by omega)
    obtain ⟨c0, c1⟩ := Sp.bytes_get hb (A + N)
    have e7 : W.nth b (A + N) 0 = b.getD (A + N) 0 := rfl
    simp only [e1, e2, e3, e4, e5, e6, e7]
    have hk : 10 - N = (9 - N) + 1 := by omega
    have hres : resGet (b, (A : Int), u, (N : Int)) = Sp.getF b A ((9 - N) + 1) N u := by
      show Sp.getF b (A : Int).toNat (10 - (N : Int).toNat) N u = _
      simp only [Int.toNat_natCast, hk]
    rw [hres] at hΦ
    simp only [Int.toNat_natCast] at hu
    have key : (A : Int) + N ≠ b.length → ¬ (((N : Int) = 9 ∧ 1 < b.getD (A + N) 0) ∨ (0 < (N : Int) ∧ b.getD (A + N) 0 = 0)) → grd (W.ile 0 (7 * (N : Int))) (brc (W.ilt (b.getD (A + N) 0) 128)
        (Φ AExit.ret (mkS 62 [(4, TV.int .u64 (W.or .u64 u (W.shl .u64 (W.wrap .u64 (W.and .u8 (b.getD (A + N) 0) 127)) (7 * (N : Int))))), (5, TV.int .i64 ((N : Int) + 1)), (6, TV.int .i64 0)] []))
        (∃ j, mkS 62 [(0, TV.l 5 (VT.int .u8) b), (1, TV.int .i64 (A : Int)), (4, TV.int .u64 0), (5, TV.int .i64 0), (6, TV.int .i64 0), (7, TV.int .u64 (W.or .u64 u (W.shl .u64 (W.wrap .u64 (W.and .u8 (b.getD (A + N) 0) 127)) (7 * (N : Int))))), (8, TV.int .i64 ((N : Int) + 1))] [] = mk36 j ∧ (fun i : List Int × Int × Int × Int => 10 - i.2.2.2.toNat) j < (fun i : List Int × Int × Int × Int => 10 - i.2.2.2.toNat) (b, (A : Int), u, (N : Int)) ∧ psi36 j Φ)) := by
      intro hne hno
      have hno2 : ¬ (((N : Int) = 9 ∧ 1 < b.getD (A + (N : Int).toNat) 0) ∨ (0 < (N : Int) ∧ b.getD (A + (N : Int).toNat) 0 = 0)) := by simpa only [Int.toNat_natCast] using hno
      have h9 : N = 9 → b.getD (A + N) 0 ≤ 1 := fun h => by
        by_cases h1 : 1 < b.getD (A + N) 0
        · exact absurd (.inl ⟨by omega, h1⟩) hno
        · omega
      rw [Sp.step_u c0 c1 (by omega) hu0 hu h9 _ rfl]
      obtain ⟨b0, b1, b2⟩ := Sp.step_bound c0 (by omega) hu0 hu (fun h => by have := h9 h; omega)
      refine grd_ile (by omega) (brc_ilt (fun h => ?_) fun h => ?_)
      · rw [Sp.getF_done hne hno2 (by simpa only [Int.toNat_natCast] using h)] at hΦ
        simpa only [Int.toNat_natCast] using hΦ
      · rw [Sp.getF_more hne hno2 (by simpa only [Int.toNat_natCast] using h)] at hΦ
        simp only [Int.toNat_natCast] at hΦ
        have hN : N ≤ 8 := by
          by_cases hN : N = 9
          · have := h9 hN; omega
          · omega
        refine ⟨(b, (A : Int), u + (b.getD (A + N) 0 % 128) * 128 ^ N, (N : Int) + 1), rfl, ?_, ⟨hb, hl, ?_, ?_, ?_, ?_, ?_, ?_⟩, ?_⟩
        · show 10 - ((N : Int) + 1).toNat < 10 - (N : Int).toNat; omega
        · show (0 : Int) ≤ A; omega
        · show (0 : Int) ≤ (N : Int) + 1; omega
        · show (N : Int) + 1 ≤ 9; omega
        · show (A : Int) + (N + 1) ≤ b.length; omega
        · show 0 ≤ u + (b.getD (A + N) 0 % 128) * 128 ^ N; omega
        · show u + (b.getD (A + N) 0 % 128) * 128 ^ N < 128 ^ ((N : Int) + 1).toNat
          have : ((N : Int) + 1).toNat = N + 1 := by omega
          rw [this]; exact b2 hN
        · have hr : resGet (b, (A : Int), u + (b.getD (A + N) 0 % 128) * 128 ^ N, (N : Int) + 1) = Sp.getF b A (9 - N) (N + 1) (u + (b.getD (A + N) 0 % 128) * 128 ^ N) := by
            show Sp.getF b (A : Int).toNat (10 - ((N : Int) + 1).toNat) _ _ = _
            have : 10 - ((N : Int) + 1).toNat = 9 - N := by omega
            rw [this, Int.toNat_natCast]
          rw [hr]; exact hΦ
    refine brc_ilt (fun _ => ?_) fun h => absurd h (by omega)
    refine brc_ile (fun h => ?_) fun h => ?_
    · rw [Sp.getF_short (by omega)] at hΦ; exact hΦ
    have hne : (A : Int) + N ≠ b.length := by omega
    refine grd_ile (by omega) (grd_nlt (by simp only [W.len]; omega) ?_)
    have form : (((N : Int) = 9 ∧ 1 < b.getD (A + N) 0) ∨ (0 < (N : Int) ∧ b.getD (A + N) 0 = 0)) → Φ AExit.ret (mkS 62 [(4, TV.int .u64 0), (5, TV.int .i64 0), (6, TV.int .i64 2)] []) := by
      intro h
      rw [Sp.getF_form hne (by simpa only [Int.toNat_natCast] using h)] at hΦ; exact hΦ
    refine brc_ieq (fun h9 => ?_) fun h9 => ?_
    · refine brc_igt (fun h => form (.inl ⟨h9, h⟩)) fun h => ?_
      refine brc_igt (fun hp => ?_) fun hp => by omega
      refine brc_ieq (fun hz => form (.inr ⟨hp, hz⟩)) fun hz => key hne ?_
      rintro (⟨_, h'⟩ | ⟨_, h'⟩)
      · omega
      · exact hz h'
    · refine brc_igt (fun hp => ?_) fun hp => ?_
      · refine brc_ieq (fun hz => form (.inr ⟨hp, hz⟩)) fun hz => key hne ?_
        rintro (⟨h', _⟩ | ⟨_, h'⟩)
        · exact h9 h'
        · exact hz h'
      · refine key hne ?_
        rintro (⟨h', _⟩ | ⟨h', _⟩)
        · exact h9 h'
        · omega
  · intro d hd
    obtain ⟨b, a, x⟩ : List Int × Int × Unit := d
    obtain ⟨hb, hl, h1, h2⟩ : Sp.bytes b ∧ b.length < 4611686018427387904 ∧ -9223372036854775808 ≤ a ∧ a < 9223372036854775808 := hd
    refine Eq.mpr (nf36 L b a _) ?_
    have e1 : W.ofNat (W.len b) = (b.length : Int) := rfl
    rw [e1]
    refine brc_ilt (fun h => ?_) fun h => ?_
    · show _ = outGet (b, a, x)
      rw [outGet, Sp.get_arg (.inl h)]
    refine brc_igt (fun h' => ?_) fun h' => ?_
    · show _ = outGet (b, a, x)
      rw [outGet, Sp.get_arg (.inr h')]
    refine ⟨(b, a, 0, 0), rfl, ⟨hb, hl, h, (show (0 : Int) ≤ 0 by decide), (show (0 : Int) ≤ 9 by decide), ?_, (show (0 : Int) ≤ 0 by decide), (show (0 : Int) < 128 ^ 0 by decide)⟩, ?_⟩
    · show a + 0 ≤ b.length; omega
    · show _ = outGet (b, a, x)
      rw [outGet, Sp.get_in h h']
      rfl

theorem good33 {L : List TCtr} (hL : Goods Try.prog L) : GoodC Try.prog ctr33 := by
  refine good_jump (fn := Try.f33) [4, 5, 6] [] (fun i : List Int × Int × Int × Int => 10 - i.2.2.2.toNat) wide hL ⟨by kernel_rfl, by kernel_rfl, by kernel_rfl, by kernel_rfl⟩ (by kernel_rfl) (by kernel_rfl) (by kernel_rfl) (by kernel_rfl) (n := 58) (ls := [0, 1, 4, 5, 6, 7, 8]) (ks := []) (mk := mk33) (ψ := psi33) (l := 0) ?_ ?_
  · rintro ⟨b, a, u, n⟩ Φ ⟨⟨hb, hl, ha, hn0, hn9, hle, hu0, hu⟩, hΦ⟩
    refine Eq.mpr (nf33s L _ _ _ b a u n Φ _) ?_
    simp only at hb hl ha hn0 hn9 hle hu0 hu
    obtain ⟨N, rfl⟩ : ∃ N : Nat, n = N := ⟨n.toNat, by omega⟩
    obtain ⟨A, rfl⟩ : ∃ A : Nat, a = A := ⟨a.toNat, by omega⟩
    have e1 : W.add .i64 (A : Int) N = A + N := W.add_i64 (by omega) (by omega)
    have e3 : W.mul .i64 7 (N : Int) = 7 * (N : Int) := W.mul_i64 (by omega) (by omega)
    have e5 : W.toNat ((A : Int) + N) = A + N := by simp only [W.toNat]; omega
    have e6 : W.add .i64 (N : Int) 1 = N + 1 := W.add_i64 (by omega) (by omega)
    obtain ⟨c0, c1⟩ := Sp.bytes_get hb (A + N)
    have e7 : W.nth b (A + N) 0 = b.getD (A + N) 0 := rfl
    have e8 : W.ofNat (W.len b) = (b.length : Int) := rfl
    simp only [e1, e3, e5, e6, e7, e8]
    have hk : 10 - N = (9 - N) + 1 := by omega
    have hres : resGet (b, (A : Int), u, (N : Int)) = Sp.getF b A ((9 - N) + 1) N u := by
      show Sp.getF b (A : Int).toNat (10 - (N : Int).toNat) N u = _
      simp only [Int.toNat_natCast, hk]
    rw [hres] at hΦ
    simp only [Int.toNat_natCast] at hu
    have key : (A : Int) + N ≠ b.length → ¬ (((N : Int) = 9 ∧ 1 < b.getD (A + N) 0) ∨ (0 < (N : Int) ∧ b.getD (A + N) 0 = 0)) → grd (W.ile 0 (7 * (N : Int))) (brc (W.ige (b.getD (A + N) 0) 128)
        (∃ j, mkS 58 [(0, TV.l 5 (VT.int .u8) b), (1, TV.int .i64 (A : Int)), (4, TV.int .u64 0), (5, TV.int .i64 0), (6, TV.int .i64 0), (7, TV.int .u64 (W.or .u64 u (W.shl .u64 (W.wrap .u64 (W.and .u8 (b.getD (A + N) 0) 127)) (7 * (N : Int))))), (8, TV.int .i64 ((N : Int) + 1))] [] = mk33 j ∧ (fun i : List Int × Int × Int × Int => 10 - i.2.2.2.toNat) j < (fun i : List Int × Int × Int × Int => 10 - i.2.2.2.toNat) (b, (A : Int), u, (N : Int)) ∧ psi33 j Φ)
        (Φ AExit.ret (mkS 58 [(4, TV.int .u64 (W.or .u64 u (W.shl .u64 (W.wrap .u64 (W.and .u8 (b.getD (A + N) 0) 127)) (7 * (N : Int))))), (5, TV.int .i64 ((N : Int) + 1)), (6, TV.int .i64 0)] []))) := by
      intro hne hno
      have hno2 : ¬ (((N : Int) = 9 ∧ 1 < b.getD (A + (N : Int).toNat) 0) ∨ (0 < (N : Int) ∧ b.getD (A + (N : Int).toNat) 0 = 0)) := by simpa only [Int.toNat_natCast] using hno
      have h9 : N = 9 → b.getD (A + N) 0 ≤ 1 := fun h => by
        by_cases h1 : 1 < b.getD (A + N) 0
        · exact absurd (.inl ⟨by omega, h1⟩) hno
        · omega
      rw [Sp.step_u c0 c1 (by omega) hu0 hu h9 _ rfl]
      obtain ⟨b0, b1, b2⟩ := Sp.step_bound c0 (by omega) hu0 hu (fun h => by have := h9 h; omega)
      refine grd_ile (by omega) (brc_ige (fun h => ?_) fun h => ?_)
      · rw [Sp.getF_more hne hno2 (by simpa only [Int.toNat_natCast] using h)] at hΦ
        simp only [Int.toNat_natCast] at hΦ
        have hN : N ≤ 8 := by
          by_cases hN : N = 9
          · have := h9 hN; omega
          · omega
        refine ⟨(b, (A : Int), u + (b.getD (A + N) 0 % 128) * 128 ^ N, (N : Int) + 1), rfl, ?_, ⟨hb, hl, ?_, ?_, ?_, ?_, ?_, ?_⟩, ?_⟩
        · show 10 - ((N : Int) + 1).toNat < 10 - (N : Int).toNat; omega
        · show (0 : Int) ≤ A; omega
        · show (0 : Int) ≤ (N : Int) + 1; omega
        · show (N : Int) + 1 ≤ 9; omega
        · show (A : Int) + (N + 1) ≤ b.length; omega
        · show 0 ≤ u + (b.getD (A + N) 0 % 128) * 128 ^ N; omega
        · show u + (b.getD (A + N) 0 % 128) * 128 ^ N < 128 ^ ((N : Int) + 1).toNat
          have : ((N : Int) + 1).toNat = N + 1 := by omega
          rw [this]; exact b2 hN
        · have hr : resGet (b, (A : Int), u + (b.getD (A + N) 0 % 128) * 128 ^ N, (N : Int) + 1) = Sp.getF b A (9 - N) (N + 1) (u + (b.getD (A + N) 0 % 128) * 128 ^ N) := by
            show Sp.getF b (A : Int).toNat (10 - ((N : Int) + 1).toNat) _ _ = _
            have : 10 - ((N : Int) + 1).toNat = 9 - N := by omega
            rw [this, Int.toNat_natCast]
          rw [hr]; exact hΦ
      · rw [Sp.getF_done hne hno2 (by simpa only [Int.toNat_natCast] using h)] at hΦ
        simpa only [Int.toNat_natCast] using hΦ
    refine brc_ieq (fun h => ?_) fun hne => ?_
    · rw [Sp.getF_short h] at hΦ; exact hΦ
    refine grd_ile (by omega) (grd_nlt (by simp only [W.len]; omega) ?_)
    have form : (((N : Int) = 9 ∧ 1 < b.getD (A + N) 0) ∨ (0 < (N : Int) ∧ b.getD (A + N) 0 = 0)) → Φ AExit.ret (mkS 58 [(4, TV.int .u64 0), (5, TV.int .i64 0), (6, TV.int .i64 2)] []) := by
      intro h
      rw [Sp.getF_form hne (by simpa only [Int.toNat_natCast] using h)] at hΦ; exact hΦ
    refine brc_ieq (fun h9 => ?_) fun h9 => ?_
    · refine brc_igt (fun h => form (.inl ⟨h9, h⟩)) fun h => ?_
      refine brc_igt (fun hp => ?_) fun hp => by omega
      refine brc_ieq (fun hz => form (.inr ⟨hp, hz⟩)) fun hz => key hne ?_
      rintro (⟨_, h'⟩ | ⟨_, h'⟩)
      · omega
      · exact hz h'
    · refine brc_igt (fun hp => ?_) fun hp => ?_
      · refine brc_ieq (fun hz => form (.inr ⟨hp, hz⟩)) fun hz => key hne ?_
        rintro (⟨h', _⟩ | ⟨_, h'⟩)
        · exact h9 h'
        · exact hz h'
      · refine key hne ?_
        rintro (⟨h', _⟩ | ⟨h', _⟩)
        · exact h9 h'
        · omega
  · intro d hd
    obtain ⟨b, a, x⟩ : List Int × Int × Unit := d
    obtain ⟨hb, hl, h1, h2⟩ : Sp.bytes b ∧ b.length < 4611686018427387904 ∧ -9223372036854775808 ≤ a ∧ a < 9223372036854775808 := hd
    refine Eq.mpr (nf33 L b a _) ?_
    have e1 : W.ofNat (W.len b) = (b.length : Int) := rfl
    have e2 : W.add .i64 a 0 = a := by rw [W.add_i64 (by omega) (by omega)]; omega
    rw [e1, e2]
    refine brc_ilt (fun h => ?_) fun h => ?_
    · show _ = outGet (b, a, x)
      rw [outGet, Sp.get_arg (.inl h)]
    refine brc_igt (fun h' => ?_) fun h' => ?_
    · show _ = outGet (b, a, x)
      rw [outGet, Sp.get_arg (.inr h')]
    obtain ⟨A, rfl⟩ : ∃ A : Nat, a = A := ⟨a.toNat, by omega⟩
    have e5 : W.toNat (A : Int) = A := by simp only [W.toNat]; omega
    have e7 : W.nth b A 0 = b.getD A 0 := rfl
    simp only [e5, e7]
    obtain ⟨c0, c1⟩ := Sp.bytes_get hb A
    have hs := Sp.step_u (n := 0) (u := 0) c0 c1 (by omega) (by omega) (by decide) (fun h => by omega) 0 rfl
    simp only [hs]
    have hno : ¬ (((0 : Int) = 9 ∧ 1 < b.getD (A + (0 : Int).toNat) 0) ∨ (0 < (0 : Int) ∧ b.getD (A + (0 : Int).toNat) 0 = 0)) := by
      rintro (⟨h', _⟩ | ⟨h', _⟩) <;> omega
    refine brc_ieq (fun hz => ?_) fun hz => ?_
    · show _ = outGet (b, (A : Int), x)
      rw [outGet, Sp.get_in h h', Int.toNat_natCast, Sp.getF_short (by omega)]
    have hne : (A : Int) + 0 ≠ b.length := by omega
    refine grd_ile (by omega) (grd_nlt (by simp only [W.len]; omega) (brc_ige (fun hc => ?_) fun hc => ?_))
    · refine ⟨(b, (A : Int), 0 + (b.getD A 0 % 128) * 128 ^ 0, 1), rfl, ⟨hb, hl, ?_, (show (0 : Int) ≤ 1 by decide), (show (1 : Int) ≤ 9 by decide), ?_, ?_, ?_⟩, ?_⟩
      · show (0 : Int) ≤ A; omega
      · show (A : Int) + 1 ≤ b.length; omega
      · show 0 ≤ 0 + (b.getD A 0 % 128) * 128 ^ 0; omega
      · show 0 + (b.getD A 0 % 128) * 128 ^ 0 < 128 ^ 1; omega
      · show _ = outGet (b, (A : Int), x)
        rw [outGet, Sp.get_in h h', Int.toNat_natCast, Sp.getF_more hne hno (by simpa using hc)]
        rfl
    · show _ = outGet (b, (A : Int), x)
      rw [outGet, Sp.get_in h h', Int.toNat_natCast, Sp.getF_done hne hno (by simpa using hc)]
      rfl
end Go.Proofs.Ytbfeilpjkcmfhaa
