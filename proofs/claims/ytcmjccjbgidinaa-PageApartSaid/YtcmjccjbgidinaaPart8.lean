/-
  Texts of a proof over the translated program: proved evaluators and walks, part 8 of 17.
-/
import Derived.Test.YtcmjccjbgidinaaPart7
import Derived.Below
import Derived.Great.BuildSlice
import Derived.KernelRfl
import Derived.Laws.IdiomStrings
import Derived.Orders
import Derived.Test.YtcmjccjbgidinaaChecked
import Derived.WalkKit
set_option linter.unusedVariables false
set_option linter.unusedSimpArgs false
set_option linter.unusedSectionVars false
set_option linter.unnecessarySimpa false
section
namespace Go.Proofs.Ytcmjccjbgidinaa
open Go.AbsM
theorem wide : Try.prog.follows .mixedOrders = true := by kernel_rfl
end Go.Proofs.Ytcmjccjbgidinaa
end

section
namespace Go.Proofs.Ytcmjccjbgidinaa
open Go.AbsM
def mk50 (i : Int × List Int) : TSt := mkS 30 [(1, TV.int .u64 i.1), (4, .a .nils), (5, TV.h 11)] [(11, .arr false 5 (.int .u8) i.2)]
def psi50 (i : Int × List Int) (Φ : Post) : Prop := (0 ≤ i.1 ∧ i.1 < 18446744073709551616 ∧ i.2.length + (Sp.enc i.1).length < 1000000) ∧ Φ .ret (mkS 30 [(4, TV.h 11)] [(11, .arr false 5 (.int .u8) (i.2 ++ Sp.enc i.1))])
def lab50 : Nat → Option Piece := one 0 (loopP 30 [1, 4, 5] [11] mk50 psi50)
theorem put_head (L : List TCtr) (b : List Int) (u : Int) (Q : TV → Prop) : wpFn Try.prog (knownL L noneK lab50) Try.f50 [.c (.sl 5 (.int .u8) (.mk b)), .c (.a (.x (.int .u64 u)))] Q = (
  grd (W.ile (W.ofNat (W.len b)) (W.add IntKind.i64 (W.ofNat (W.len b)) (10 : Int))) (grd (W.ile (W.add IntKind.i64 (W.ofNat (W.len b)) (10 : Int)) (9223372036854775807 : Int)) (grd (W.ile (W.bys (1 : Nat) (W.add IntKind.i64 (W.ofNat (W.len b)) (10 : Int))) (281474976710656 : Int)) (brc (W.ilt u (128 : Int)) (grd (W.nle (W.nmul (W.nadd (W.len (W.app (W.take (W.nmin (W.len b) (W.len (W.rep (W.toNat (W.ofNat (W.len b))) (0 : Int)))) b) (W.drop (W.nmin (W.len b) (W.len (W.rep (W.toNat (W.ofNat (W.len b))) (0 : Int)))) (W.rep (W.toNat (W.ofNat (W.len b))) (0 : Int))))) (W.len [W.wrap IntKind.u8 u])) (1 : Nat)) (140737488355328 : Nat)) (Q (TV.o (T1.own (5 : Nat) (VT.int IntKind.u8) (asT (List Int) (W.app (W.app (W.take (W.nmin (W.len b) (W.len (W.rep (W.toNat (W.ofNat (W.len b))) (0 : Int)))) b) (W.drop (W.nmin (W.len b) (W.len (W.rep (W.toNat (W.ofNat (W.len b))) (0 : Int)))) (W.rep (W.toNat (W.ofNat (W.len b))) (0 : Int)))) [W.wrap IntKind.u8 u])))))) (grd (W.nle (W.nmul (W.nadd (W.len (W.app (W.take (W.nmin (W.len b) (W.len (W.rep (W.toNat (W.ofNat (W.len b))) (0 : Int)))) b) (W.drop (W.nmin (W.len b) (W.len (W.rep (W.toNat (W.ofNat (W.len b))) (0 : Int)))) (W.rep (W.toNat (W.ofNat (W.len b))) (0 : Int))))) (W.len [W.or IntKind.u8 (W.wrap IntKind.u8 u) (128 : Int)])) (1 : Nat)) (140737488355328 : Nat)) (∃ i, mkS (30 : Nat) [((1 : Nat), TV.int IntKind.u64 (W.shr IntKind.u64 u (7 : Int))), ((4 : Nat), TV.o (T1.c (TC.a AV.nils))), ((5 : Nat), TV.h (11 : Nat))] [((11 : Nat), TOb.arr false (5 : Nat) (VT.int IntKind.u8) (asT (List Int) (W.app (W.app (W.take (W.nmin (W.len b) (W.len (W.rep (W.toNat (W.ofNat (W.len b))) (0 : Int)))) b) (W.drop (W.nmin (W.len b) (W.len (W.rep (W.toNat (W.ofNat (W.len b))) (0 : Int)))) (W.rep (W.toNat (W.ofNat (W.len b))) (0 : Int)))) [W.or IntKind.u8 (W.wrap IntKind.u8 u) (128 : Int)])))] = mkS (30 : Nat) [((1 : Nat), TV.int IntKind.u64 (Prod.fst i)), ((4 : Nat), TV.o (T1.c (TC.a AV.nils))), ((5 : Nat), TV.h (11 : Nat))] [((11 : Nat), TOb.arr false (5 : Nat) (VT.int IntKind.u8) (asT (List Int) (Prod.snd i)))] ∧ ((0 : Int) ≤ Prod.fst i ∧ Prod.fst i < (18446744073709551616 : Int) ∧ List.length (Prod.snd i) + List.length (Sp.enc (Prod.fst i)) < (1000000 : Nat)) ∧ Q (TV.o (T1.own (5 : Nat) (VT.int IntKind.u8) (asT (List Int) (List.append (Prod.snd i) (Sp.enc (Prod.fst i)))))))))))) := by kernel_rfl
theorem put_step (L : List TCtr) (μ : Int × List Int → Nat) (u : Int) (xs : List Int) (Φ : Post) (m : Nat) : wpT Try.prog (knownL L noneK lab50) (restC (bodyOf Try.f50) 0) (mk50 (u, xs)) (jumpK (knownL L noneK lab50) 30 [1, 4, 5] [11] [4] [11] (scC (bodyOf Try.f50)) 0 mk50 μ psi50 m Φ) = (
  brc (W.ilt u (128 : Int)) (grd (W.nle (W.nmul (W.nadd (W.len xs) (W.len [W.wrap IntKind.u8 u])) (1 : Nat)) (140737488355328 : Nat)) (Φ AExit.ret (mkS (30 : Nat) [((4 : Nat), TV.h (11 : Nat))] [((11 : Nat), TOb.arr false (5 : Nat) (VT.int IntKind.u8) (asT (List Int) (W.app xs [W.wrap IntKind.u8 u])))]))) (grd (W.nle (W.nmul (W.nadd (W.len xs) (W.len [W.or IntKind.u8 (W.wrap IntKind.u8 u) (128 : Int)])) (1 : Nat)) (140737488355328 : Nat)) (∃ j, mkS (30 : Nat) [((1 : Nat), TV.int IntKind.u64 (W.shr IntKind.u64 u (7 : Int))), ((4 : Nat), TV.o (T1.c (TC.a AV.nils))), ((5 : Nat), TV.h (11 : Nat))] [((11 : Nat), TOb.arr false (5 : Nat) (VT.int IntKind.u8) (asT (List Int) (W.app xs [W.or IntKind.u8 (W.wrap IntKind.u8 u) (128 : Int)])))] = mkS (30 : Nat) [((1 : Nat), TV.int IntKind.u64 (Prod.fst j)), ((4 : Nat), TV.o (T1.c (TC.a AV.nils))), ((5 : Nat), TV.h (11 : Nat))] [((11 : Nat), TOb.arr false (5 : Nat) (VT.int IntKind.u8) (asT (List Int) (Prod.snd j)))] ∧ μ j < m ∧ ((0 : Int) ≤ Prod.fst j ∧ Prod.fst j < (18446744073709551616 : Int) ∧ List.length (Prod.snd j) + List.length (Sp.enc (Prod.fst j)) < (1000000 : Nat)) ∧ Φ AExit.ret (mkS (30 : Nat) [((4 : Nat), TV.h (11 : Nat))] [((11 : Nat), TOb.arr false (5 : Nat) (VT.int IntKind.u8) (asT (List Int) (List.append (Prod.snd j) (Sp.enc (Prod.fst j)))))])))) := by kernel_rfl
def ctr50 : TCtr := .det 50 [.l 5 (.int .u8), .v (.int .u64)] (fun (d : List Int × Int × Unit) => 0 ≤ d.2.1 ∧ d.2.1 < 18446744073709551616 ∧ d.1.length < 100000) (fun (d : List Int × Int × Unit) => .o (.own 5 (.int .u8) (d.1 ++ Sp.enc d.2.1))) fun _ => rfl
theorem fits50 : Fits Try.prog ctr50.f ctr50.sig Try.f50 := ⟨by kernel_rfl, by kernel_rfl, by kernel_rfl, by kernel_rfl⟩
theorem good50 {L : List TCtr} (hL : Goods Try.prog L) : GoodC Try.prog ctr50 := by
  refine good_jump (fn := Try.f50) [4] [11] (fun i : Int × List Int => i.1.toNat) wide hL fits50 (by kernel_rfl) (by kernel_rfl) (by kernel_rfl) (by kernel_rfl) (n := 30) (ls := [1, 4, 5]) (ks := [11]) (mk := mk50) (ψ := psi50) (l := 0) ?_ ?_
  · rintro ⟨u, xs⟩ Φ ⟨⟨h0, h1, h2⟩, hΦ⟩
    refine Eq.mpr (put_step L _ u xs Φ _) ?_
    simp only at h0 h1 h2 hΦ ⊢
    refine brc_ilt (fun h => ?_) fun h => ?_
    · refine grd_nle (by simp [W.nmul, W.nadd, W.len]; omega) ?_
      rw [Sp.wrap_low h0 h]
      rw [Sp.enc_low h0 h] at hΦ
      exact hΦ
    · have hl : (Sp.enc u).length = 1 + (Sp.enc (u / 128)).length := by rw [Sp.enc_high h0 h]; simp; omega
      refine grd_nle (by simp [W.nmul, W.nadd, W.len]; omega) ?_
      rw [Sp.or_u8 h0, Sp.shr7]
      rw [Sp.enc_high h0 h] at hΦ
      refine ⟨(u / 128, xs ++ [u % 128 + 128]), rfl, ?_, ⟨?_, ?_, ?_⟩, ?_⟩
      · show (u / 128).toNat < u.toNat; omega
      · show 0 ≤ u / 128; omega
      · show u / 128 < _; omega
      · show (xs ++ [u % 128 + 128]).length + (Sp.enc (u / 128)).length < 1000000; simp; omega
      · show Φ .ret (mkS 30 [(4, TV.h 11)] [(11, .arr false 5 (.int .u8) ((xs ++ [u % 128 + 128]) ++ Sp.enc (u / 128)))])
        rw [List.append_assoc]; exact hΦ
  · intro d hd
    obtain ⟨b, u, x⟩ : List Int × Int × Unit := d
    obtain ⟨h0, h1, h2⟩ : 0 ≤ u ∧ u < 18446744073709551616 ∧ b.length < 100000 := hd
    refine Eq.mpr (put_head L b u _) ?_
    have e1 : W.ofNat (W.len b) = (b.length : Int) := rfl
    simp only [asT, W.copied]
    rw [e1, W.add_i64 (by omega) (by omega)]
    refine grd_ile (by omega) (grd_ile (by omega) (grd_ile (by simp only [W.bys]; omega) (brc_ilt (fun h => ?_) fun h => ?_)))
    · refine grd_nle (by simp [W.nmul, W.nadd, W.len]; omega) ?_
      rw [Sp.wrap_low h0 h]
      show _ = TV.o (T1.own 5 (VT.int .u8) (b ++ Sp.enc u))
      rw [Sp.enc_low h0 h]; rfl
    · refine grd_nle (by simp [W.nmul, W.nadd, W.len]; omega) ?_
      rw [Sp.or_u8 h0, Sp.shr7]
      have hl : (Sp.enc u).length = 1 + (Sp.enc (u / 128)).length := by rw [Sp.enc_high h0 h]; simp; omega
      have := (Sp.enc_len h0 h1).2
      refine ⟨(u / 128, b ++ [u % 128 + 128]), rfl, ⟨?_, ?_, ?_⟩, ?_⟩
      · show 0 ≤ u / 128; omega
      · show u / 128 < _; omega
      · show (b ++ [u % 128 + 128]).length + (Sp.enc (u / 128)).length < 1000000
        simp; omega
      · show TV.o (T1.own 5 (VT.int .u8) ((b ++ [u % 128 + 128]) ++ Sp.enc (u / 128))) = TV.o (T1.own 5 (VT.int .u8) (b ++ Sp.enc u))
        rw [Sp.enc_high h0 h, List.append_assoc]; rfl
end Go.Proofs.Ytcmjccjbgidinaa
end

section
set_option maxRecDepth 100000
namespace Go.Proofs.Ytcmjccjbgidinaa
open Go.AbsM
def mk55 (i : Int × List Int) : TSt := mkS 24 [(1, TV.int .u64 i.1), (4, .a .nils), (5, TV.h 6)] [(6, .arr false 5 (.int .u8) i.2)]
def psi55 (i : Int × List Int) (Φ : Post) : Prop := (0 ≤ i.1 ∧ i.1 < 18446744073709551616 ∧ i.2.length + (Sp.enc i.1).length < 1000000) ∧ ∀ (u : Int) (xs : List Int), 0 ≤ u → u < 128 → xs ++ [u] = i.2 ++ Sp.enc i.1 → Φ .normal (mk55 (u, xs))
def blk55 : Nat → Option Piece := one 0 (loopP 24 [1, 4, 5] [6] mk55 psi55)
theorem nf55 (L : List TCtr) (b : List Int) (u : Int) (Q : TV → Prop) : wpFn Try.prog (knownL L blk55 noneK) Try.f55 [.c (.sl 5 (.int .u8) (.mk b)), .c (.a (.x (.int .u64 u)))] Q = (
  grd (W.nle (W.nmul (W.nadd (0 : Nat) (W.len b)) (1 : Nat)) (140737488355328 : Nat)) (∃ i, mkS (24 : Nat) [((1 : Nat), TV.int IntKind.u64 u), ((4 : Nat), TV.o (T1.c (TC.a AV.nils))), ((5 : Nat), TV.h (6 : Nat))] [((6 : Nat), TOb.arr false (5 : Nat) (VT.int IntKind.u8) (asT (List Int) (W.app [] b)))] = mkS (24 : Nat) [((1 : Nat), TV.int IntKind.u64 (Prod.fst i)), ((4 : Nat), TV.o (T1.c (TC.a AV.nils))), ((5 : Nat), TV.h (6 : Nat))] [((6 : Nat), TOb.arr false (5 : Nat) (VT.int IntKind.u8) (asT (List Int) (Prod.snd i)))] ∧ ((0 : Int) ≤ Prod.fst i ∧ Prod.fst i < (18446744073709551616 : Int) ∧ List.length (Prod.snd i) + List.length (Sp.enc (Prod.fst i)) < (1000000 : Nat)) ∧ ∀ (u : Int) (xs : List Int), (0 : Int) ≤ u → u < (128 : Int) → List.append xs [u] = List.append (Prod.snd i) (Sp.enc (Prod.fst i)) → grd (W.nle (W.nmul (W.nadd (W.len xs) (W.len [W.wrap IntKind.u8 u])) (1 : Nat)) (140737488355328 : Nat)) (Q (TV.o (T1.own (5 : Nat) (VT.int IntKind.u8) (asT (List Int) (W.app xs [W.wrap IntKind.u8 u]))))))) := by kernel_rfl
theorem nf55s (L : List TCtr) (μ : Int × List Int → Nat) (u : Int) (xs : List Int) (Φ : Post) (m : Nat) : wpT Try.prog (knownL L blk55 noneK) (loopOf (blkC (bodyOf Try.f55) 0)) (mk55 (u, xs)) (stepK 24 [1, 4, 5] [6] [1, 4, 5] [6] 0 mk55 μ psi55 m Φ) = (
  brc (W.ige u (128 : Int)) (grd (W.nle (W.nmul (W.nadd (W.len xs) (W.len [W.or IntKind.u8 (W.wrap IntKind.u8 u) (128 : Int)])) (1 : Nat)) (140737488355328 : Nat)) (∃ j, mkS (24 : Nat) [((1 : Nat), TV.int IntKind.u64 (W.shr IntKind.u64 u (7 : Int))), ((4 : Nat), TV.o (T1.c (TC.a AV.nils))), ((5 : Nat), TV.h (6 : Nat))] [((6 : Nat), TOb.arr false (5 : Nat) (VT.int IntKind.u8) (asT (List Int) (W.app xs [W.or IntKind.u8 (W.wrap IntKind.u8 u) (128 : Int)])))] = mkS (24 : Nat) [((1 : Nat), TV.int IntKind.u64 (Prod.fst j)), ((4 : Nat), TV.o (T1.c (TC.a AV.nils))), ((5 : Nat), TV.h (6 : Nat))] [((6 : Nat), TOb.arr false (5 : Nat) (VT.int IntKind.u8) (asT (List Int) (Prod.snd j)))] ∧ μ j < m ∧ ((0 : Int) ≤ Prod.fst j ∧ Prod.fst j < (18446744073709551616 : Int) ∧ List.length (Prod.snd j) + List.length (Sp.enc (Prod.fst j)) < (1000000 : Nat)) ∧ ∀ (u : Int) (xs : List Int), (0 : Int) ≤ u → u < (128 : Int) → List.append xs [u] = List.append (Prod.snd j) (Sp.enc (Prod.fst j)) → Φ AExit.normal (mkS (24 : Nat) [((1 : Nat), TV.int IntKind.u64 u), ((4 : Nat), TV.o (T1.c (TC.a AV.nils))), ((5 : Nat), TV.h (6 : Nat))] [((6 : Nat), TOb.arr false (5 : Nat) (VT.int IntKind.u8) (asT (List Int) xs))]))) (Φ AExit.normal (mkS (24 : Nat) [((1 : Nat), TV.int IntKind.u64 u), ((4 : Nat), TV.o (T1.c (TC.a AV.nils))), ((5 : Nat), TV.h (6 : Nat))] [((6 : Nat), TOb.arr false (5 : Nat) (VT.int IntKind.u8) xs)]))) := by kernel_rfl
def mk54 (i : List Int × Int × Int × Int) : TSt := mkS 58 [(0, TV.l 5 (.int .u8) i.1), (1, TV.int .i64 i.2.1), (4, TV.int .u64 0), (5, TV.int .i64 0), (6, TV.int .i64 0), (7, TV.int .u64 i.2.2.1), (8, TV.int .i64 i.2.2.2)] []
def preGet (i : List Int × Int × Int × Int) : Prop := Sp.bytes i.1 ∧ i.1.length < 4611686018427387904 ∧ 0 ≤ i.2.1 ∧ 0 ≤ i.2.2.2 ∧ i.2.2.2 ≤ 9 ∧ i.2.1 + i.2.2.2 ≤ i.1.length ∧ 0 ≤ i.2.2.1 ∧ i.2.2.1 < 128 ^ i.2.2.2.toNat
def resGet (i : List Int × Int × Int × Int) : Int × Int × Int := Sp.getF i.1 i.2.1.toNat (10 - i.2.2.2.toNat) i.2.2.2 i.2.2.1
def psi54 (i : List Int × Int × Int × Int) (Φ : Post) : Prop := preGet i ∧ Φ .ret (mkS 58 [(4, TV.int .u64 (resGet i).1), (5, TV.int .i64 (resGet i).2.1), (6, TV.int .i64 (resGet i).2.2)] [])
def lab54 : Nat → Option Piece := one 0 (loopP 58 [0, 1, 4, 5, 6, 7, 8] [] mk54 psi54)
theorem nf54 (L : List TCtr) (b : List Int) (a : Int) (Q : TV → Prop) : wpFn Try.prog (knownL L noneK lab54) Try.f54 [.c (.sl 5 (.int .u8) (.mk b)), .c (.a (.x (.int .i64 a)))] Q = (
  brc (W.ilt a (0 : Int)) (Q (TV.tup [T1.c (TC.a (AV.x (Value.int IntKind.u64 (0 : Int)))), T1.c (TC.a (AV.x (Value.int IntKind.i64 (0 : Int)))), T1.c (TC.a (AV.x (Value.int IntKind.i64 (1 : Int))))])) (brc (W.igt a (W.ofNat (W.len b))) (Q (TV.tup [T1.c (TC.a (AV.x (Value.int IntKind.u64 (0 : Int)))), T1.c (TC.a (AV.x (Value.int IntKind.i64 (0 : Int)))), T1.c (TC.a (AV.x (Value.int IntKind.i64 (1 : Int))))])) (brc (W.ieq (W.add IntKind.i64 a (0 : Int)) (W.ofNat (W.len b))) (Q (TV.tup [T1.c (TC.a (AV.x (Value.int IntKind.u64 (0 : Int)))), T1.c (TC.a (AV.x (Value.int IntKind.i64 (0 : Int)))), T1.c (TC.a (AV.x (Value.int IntKind.i64 (5 : Int))))])) (grd (W.ile (0 : Int) (W.add IntKind.i64 a (0 : Int))) (grd (W.nlt (W.toNat (W.add IntKind.i64 a (0 : Int))) (W.len b)) (brc (W.ige (W.nth b (W.toNat (W.add IntKind.i64 a (0 : Int))) (0 : Int)) (128 : Int)) (∃ i, mkS (58 : Nat) [((0 : Nat), TV.l (5 : Nat) (VT.int IntKind.u8) b), ((1 : Nat), TV.int IntKind.i64 a), ((4 : Nat), TV.int IntKind.u64 (0 : Int)), ((5 : Nat), TV.int IntKind.i64 (0 : Int)), ((6 : Nat), TV.int IntKind.i64 (0 : Int)), ((7 : Nat), TV.int IntKind.u64 (W.or IntKind.u64 (0 : Int) (W.shl IntKind.u64 (W.wrap IntKind.u64 (W.and IntKind.u8 (W.nth b (W.toNat (W.add IntKind.i64 a (0 : Int))) (0 : Int)) (127 : Int))) (0 : Int)))), ((8 : Nat), TV.int IntKind.i64 (1 : Int))] [] = mkS (58 : Nat) [((0 : Nat), TV.l (5 : Nat) (VT.int IntKind.u8) (asT (List Int) (Prod.fst i))), ((1 : Nat), TV.int IntKind.i64 (Prod.fst (Prod.snd i))), ((4 : Nat), TV.int IntKind.u64 (0 : Int)), ((5 : Nat), TV.int IntKind.i64 (0 : Int)), ((6 : Nat), TV.int IntKind.i64 (0 : Int)), ((7 : Nat), TV.int IntKind.u64 (Prod.fst (Prod.snd (Prod.snd i)))), ((8 : Nat), TV.int IntKind.i64 (Prod.snd (Prod.snd (Prod.snd i))))] [] ∧ (Sp.bytes (Prod.fst i) ∧ List.length (Prod.fst i) < (4611686018427387904 : Nat) ∧ (0 : Int) ≤ Prod.fst (Prod.snd i) ∧ (0 : Int) ≤ Prod.snd (Prod.snd (Prod.snd i)) ∧ Prod.snd (Prod.snd (Prod.snd i)) ≤ (9 : Int) ∧ Prod.fst (Prod.snd i) + Prod.snd (Prod.snd (Prod.snd i)) ≤ Int.ofNat (List.length (Prod.fst i)) ∧ (0 : Int) ≤ Prod.fst (Prod.snd (Prod.snd i)) ∧ Prod.fst (Prod.snd (Prod.snd i)) < Int.ofNat (Nat.pow (128 : Nat) (Int.toNat (Prod.snd (Prod.snd (Prod.snd i)))))) ∧ Q (TV.tup [T1.c (TC.a (AV.x (Value.int IntKind.u64 (Prod.fst (Sp.getF (Prod.fst i) (Int.toNat (Prod.fst (Prod.snd i))) ((10 : Nat) - Int.toNat (Prod.snd (Prod.snd (Prod.snd i)))) (Prod.snd (Prod.snd (Prod.snd i))) (Prod.fst (Prod.snd (Prod.snd i)))))))), T1.c (TC.a (AV.x (Value.int IntKind.i64 (Prod.fst (Prod.snd (Sp.getF (Prod.fst i) (Int.toNat (Prod.fst (Prod.snd i))) ((10 : Nat) - Int.toNat (Prod.snd (Prod.snd (Prod.snd i)))) (Prod.snd (Prod.snd (Prod.snd i))) (Prod.fst (Prod.snd (Prod.snd i))))))))), T1.c (TC.a (AV.x (Value.int IntKind.i64 (Prod.snd (Prod.snd (Sp.getF (Prod.fst i) (Int.toNat (Prod.fst (Prod.snd i))) ((10 : Nat) - Int.toNat (Prod.snd (Prod.snd (Prod.snd i)))) (Prod.snd (Prod.snd (Prod.snd i))) (Prod.fst (Prod.snd (Prod.snd i)))))))))])) (Q (TV.tup [T1.c (TC.a (AV.x (Value.int IntKind.u64 (W.or IntKind.u64 (0 : Int) (W.shl IntKind.u64 (W.wrap IntKind.u64 (W.and IntKind.u8 (W.nth b (W.toNat (W.add IntKind.i64 a (0 : Int))) (0 : Int)) (127 : Int))) (0 : Int)))))), T1.c (TC.a (AV.x (Value.int IntKind.i64 (1 : Int)))), T1.c (TC.a (AV.x (Value.int IntKind.i64 (0 : Int))))])))))))) := by kernel_rfl
theorem nf54s (L : List TCtr) (mk : List Int × Int × Int × Int → TSt) (ψ : List Int × Int × Int × Int → Post → Prop) (μ : List Int × Int × Int × Int → Nat) (b : List Int) (a u n : Int) (Φ : Post) (m : Nat) : wpT Try.prog (knownL L noneK lab54) (restC (bodyOf Try.f54) 0) (mk54 (b, a, u, n)) (jumpK (knownL L noneK lab54) 58 [0, 1, 4, 5, 6, 7, 8] [] [4, 5, 6] [] (scC (bodyOf Try.f54)) 0 mk μ ψ m Φ) = (
  brc (W.ieq (W.add IntKind.i64 a n) (W.ofNat (W.len b))) (Φ AExit.ret (mkS (58 : Nat) [((4 : Nat), TV.int IntKind.u64 (0 : Int)), ((5 : Nat), TV.int IntKind.i64 (0 : Int)), ((6 : Nat), TV.int IntKind.i64 (5 : Int))] [])) (grd (W.ile (0 : Int) (W.add IntKind.i64 a n)) (grd (W.nlt (W.toNat (W.add IntKind.i64 a n)) (W.len b)) (brc (W.ieq n (9 : Int)) (brc (W.igt (W.nth b (W.toNat (W.add IntKind.i64 a n)) (0 : Int)) (1 : Int)) (Φ AExit.ret (mkS (58 : Nat) [((4 : Nat), TV.int IntKind.u64 (0 : Int)), ((5 : Nat), TV.int IntKind.i64 (0 : Int)), ((6 : Nat), TV.int IntKind.i64 (2 : Int))] [])) (brc (W.igt n (0 : Int)) (brc (W.ieq (W.nth b (W.toNat (W.add IntKind.i64 a n)) (0 : Int)) (0 : Int)) (Φ AExit.ret (mkS (58 : Nat) [((4 : Nat), TV.int IntKind.u64 (0 : Int)), ((5 : Nat), TV.int IntKind.i64 (0 : Int)), ((6 : Nat), TV.int IntKind.i64 (2 : Int))] [])) (grd (W.ile (0 : Int) (W.mul IntKind.i64 (7 : Int) n)) (brc (W.ige (W.nth b (W.toNat (W.add IntKind.i64 a n)) (0 : Int)) (128 : Int)) (∃ j, mkS (58 : Nat) [((0 : Nat), TV.l (5 : Nat) (VT.int IntKind.u8) b), ((1 : Nat), TV.int IntKind.i64 a), ((4 : Nat), TV.int IntKind.u64 (0 : Int)), ((5 : Nat), TV.int IntKind.i64 (0 : Int)), ((6 : Nat), TV.int IntKind.i64 (0 : Int)), ((7 : Nat), TV.int IntKind.u64 (W.or IntKind.u64 u (W.shl IntKind.u64 (W.wrap IntKind.u64 (W.and IntKind.u8 (W.nth b (W.toNat (W.add IntKind.i64 a n)) (0 : Int)) (127 : Int))) (W.mul IntKind.i64 (7 : Int) n)))), ((8 : Nat), TV.int IntKind.i64 (W.add IntKind.i64 n (1 : Int)))] [] = mk j ∧ μ j < m ∧ ψ j Φ) (Φ AExit.ret (mkS (58 : Nat) [((4 : Nat), TV.int IntKind.u64 (W.or IntKind.u64 u (W.shl IntKind.u64 (W.wrap IntKind.u64 (W.and IntKind.u8 (W.nth b (W.toNat (W.add IntKind.i64 a n)) (0 : Int)) (127 : Int))) (W.mul IntKind.i64 (7 : Int) n)))), ((5 : Nat), TV.int IntKind.i64 (W.add IntKind.i64 n (1 : Int))), ((6 : Nat), TV.int IntKind.i64 (0 : Int))] []))))) (grd (W.ile (0 : Int) (W.mul IntKind.i64 (7 : Int) n)) (brc (W.ige (W.nth b (W.toNat (W.add IntKind.i64 a n)) (0 : Int)) (128 : Int)) (∃ j, mkS (58 : Nat) [((0 : Nat), TV.l (5 : Nat) (VT.int IntKind.u8) b), ((1 : Nat), TV.int IntKind.i64 a), ((4 : Nat), TV.int IntKind.u64 (0 : Int)), ((5 : Nat), TV.int IntKind.i64 (0 : Int)), ((6 : Nat), TV.int IntKind.i64 (0 : Int)), ((7 : Nat), TV.int IntKind.u64 (W.or IntKind.u64 u (W.shl IntKind.u64 (W.wrap IntKind.u64 (W.and IntKind.u8 (W.nth b (W.toNat (W.add IntKind.i64 a n)) (0 : Int)) (127 : Int))) (W.mul IntKind.i64 (7 : Int) n)))), ((8 : Nat), TV.int IntKind.i64 (W.add IntKind.i64 n (1 : Int)))] [] = mk j ∧ μ j < m ∧ ψ j Φ) (Φ AExit.ret (mkS (58 : Nat) [((4 : Nat), TV.int IntKind.u64 (W.or IntKind.u64 u (W.shl IntKind.u64 (W.wrap IntKind.u64 (W.and IntKind.u8 (W.nth b (W.toNat (W.add IntKind.i64 a n)) (0 : Int)) (127 : Int))) (W.mul IntKind.i64 (7 : Int) n)))), ((5 : Nat), TV.int IntKind.i64 (W.add IntKind.i64 n (1 : Int))), ((6 : Nat), TV.int IntKind.i64 (0 : Int))] [])))))) (brc (W.igt n (0 : Int)) (brc (W.ieq (W.nth b (W.toNat (W.add IntKind.i64 a n)) (0 : Int)) (0 : Int)) (Φ AExit.ret (mkS (58 : Nat) [((4 : Nat), TV.int IntKind.u64 (0 : Int)), ((5 : Nat), TV.int IntKind.i64 (0 : Int)), ((6 : Nat), TV.int IntKind.i64 (2 : Int))] [])) (grd (W.ile (0 : Int) (W.mul IntKind.i64 (7 : Int) n)) (brc (W.ige (W.nth b (W.toNat (W.add IntKind.i64 a n)) (0 : Int)) (128 : Int)) (∃ j, mkS (58 : Nat) [((0 : Nat), TV.l (5 : Nat) (VT.int IntKind.u8) b), ((1 : Nat), TV.int IntKind.i64 a), ((4 : Nat), TV.int IntKind.u64 (0 : Int)), ((5 : Nat), TV.int IntKind.i64 (0 : Int)), ((6 : Nat), TV.int IntKind.i64 (0 : Int)), ((7 : Nat), TV.int IntKind.u64 (W.or IntKind.u64 u (W.shl IntKind.u64 (W.wrap IntKind.u64 (W.and IntKind.u8 (W.nth b (W.toNat (W.add IntKind.i64 a n)) (0 : Int)) (127 : Int))) (W.mul IntKind.i64 (7 : Int) n)))), ((8 : Nat), TV.int IntKind.i64 (W.add IntKind.i64 n (1 : Int)))] [] = mk j ∧ μ j < m ∧ ψ j Φ) (Φ AExit.ret (mkS (58 : Nat) [((4 : Nat), TV.int IntKind.u64 (W.or IntKind.u64 u (W.shl IntKind.u64 (W.wrap IntKind.u64 (W.and IntKind.u8 (W.nth b (W.toNat (W.add IntKind.i64 a n)) (0 : Int)) (127 : Int))) (W.mul IntKind.i64 (7 : Int) n)))), ((5 : Nat), TV.int IntKind.i64 (W.add IntKind.i64 n (1 : Int))), ((6 : Nat), TV.int IntKind.i64 (0 : Int))] []))))) (grd (W.ile (0 : Int) (W.mul IntKind.i64 (7 : Int) n)) (brc (W.ige (W.nth b (W.toNat (W.add IntKind.i64 a n)) (0 : Int)) (128 : Int)) (∃ j, mkS (58 : Nat) [((0 : Nat), TV.l (5 : Nat) (VT.int IntKind.u8) b), ((1 : Nat), TV.int IntKind.i64 a), ((4 : Nat), TV.int IntKind.u64 (0 : Int)), ((5 : Nat), TV.int IntKind.i64 (0 : Int)), ((6 : Nat), TV.int IntKind.i64 (0 : Int)), ((7 : Nat), TV.int IntKind.u64 (W.or IntKind.u64 u (W.shl IntKind.u64 (W.wrap IntKind.u64 (W.and IntKind.u8 (W.nth b (W.toNat (W.add IntKind.i64 a n)) (0 : Int)) (127 : Int))) (W.mul IntKind.i64 (7 : Int) n)))), ((8 : Nat), TV.int IntKind.i64 (W.add IntKind.i64 n (1 : Int)))] [] = mk j ∧ μ j < m ∧ ψ j Φ) (Φ AExit.ret (mkS (58 : Nat) [((4 : Nat), TV.int IntKind.u64 (W.or IntKind.u64 u (W.shl IntKind.u64 (W.wrap IntKind.u64 (W.and IntKind.u8 (W.nth b (W.toNat (W.add IntKind.i64 a n)) (0 : Int)) (127 : Int))) (W.mul IntKind.i64 (7 : Int) n)))), ((5 : Nat), TV.int IntKind.i64 (W.add IntKind.i64 n (1 : Int))), ((6 : Nat), TV.int IntKind.i64 (0 : Int))] []))))))))) := by kernel_rfl
def mk59 (i : List Int × Int × Int × Int) : TSt := mkS 62 [(0, TV.l 5 (.int .u8) i.1), (1, TV.int .i64 i.2.1), (4, TV.int .u64 0), (5, TV.int .i64 0), (6, TV.int .i64 0), (7, TV.int .u64 i.2.2.1), (8, TV.int .i64 i.2.2.2)] []
def psi59 (i : List Int × Int × Int × Int) (Φ : Post) : Prop := preGet i ∧ Φ .ret (mkS 62 [(4, TV.int .u64 (resGet i).1), (5, TV.int .i64 (resGet i).2.1), (6, TV.int .i64 (resGet i).2.2)] [])
def blk59 : Nat → Option Piece := one 0 (loopP 62 [0, 1, 4, 5, 6, 7, 8] [] mk59 psi59)
theorem nf59 (L : List TCtr) (b : List Int) (a : Int) (Q : TV → Prop) : wpFn Try.prog (knownL L blk59 noneK) Try.f59 [.c (.sl 5 (.int .u8) (.mk b)), .c (.a (.x (.int .i64 a)))] Q = (
  brc (W.ilt a (0 : Int)) (Q (TV.tup [T1.c (TC.a (AV.x (Value.int IntKind.u64 (0 : Int)))), T1.c (TC.a (AV.x (Value.int IntKind.i64 (0 : Int)))), T1.c (TC.a (AV.x (Value.int IntKind.i64 (1 : Int))))])) (brc (W.igt a (W.ofNat (W.len b))) (Q (TV.tup [T1.c (TC.a (AV.x (Value.int IntKind.u64 (0 : Int)))), T1.c (TC.a (AV.x (Value.int IntKind.i64 (0 : Int)))), T1.c (TC.a (AV.x (Value.int IntKind.i64 (1 : Int))))])) (∃ i, mkS (62 : Nat) [((0 : Nat), TV.l (5 : Nat) (VT.int IntKind.u8) b), ((1 : Nat), TV.int IntKind.i64 a), ((4 : Nat), TV.int IntKind.u64 (0 : Int)), ((5 : Nat), TV.int IntKind.i64 (0 : Int)), ((6 : Nat), TV.int IntKind.i64 (0 : Int)), ((7 : Nat), TV.int IntKind.u64 (0 : Int)), ((8 : Nat), TV.int IntKind.i64 (0 : Int))] [] = mkS (62 : Nat) [((0 : Nat), TV.l (5 : Nat) (VT.int IntKind.u8) (asT (List Int) (Prod.fst i))), ((1 : Nat), TV.int IntKind.i64 (Prod.fst (Prod.snd i))), ((4 : Nat), TV.int IntKind.u64 (0 : Int)), ((5 : Nat), TV.int IntKind.i64 (0 : Int)), ((6 : Nat), TV.int IntKind.i64 (0 : Int)), ((7 : Nat), TV.int IntKind.u64 (Prod.fst (Prod.snd (Prod.snd i)))), ((8 : Nat), TV.int IntKind.i64 (Prod.snd (Prod.snd (Prod.snd i))))] [] ∧ (Sp.bytes (Prod.fst i) ∧ List.length (Prod.fst i) < (4611686018427387904 : Nat) ∧ (0 : Int) ≤ Prod.fst (Prod.snd i) ∧ (0 : Int) ≤ Prod.snd (Prod.snd (Prod.snd i)) ∧ Prod.snd (Prod.snd (Prod.snd i)) ≤ (9 : Int) ∧ Prod.fst (Prod.snd i) + Prod.snd (Prod.snd (Prod.snd i)) ≤ Int.ofNat (List.length (Prod.fst i)) ∧ (0 : Int) ≤ Prod.fst (Prod.snd (Prod.snd i)) ∧ Prod.fst (Prod.snd (Prod.snd i)) < Int.ofNat (Nat.pow (128 : Nat) (Int.toNat (Prod.snd (Prod.snd (Prod.snd i)))))) ∧ Q (TV.tup [T1.c (TC.a (AV.x (Value.int IntKind.u64 (Prod.fst (Sp.getF (Prod.fst i) (Int.toNat (Prod.fst (Prod.snd i))) ((10 : Nat) - Int.toNat (Prod.snd (Prod.snd (Prod.snd i)))) (Prod.snd (Prod.snd (Prod.snd i))) (Prod.fst (Prod.snd (Prod.snd i)))))))), T1.c (TC.a (AV.x (Value.int IntKind.i64 (Prod.fst (Prod.snd (Sp.getF (Prod.fst i) (Int.toNat (Prod.fst (Prod.snd i))) ((10 : Nat) - Int.toNat (Prod.snd (Prod.snd (Prod.snd i)))) (Prod.snd (Prod.snd (Prod.snd i))) (Prod.fst (Prod.snd (Prod.snd i))))))))), T1.c (TC.a (AV.x (Value.int IntKind.i64 (Prod.snd (Prod.snd (Sp.getF (Prod.fst i) (Int.toNat (Prod.fst (Prod.snd i))) ((10 : Nat) - Int.toNat (Prod.snd (Prod.snd (Prod.snd i)))) (Prod.snd (Prod.snd (Prod.snd i))) (Prod.fst (Prod.snd (Prod.snd i)))))))))])))) := by kernel_rfl
theorem nf59s (L : List TCtr) (mk : List Int × Int × Int × Int → TSt) (ψ : List Int × Int × Int × Int → Post → Prop) (μ : List Int × Int × Int × Int → Nat) (b : List Int) (a u n : Int) (Φ : Post) (m : Nat) : wpT Try.prog (knownL L blk59 noneK) (loopOf (blkC (bodyOf Try.f59) 0)) (mk59 (b, a, u, n)) (stepK 62 [0, 1, 4, 5, 6, 7, 8] [] [4, 5, 6] [] 0 mk μ ψ m Φ) = (
  brc (W.ilt n (10 : Int)) (brc (W.ile (W.sub IntKind.i64 (W.ofNat (W.len b)) a) n) (Φ AExit.ret (mkS (62 : Nat) [((4 : Nat), TV.int IntKind.u64 (0 : Int)), ((5 : Nat), TV.int IntKind.i64 (0 : Int)), ((6 : Nat), TV.int IntKind.i64 (5 : Int))] [])) (grd (W.ile (0 : Int) (W.add IntKind.i64 a n)) (grd (W.nlt (W.toNat (W.add IntKind.i64 a n)) (W.len b)) (brc (W.ieq n (9 : Int)) (brc (W.igt (W.nth b (W.toNat (W.add IntKind.i64 a n)) (0 : Int)) (1 : Int)) (Φ AExit.ret (mkS (62 : Nat) [((4 : Nat), TV.int IntKind.u64 (0 : Int)), ((5 : Nat), TV.int IntKind.i64 (0 : Int)), ((6 : Nat), TV.int IntKind.i64 (2 : Int))] [])) (brc (W.igt n (0 : Int)) (brc (W.ieq (W.nth b (W.toNat (W.add IntKind.i64 a n)) (0 : Int)) (0 : Int)) (Φ AExit.ret (mkS (62 : Nat) [((4 : Nat), TV.int IntKind.u64 (0 : Int)), ((5 : Nat), TV.int IntKind.i64 (0 : Int)), ((6 : Nat), TV.int IntKind.i64 (2 : Int))] [])) (grd (W.ile (0 : Int) (W.wrap IntKind.u64 (W.mul IntKind.i64 (7 : Int) n))) (brc (W.ilt (W.nth b (W.toNat (W.add IntKind.i64 a n)) (0 : Int)) (128 : Int)) (Φ AExit.ret (mkS (62 : Nat) [((4 : Nat), TV.int IntKind.u64 (W.or IntKind.u64 u (W.shl IntKind.u64 (W.wrap IntKind.u64 (W.and IntKind.u8 (W.nth b (W.toNat (W.add IntKind.i64 a n)) (0 : Int)) (127 : Int))) (W.wrap IntKind.u64 (W.mul IntKind.i64 (7 : Int) n))))), ((5 : Nat), TV.int IntKind.i64 (W.add IntKind.i64 n (1 : Int))), ((6 : Nat), TV.int IntKind.i64 (0 : Int))] [])) (∃ j, mkS (62 : Nat) [((0 : Nat), TV.l (5 : Nat) (VT.int IntKind.u8) b), ((1 : Nat), TV.int IntKind.i64 a), ((4 : Nat), TV.int IntKind.u64 (0 : Int)), ((5 : Nat), TV.int IntKind.i64 (0 : Int)), ((6 : Nat), TV.int IntKind.i64 (0 : Int)), ((7 : Nat), TV.int IntKind.u64 (W.or IntKind.u64 u (W.shl IntKind.u64 (W.wrap IntKind.u64 (W.and IntKind.u8 (W.nth b (W.toNat (W.add IntKind.i64 a n)) (0 : Int)) (127 : Int))) (W.wrap IntKind.u64 (W.mul IntKind.i64 (7 : Int) n))))), ((8 : Nat), TV.int IntKind.i64 (W.add IntKind.i64 n (1 : Int)))] [] = mk j ∧ μ j < m ∧ ψ j Φ)))) (grd (W.ile (0 : Int) (W.wrap IntKind.u64 (W.mul IntKind.i64 (7 : Int) n))) (brc (W.ilt (W.nth b (W.toNat (W.add IntKind.i64 a n)) (0 : Int)) (128 : Int)) (Φ AExit.ret (mkS (62 : Nat) [((4 : Nat), TV.int IntKind.u64 (W.or IntKind.u64 u (W.shl IntKind.u64 (W.wrap IntKind.u64 (W.and IntKind.u8 (W.nth b (W.toNat (W.add IntKind.i64 a n)) (0 : Int)) (127 : Int))) (W.wrap IntKind.u64 (W.mul IntKind.i64 (7 : Int) n))))), ((5 : Nat), TV.int IntKind.i64 (W.add IntKind.i64 n (1 : Int))), ((6 : Nat), TV.int IntKind.i64 (0 : Int))] [])) (∃ j, mkS (62 : Nat) [((0 : Nat), TV.l (5 : Nat) (VT.int IntKind.u8) b), ((1 : Nat), TV.int IntKind.i64 a), ((4 : Nat), TV.int IntKind.u64 (0 : Int)), ((5 : Nat), TV.int IntKind.i64 (0 : Int)), ((6 : Nat), TV.int IntKind.i64 (0 : Int)), ((7 : Nat), TV.int IntKind.u64 (W.or IntKind.u64 u (W.shl IntKind.u64 (W.wrap IntKind.u64 (W.and IntKind.u8 (W.nth b (W.toNat (W.add IntKind.i64 a n)) (0 : Int)) (127 : Int))) (W.wrap IntKind.u64 (W.mul IntKind.i64 (7 : Int) n))))), ((8 : Nat), TV.int IntKind.i64 (W.add IntKind.i64 n (1 : Int)))] [] = mk j ∧ μ j < m ∧ ψ j Φ))))) (brc (W.igt n (0 : Int)) (brc (W.ieq (W.nth b (W.toNat (W.add IntKind.i64 a n)) (0 : Int)) (0 : Int)) (Φ AExit.ret (mkS (62 : Nat) [((4 : Nat), TV.int IntKind.u64 (0 : Int)), ((5 : Nat), TV.int IntKind.i64 (0 : Int)), ((6 : Nat), TV.int IntKind.i64 (2 : Int))] [])) (grd (W.ile (0 : Int) (W.wrap IntKind.u64 (W.mul IntKind.i64 (7 : Int) n))) (brc (W.ilt (W.nth b (W.toNat (W.add IntKind.i64 a n)) (0 : Int)) (128 : Int)) (Φ AExit.ret (mkS (62 : Nat) [((4 : Nat), TV.int IntKind.u64 (W.or IntKind.u64 u (W.shl IntKind.u64 (W.wrap IntKind.u64 (W.and IntKind.u8 (W.nth b (W.toNat (W.add IntKind.i64 a n)) (0 : Int)) (127 : Int))) (W.wrap IntKind.u64 (W.mul IntKind.i64 (7 : Int) n))))), ((5 : Nat), TV.int IntKind.i64 (W.add IntKind.i64 n (1 : Int))), ((6 : Nat), TV.int IntKind.i64 (0 : Int))] [])) (∃ j, mkS (62 : Nat) [((0 : Nat), TV.l (5 : Nat) (VT.int IntKind.u8) b), ((1 : Nat), TV.int IntKind.i64 a), ((4 : Nat), TV.int IntKind.u64 (0 : Int)), ((5 : Nat), TV.int IntKind.i64 (0 : Int)), ((6 : Nat), TV.int IntKind.i64 (0 : Int)), ((7 : Nat), TV.int IntKind.u64 (W.or IntKind.u64 u (W.shl IntKind.u64 (W.wrap IntKind.u64 (W.and IntKind.u8 (W.nth b (W.toNat (W.add IntKind.i64 a n)) (0 : Int)) (127 : Int))) (W.wrap IntKind.u64 (W.mul IntKind.i64 (7 : Int) n))))), ((8 : Nat), TV.int IntKind.i64 (W.add IntKind.i64 n (1 : Int)))] [] = mk j ∧ μ j < m ∧ ψ j Φ)))) (grd (W.ile (0 : Int) (W.wrap IntKind.u64 (W.mul IntKind.i64 (7 : Int) n))) (brc (W.ilt (W.nth b (W.toNat (W.add IntKind.i64 a n)) (0 : Int)) (128 : Int)) (Φ AExit.ret (mkS (62 : Nat) [((4 : Nat), TV.int IntKind.u64 (W.or IntKind.u64 u (W.shl IntKind.u64 (W.wrap IntKind.u64 (W.and IntKind.u8 (W.nth b (W.toNat (W.add IntKind.i64 a n)) (0 : Int)) (127 : Int))) (W.wrap IntKind.u64 (W.mul IntKind.i64 (7 : Int) n))))), ((5 : Nat), TV.int IntKind.i64 (W.add IntKind.i64 n (1 : Int))), ((6 : Nat), TV.int IntKind.i64 (0 : Int))] [])) (∃ j, mkS (62 : Nat) [((0 : Nat), TV.l (5 : Nat) (VT.int IntKind.u8) b), ((1 : Nat), TV.int IntKind.i64 a), ((4 : Nat), TV.int IntKind.u64 (0 : Int)), ((5 : Nat), TV.int IntKind.i64 (0 : Int)), ((6 : Nat), TV.int IntKind.i64 (0 : Int)), ((7 : Nat), TV.int IntKind.u64 (W.or IntKind.u64 u (W.shl IntKind.u64 (W.wrap IntKind.u64 (W.and IntKind.u8 (W.nth b (W.toNat (W.add IntKind.i64 a n)) (0 : Int)) (127 : Int))) (W.wrap IntKind.u64 (W.mul IntKind.i64 (7 : Int) n))))), ((8 : Nat), TV.int IntKind.i64 (W.add IntKind.i64 n (1 : Int)))] [] = mk j ∧ μ j < m ∧ ψ j Φ)))))))) (Φ AExit.normal (mkS (62 : Nat) [((4 : Nat), TV.int IntKind.u64 (0 : Int)), ((5 : Nat), TV.int IntKind.i64 (0 : Int)), ((6 : Nat), TV.int IntKind.i64 (0 : Int))] []))) := by kernel_rfl
theorem nf53 (L : List TCtr) (b : List Int) (a : Int) (Q : TV → Prop) : wpFn Try.prog (knownL L noneK noneK) Try.f53 [.c (.sl 5 (.int .u8) (.mk b)), .c (.a (.x (.int .i64 a)))] Q = (
  brc (W.ilt a (0 : Int)) (Q (TV.tup [T1.c (TC.a (AV.x (Value.int IntKind.u32 (0 : Int)))), T1.c (TC.a (AV.x (Value.int IntKind.i64 (0 : Int)))), T1.c (TC.a (AV.x (Value.int IntKind.i64 (1 : Int))))])) (brc (W.igt a (W.ofNat (W.len b))) (Q (TV.tup [T1.c (TC.a (AV.x (Value.int IntKind.u32 (0 : Int)))), T1.c (TC.a (AV.x (Value.int IntKind.i64 (0 : Int)))), T1.c (TC.a (AV.x (Value.int IntKind.i64 (1 : Int))))])) (brc (W.ilt (W.sub IntKind.i64 (W.ofNat (W.len b)) a) (4 : Int)) (Q (TV.tup [T1.c (TC.a (AV.x (Value.int IntKind.u32 (0 : Int)))), T1.c (TC.a (AV.x (Value.int IntKind.i64 (0 : Int)))), T1.c (TC.a (AV.x (Value.int IntKind.i64 (5 : Int))))])) (grd (W.ile (0 : Int) a) (grd (W.nlt (W.toNat a) (W.len b)) (grd (W.ile (0 : Int) (W.add IntKind.i64 a (1 : Int))) (grd (W.nlt (W.toNat (W.add IntKind.i64 a (1 : Int))) (W.len b)) (grd (W.ile (0 : Int) (W.add IntKind.i64 a (2 : Int))) (grd (W.nlt (W.toNat (W.add IntKind.i64 a (2 : Int))) (W.len b)) (grd (W.ile (0 : Int) (W.add IntKind.i64 a (3 : Int))) (grd (W.nlt (W.toNat (W.add IntKind.i64 a (3 : Int))) (W.len b)) (Q (TV.tup [T1.c (TC.a (AV.x (Value.int IntKind.u32 (W.or IntKind.u32 (W.or IntKind.u32 (W.or IntKind.u32 (W.wrap IntKind.u32 (W.nth b (W.toNat a) (0 : Int))) (W.shl IntKind.u32 (W.wrap IntKind.u32 (W.nth b (W.toNat (W.add IntKind.i64 a (1 : Int))) (0 : Int))) (8 : Int))) (W.shl IntKind.u32 (W.wrap IntKind.u32 (W.nth b (W.toNat (W.add IntKind.i64 a (2 : Int))) (0 : Int))) (16 : Int))) (W.shl IntKind.u32 (W.wrap IntKind.u32 (W.nth b (W.toNat (W.add IntKind.i64 a (3 : Int))) (0 : Int))) (24 : Int)))))), T1.c (TC.a (AV.x (Value.int IntKind.i64 (4 : Int)))), T1.c (TC.a (AV.x (Value.int IntKind.i64 (0 : Int))))]))))))))))))) := by kernel_rfl
theorem nf58 (L : List TCtr) (b : List Int) (a : Int) (Q : TV → Prop) : wpFn Try.prog (knownL L noneK noneK) Try.f58 [.c (.sl 5 (.int .u8) (.mk b)), .c (.a (.x (.int .i64 a)))] Q = (
  brc (W.ilt a (0 : Int)) (Q (TV.tup [T1.c (TC.a (AV.x (Value.int IntKind.u32 (0 : Int)))), T1.c (TC.a (AV.x (Value.int IntKind.i64 (0 : Int)))), T1.c (TC.a (AV.x (Value.int IntKind.i64 (1 : Int))))])) (brc (W.igt a (W.ofNat (W.len b))) (Q (TV.tup [T1.c (TC.a (AV.x (Value.int IntKind.u32 (0 : Int)))), T1.c (TC.a (AV.x (Value.int IntKind.i64 (0 : Int)))), T1.c (TC.a (AV.x (Value.int IntKind.i64 (1 : Int))))])) (brc (W.ilt (W.sub IntKind.i64 (W.ofNat (W.len b)) a) (4 : Int)) (Q (TV.tup [T1.c (TC.a (AV.x (Value.int IntKind.u32 (0 : Int)))), T1.c (TC.a (AV.x (Value.int IntKind.i64 (0 : Int)))), T1.c (TC.a (AV.x (Value.int IntKind.i64 (5 : Int))))])) (grd (W.ile (0 : Int) a) (grd (W.nlt (W.toNat a) (W.len b)) (grd (W.ile (0 : Int) (W.add IntKind.i64 a (1 : Int))) (grd (W.nlt (W.toNat (W.add IntKind.i64 a (1 : Int))) (W.len b)) (grd (W.ile (0 : Int) (W.add IntKind.i64 a (2 : Int))) (grd (W.nlt (W.toNat (W.add IntKind.i64 a (2 : Int))) (W.len b)) (grd (W.ile (0 : Int) (W.add IntKind.i64 a (3 : Int))) (grd (W.nlt (W.toNat (W.add IntKind.i64 a (3 : Int))) (W.len b)) (Q (TV.tup [T1.c (TC.a (AV.x (Value.int IntKind.u32 (W.or IntKind.u32 (W.or IntKind.u32 (W.or IntKind.u32 (W.wrap IntKind.u32 (W.nth b (W.toNat a) (0 : Int))) (W.shl IntKind.u32 (W.wrap IntKind.u32 (W.nth b (W.toNat (W.add IntKind.i64 a (1 : Int))) (0 : Int))) (8 : Int))) (W.shl IntKind.u32 (W.wrap IntKind.u32 (W.nth b (W.toNat (W.add IntKind.i64 a (2 : Int))) (0 : Int))) (16 : Int))) (W.shl IntKind.u32 (W.wrap IntKind.u32 (W.nth b (W.toNat (W.add IntKind.i64 a (3 : Int))) (0 : Int))) (24 : Int)))))), T1.c (TC.a (AV.x (Value.int IntKind.i64 (4 : Int)))), T1.c (TC.a (AV.x (Value.int IntKind.i64 (0 : Int))))]))))))))))))) := by kernel_rfl
theorem nf51 (L : List TCtr) (b : List Int) (a : Int) (Q : TV → Prop) : wpFn Try.prog (knownL L noneK noneK) Try.f51 [.c (.sl 5 (.int .u8) (.mk b)), .c (.a (.x (.int .u32 a)))] Q = (
  grd (W.ile (W.ofNat (W.len b)) (W.add IntKind.i64 (W.ofNat (W.len b)) (4 : Int))) (grd (W.ile (W.add IntKind.i64 (W.ofNat (W.len b)) (4 : Int)) (9223372036854775807 : Int)) (grd (W.ile (W.bys (1 : Nat) (W.add IntKind.i64 (W.ofNat (W.len b)) (4 : Int))) (281474976710656 : Int)) (grd (W.nle (W.nmul (W.nadd (W.len (W.app (W.take (W.nmin (W.len b) (W.len (W.rep (W.toNat (W.ofNat (W.len b))) (0 : Int)))) b) (W.drop (W.nmin (W.len b) (W.len (W.rep (W.toNat (W.ofNat (W.len b))) (0 : Int)))) (W.rep (W.toNat (W.ofNat (W.len b))) (0 : Int))))) (W.len [W.wrap IntKind.u8 a, W.wrap IntKind.u8 (W.shr IntKind.u32 a (8 : Int)), W.wrap IntKind.u8 (W.shr IntKind.u32 a (16 : Int)), W.wrap IntKind.u8 (W.shr IntKind.u32 a (24 : Int))])) (1 : Nat)) (140737488355328 : Nat)) (Q (TV.o (T1.own (5 : Nat) (VT.int IntKind.u8) (asT (List Int) (W.app (W.app (W.take (W.nmin (W.len b) (W.len (W.rep (W.toNat (W.ofNat (W.len b))) (0 : Int)))) b) (W.drop (W.nmin (W.len b) (W.len (W.rep (W.toNat (W.ofNat (W.len b))) (0 : Int)))) (W.rep (W.toNat (W.ofNat (W.len b))) (0 : Int)))) [W.wrap IntKind.u8 a, W.wrap IntKind.u8 (W.shr IntKind.u32 a (8 : Int)), W.wrap IntKind.u8 (W.shr IntKind.u32 a (16 : Int)), W.wrap IntKind.u8 (W.shr IntKind.u32 a (24 : Int))]))))))))) := by kernel_rfl
def ctr55 : TCtr := .det 55 [.l 5 (.int .u8), .v (.int .u64)] (fun (d : List Int × Int × Unit) => 0 ≤ d.2.1 ∧ d.2.1 < 18446744073709551616 ∧ d.1.length < 100000) (fun (d : List Int × Int × Unit) => .o (.own 5 (.int .u8) (d.1 ++ Sp.enc d.2.1))) fun _ => rfl
theorem good55 {L : List TCtr} (hL : Goods Try.prog L) : GoodC Try.prog ctr55 := by
  refine good_loop (fn := Try.f55) [1, 4, 5] [6] (fun i : Int × List Int => i.1.toNat) wide hL ⟨by kernel_rfl, by kernel_rfl, by kernel_rfl, by kernel_rfl⟩ (by kernel_rfl) (by kernel_rfl) (by kernel_rfl) (by kernel_rfl) (n := 24) (ls := [1, 4, 5]) (ks := [6]) (mk := mk55) (ψ := psi55) (id := 0) ?_ ?_
  · rintro ⟨u, xs⟩ Φ ⟨⟨h0, h1, h2⟩, hΦ⟩
    refine Eq.mpr (nf55s L _ u xs Φ _) ?_
    simp only [asT] at h0 h1 h2 hΦ ⊢
    refine brc_ige (fun h => ?_) fun h => ?_
    · have hl : (Sp.enc u).length = 1 + (Sp.enc (u / 128)).length := by rw [Sp.enc_high h0 h]; simp; omega
      refine grd_nle (by simp [W.nmul, W.nadd, W.len]; omega) ?_
      rw [Sp.or_u8 h0, Sp.shr7]
      rw [Sp.enc_high h0 h] at hΦ
      refine ⟨(u / 128, xs ++ [u % 128 + 128]), rfl, ?_, ⟨?_, ?_, ?_⟩, fun v ys hv0 hv1 hv => hΦ v ys hv0 hv1 (hv.trans ?_)⟩
      · show (u / 128).toNat < u.toNat; omega
      · show 0 ≤ u / 128; omega
      · show u / 128 < _; omega
      · show (xs ++ [u % 128 + 128]).length + (Sp.enc (u / 128)).length < 1000000; simp; omega
      · show (xs ++ [u % 128 + 128]) ++ Sp.enc (u / 128) = _
        rw [List.append_assoc]; rfl
    · exact hΦ u xs h0 h (by rw [Sp.enc_low h0 h])
  · intro d hd
    obtain ⟨b, u, x⟩ : List Int × Int × Unit := d
    obtain ⟨h0, h1, h2⟩ : 0 ≤ u ∧ u < 18446744073709551616 ∧ b.length < 100000 := hd
    refine Eq.mpr (nf55 L b u _) ?_
    have := (Sp.enc_len h0 h1).2
    refine grd_nle (by simp [W.nmul, W.nadd, W.len]; omega) ⟨(u, b), rfl, ⟨h0, h1, ?_⟩, fun v ys hv0 hv1 hv => ?_⟩
    · show b.length + (Sp.enc u).length < 1000000; omega
    · have hv : ys ++ [v] = b ++ Sp.enc u := hv
      have hl : ys.length + 1 = b.length + (Sp.enc u).length := by have := congrArg List.length hv; simpa using this
      refine grd_nle (by simp [W.nmul, W.nadd, W.len]; omega) ?_
      rw [Sp.wrap_low hv0 hv1]
      show TV.o (T1.own 5 (VT.int .u8) (ys ++ [v])) = TV.o (T1.own 5 (VT.int .u8) (b ++ Sp.enc u))
      rw [hv]
def outGet (d : List Int × Int × Unit) : TV := .tup [.c (.a (.x (.int .u64 (Sp.get d.1 d.2.1).1))), .c (.a (.x (.int .i64 (Sp.get d.1 d.2.1).2.1))), .c (.a (.x (.int .i64 (Sp.get d.1 d.2.1).2.2)))]
def preG (d : List Int × Int × Unit) : Prop := Sp.bytes d.1 ∧ d.1.length < 4611686018427387904 ∧ -9223372036854775808 ≤ d.2.1 ∧ d.2.1 < 9223372036854775808
def ctr59 : TCtr := .det 59 [.l 5 (.int .u8), .v (.int .i64)] preG outGet fun _ => rfl
def ctr54 : TCtr := .det 54 [.l 5 (.int .u8), .v (.int .i64)] preG outGet fun _ => rfl
theorem good59 {L : List TCtr} (hL : Goods Try.prog L) : GoodC Try.prog ctr59 := by
  refine good_loop (fn := Try.f59) [4, 5, 6] [] (fun i : List Int × Int × Int × Int => 10 - i.2.2.2.toNat) wide hL ⟨by kernel_rfl, by kernel_rfl, by kernel_rfl, by kernel_rfl⟩ (by kernel_rfl) (by kernel_rfl) (by kernel_rfl) (by kernel_rfl) (n := 62) (ls := [0, 1, 4, 5, 6, 7, 8]) (ks := []) (mk := mk59) (ψ := psi59) (id := 0) ?_ ?_
  · rintro ⟨b, a, u, n⟩ Φ ⟨⟨hb, hl, ha, hn0, hn9, hle, hu0, hu⟩, hΦ⟩
    refine Eq.mpr (nf59s L _ _ _ b a u n Φ _) ?_
    simp only at hb hl ha hn0 hn9 hle hu0 hu
    obtain ⟨N, rfl⟩ : ∃ N : Nat, n = N := ⟨n.toNat, by omega⟩
    obtain ⟨A, rfl⟩ : ∃ A : Nat, a = A := ⟨a.toNat, by omega⟩
    have e1 : W.add .i64 (A : Int) N = A + N := W.add_i64 (by omega) (by omega)
    have e2 : W.sub .i64 (W.ofNat (W.len b)) A = (b.length : Int) - A := W.sub_i64 (by simp only [W.ofNat, W.len]; omega) (by simp only [W.ofNat, W.len]; omega)
    have e3 : W.mul .i64 7 (N : Int) = 7 * (N : Int) := W.mul_i64 (by omega) (by omega)
    have e4 : W.wrap .u64 (7 * (N : Int)) = 7 * (N : Int) := W.wu64_in (by omega) (by omega)
    have e5 : W.toNat ((A : Int) + N) = A + N := by simp only [W.toNat]; omega
    have e6 : W.add .i64 (N : Int) 1 = N + 1 := W.add_i64 (by omega) (by omega)
    obtain ⟨c0, c1⟩ := Sp.bytes_get hb (A + N)
    have e7 : W.nth b (A + N) 0 = b.getD (A + N) 0 := rfl
    simp only [e1, e2, e3, e4, e5, e6, e7]
    have hk : 10 - N = (9 - N) + 1 := by omega
    have hres : resGet (b, (A : Int), u, (N : Int)) = Sp.getF b A ((9 - N) + 1) N u := by
      show Sp.getF b (A : Int).toNat (10 - (N : Int).toNat) N u = _
      simp only [Int.toNat_natCast, hk]
    rw [hres] at hΦ
    simp only [Int.toNat_natCast] at hu
    have key : (A : Int) + N ≠ b.length → ¬ (((N : Int) = 9 ∧ 1 < b.getD (A + N) 0) ∨ (0 < (N : Int) ∧ b.getD (A + N) 0 = 0)) → grd (W.ile 0 (7 * (N : Int))) (brc (W.ilt (b.getD (A + N) 0) 128)
        (Φ AExit.ret (mkS 62 [(4, TV.int .u64 (W.or .u64 u (W.shl .u64 (W.wrap .u64 (W.and .u8 (b.getD (A + N) 0) 127)) (7 * (N : Int))))), (5, TV.int .i64 ((N : Int) + 1)), (6, TV.int .i64 0)] []))
        (∃ j, mkS 62 [(0, TV.l 5 (VT.int .u8) b), (1, TV.int .i64 (A : Int)), (4, TV.int .u64 0), (5, TV.int .i64 0), (6, TV.int .i64 0), (7, TV.int .u64 (W.or .u64 u (W.shl .u64 (W.wrap .u64 (W.and .u8 (b.getD (A + N) 0) 127)) (7 * (N : Int))))), (8, TV.int .i64 ((N : Int) + 1))] [] = mk59 j ∧ (fun i : List Int × Int × Int × Int => 10 - i.2.2.2.toNat) j < (fun i : List Int × Int × Int × Int => 10 - i.2.2.2.toNat) (b, (A : Int), u, (N : Int)) ∧ psi59 j Φ)) := by
      intro hne hno
      have hno2 : ¬ (((N : Int) = 9 ∧ 1 < b.getD (A + (N : Int).toNat) 0) ∨ (0 < (N : Int) ∧ b.getD (A + (N : Int).toNat) 0 = 0)) := by simpa only [Int.toNat_natCast] using hno
      have h9 : N = 9 → b.getD (A + N) 0 ≤ 1 := fun h => by
        by_cases h1 : 1 < b.getD (A + N) 0
        · exact absurd (.inl ⟨by omega, h1⟩) hno
        · omega
      rw [Sp.step_u c0 c1 (by omega) hu0 hu h9 _ rfl]
      obtain ⟨b0, b1, b2⟩ := Sp.step_bound c0 (by omega) hu0 hu (fun h => by have := h9 h; omega)
      refine grd_ile (by omega) (brc_ilt (fun h => ?_) fun h => ?_)
      · rw [Sp.getF_done hne hno2 (by simpa only [Int.toNat_natCast] using h)] at hΦ
        simpa only [Int.toNat_natCast] using hΦ
      · rw [Sp.getF_more hne hno2 (by simpa only [Int.toNat_natCast] using h)] at hΦ
        simp only [Int.toNat_natCast] at hΦ
        have hN : N ≤ 8 := by
          by_cases hN : N = 9
          · have := h9 hN; omega
          · omega
        refine ⟨(b, (A : Int), u + (b.getD (A + N) 0 % 128) * 128 ^ N, (N : Int) + 1), rfl, ?_, ⟨hb, hl, ?_, ?_, ?_, ?_, ?_, ?_⟩, ?_⟩
        · show 10 - ((N : Int) + 1).toNat < 10 - (N : Int).toNat; omega
        · show (0 : Int) ≤ A; omega
        · show (0 : Int) ≤ (N : Int) + 1; omega
        · show (N : Int) + 1 ≤ 9; omega
        · show (A : Int) + (N + 1) ≤ b.length; omega
        · show 0 ≤ u + (b.getD (A + N) 0 % 128) * 128 ^ N; omega
        · show u + (b.getD (A + N) 0 % 128) * 128 ^ N < 128 ^ ((N : Int) + 1).toNat
          have : ((N : Int) + 1).toNat = N + 1 := by omega
          rw [this]; exact b2 hN
        · have hr : resGet (b, (A : Int), u + (b.getD (A + N) 0 % 128) * 128 ^ N, (N : Int) + 1) = Sp.getF b A (9 - N) (N + 1) (u + (b.getD (A + N) 0 % 128) * 128 ^ N) := by
            show Sp.getF b (A : Int).toNat (10 - ((N : Int) + 1).toNat) _ _ = _
            have : 10 - ((N : Int) + 1).toNat = 9 - N := by omega
            rw [this, Int.toNat_natCast]
          rw [hr]; exact hΦ
    refine brc_ilt (fun _ => ?_) fun h => absurd h (by omega)
    refine brc_ile (fun h => ?_) fun h => ?_
    · rw [Sp.getF_short (by omega)] at hΦ; exact hΦ
    have hne : (A : Int) + N ≠ b.length := by omega
    refine grd_ile (by omega) (grd_nlt (by simp only [W.len]; omega) ?_)
    have form : (((N : Int) = 9 ∧ 1 < b.getD (A + N) 0) ∨ (0 < (N : Int) ∧ b.getD (A + N) 0 = 0)) → Φ AExit.ret (mkS 62 [(4, TV.int .u64 0), (5, TV.int .i64 0), (6, TV.int .i64 2)] []) := by
      intro h
      rw [Sp.getF_form hne (by simpa only [Int.toNat_natCast] using h)] at hΦ; exact hΦ
    refine brc_ieq (fun h9 => ?_) fun h9 => ?_
    · refine brc_igt (fun h => form (.inl ⟨h9, h⟩)) fun h => ?_
      refine brc_igt (fun hp => ?_) fun hp => by omega
      refine brc_ieq (fun hz => form (.inr ⟨hp, hz⟩)) fun hz => key hne ?_
      rintro (⟨_, h'⟩ | ⟨_, h'⟩)
      · omega
      · exact hz h'
    · refine brc_igt (fun hp => ?_) fun hp => ?_
      · refine brc_ieq (fun hz => form (.inr ⟨hp, hz⟩)) fun hz => key hne ?_
        rintro (⟨h', _⟩ | ⟨_, h'⟩)
        · exact h9 h'
        · exact hz h'
      · refine key hne ?_
        rintro (⟨h', _⟩ | ⟨h', _⟩)
        · exact h9 h'
        · omega
  · intro d hd
    obtain ⟨b, a, x⟩ : List Int × Int × Unit := d
    obtain ⟨hb, hl, h1, h2⟩ : Sp.bytes b ∧ b.length < 4611686018427387904 ∧ -9223372036854775808 ≤ a ∧ a < 9223372036854775808 := hd
    refine Eq.mpr (nf59 L b a _) ?_
    have e1 : W.ofNat (W.len b) = (b.length : Int) := rfl
    rw [e1]
    refine brc_ilt (fun h => ?_) fun h => ?_
    · show _ = outGet (b, a, x)
      rw [outGet, Sp.get_arg (.inl h)]
    refine brc_igt (fun h' => ?_) fun h' => ?_
    · show _ = outGet (b, a, x)
      rw [outGet, Sp.get_arg (.inr h')]
    refine ⟨(b, a, 0, 0), rfl, ⟨hb, hl, h, (show (0 : Int) ≤ 0 by decide), (show (0 : Int) ≤ 9 by decide), ?_, (show (0 : Int) ≤ 0 by decide), (show (0 : Int) < 128 ^ 0 by decide)⟩, ?_⟩
    · show a + 0 ≤ b.length; omega
    · show _ = outGet (b, a, x)
      rw [outGet, Sp.get_in h h']
      rfl
theorem good54 {L : List TCtr} (hL : Goods Try.prog L) : GoodC Try.prog ctr54 := by
  refine good_jump (fn := Try.f54) [4, 5, 6] [] (fun i : List Int × Int × Int × Int => 10 - i.2.2.2.toNat) wide hL ⟨by kernel_rfl, by kernel_rfl, by kernel_rfl, by kernel_rfl⟩ (by kernel_rfl) (by kernel_rfl) (by kernel_rfl) (by kernel_rfl) (n := 58) (ls := [0, 1, 4, 5, 6, 7, 8]) (ks := []) (mk := mk54) (ψ := psi54) (l := 0) ?_ ?_
  · rintro ⟨b, a, u, n⟩ Φ ⟨⟨hb, hl, ha, hn0, hn9, hle, hu0, hu⟩, hΦ⟩
    refine Eq.mpr (nf54s L _ _ _ b a u n Φ _) ?_
    simp only at hb hl ha hn0 hn9 hle hu0 hu
    obtain ⟨N, rfl⟩ : ∃ N : Nat, n = N := ⟨n.toNat, by omega⟩
    obtain ⟨A, rfl⟩ : ∃ A : Nat, a = A := ⟨a.toNat, by omega⟩
    have e1 : W.add .i64 (A : Int) N = A + N := W.add_i64 (by omega) (by omega)
    have e3 : W.mul .i64 7 (N : Int) = 7 * (N : Int) := W.mul_i64 (by omega) (by omega)
    have e5 : W.toNat ((A : Int) + N) = A + N := by simp only [W.toNat]; omega
    have e6 : W.add .i64 (N : Int) 1 = N + 1 := W.add_i64 (by omega) (by omega)
    obtain ⟨c0, c1⟩ := Sp.bytes_get hb (A + N)
    have e7 : W.nth b (A + N) 0 = b.getD (A + N) 0 := rfl
    have e8 : W.ofNat (W.len b) = (b.length : Int) := rfl
    simp only [e1, e3, e5, e6, e7, e8]
    have hk : 10 - N = (9 - N) + 1 := by omega
    have hres : resGet (b, (A : Int), u, (N : Int)) = Sp.getF b A ((9 - N) + 1) N u := by
      show Sp.getF b (A : Int).toNat (10 - (N : Int).toNat) N u = _
      simp only [Int.toNat_natCast, hk]
    rw [hres] at hΦ
    simp only [Int.toNat_natCast] at hu
    have key : (A : Int) + N ≠ b.length → ¬ (((N : Int) = 9 ∧ 1 < b.getD (A + N) 0) ∨ (0 < (N : Int) ∧ b.getD (A + N) 0 = 0)) → grd (W.ile 0 (7 * (N : Int))) (brc (W.ige (b.getD (A + N) 0) 128)
        (∃ j, mkS 58 [(0, TV.l 5 (VT.int .u8) b), (1, TV.int .i64 (A : Int)), (4, TV.int .u64 0), (5, TV.int .i64 0), (6, TV.int .i64 0), (7, TV.int .u64 (W.or .u64 u (W.shl .u64 (W.wrap .u64 (W.and .u8 (b.getD (A + N) 0) 127)) (7 * (N : Int))))), (8, TV.int .i64 ((N : Int) + 1))] [] = mk54 j ∧ (fun i : List Int × Int × Int × Int => 10 - i.2.2.2.toNat) j < (fun i : List Int × Int × Int × Int => 10 - i.2.2.2.toNat) (b, (A : Int), u, (N : Int)) ∧ psi54 j Φ)
        (Φ AExit.ret (mkS 58 [(4, TV.int .u64 (W.or .u64 u (W.shl .u64 (W.wrap .u64 (W.and .u8 (b.getD (A + N) 0) 127)) (7 * (N : Int))))), (5, TV.int .i64 ((N : Int) + 1)), (6, TV.int .i64 0)] []))) := by
      intro hne hno
      have hno2 : ¬ (((N : Int) = 9 ∧ 1 < b.getD (A + (N : Int).toNat) 0) ∨ (0 < (N : Int) ∧ b.getD (A + (N : Int).toNat) 0 = 0)) := by simpa only [Int.toNat_natCast] using hno
      have h9 : N = 9 → b.getD (A + N) 0 ≤ 1 := fun h => by
        by_cases h1 : 1 < b.getD (A + N) 0
        · exact absurd (.inl ⟨by omega, h1⟩) hno
        · omega
      rw [Sp.step_u c0 c1 (by omega) hu0 hu h9 _ rfl]
      obtain ⟨b0, b1, b2⟩ := Sp.step_bound c0 (by omega) hu0 hu (fun h => by have := h9 h; omega)
      refine grd_ile (by omega) (brc_ige (fun h => ?_) fun h => ?_)
      · rw [Sp.getF_more hne hno2 (by simpa only [Int.toNat_natCast] using h)] at hΦ
        simp only [Int.toNat_natCast] at hΦ
        have hN : N ≤ 8 := by
          by_cases hN : N = 9
          · have := h9 hN; omega
          · omega
        refine ⟨(b, (A : Int), u + (b.getD (A + N) 0 % 128) * 128 ^ N, (N : Int) + 1), rfl, ?_, ⟨hb, hl, ?_, ?_, ?_, ?_, ?_, ?_⟩, ?_⟩
        · show 10 - ((N : Int) + 1).toNat < 10 - (N : Int).toNat; omega
        · show (0 : Int) ≤ A; omega
        · show (0 : Int) ≤ (N : Int) + 1; omega
        · show (N : Int) + 1 ≤ 9; omega
        · show (A : Int) + (N + 1) ≤ b.length; omega
        · show 0 ≤ u + (b.getD (A + N) 0 % 128) * 128 ^ N; omega
        · show u + (b.getD (A + N) 0 % 128) * 128 ^ N < 128 ^ ((N : Int) + 1).toNat
          have : ((N : Int) + 1).toNat = N + 1 := by omega
          rw [this]; exact b2 hN
        · have hr : resGet (b, (A : Int), u + (b.getD (A + N) 0 % 128) * 128 ^ N, (N : Int) + 1) = Sp.getF b A (9 - N) (N + 1) (u + (b.getD (A + N) 0 % 128) * 128 ^ N) := by
            show Sp.getF b (A : Int).toNat (10 - ((N : Int) + 1).toNat) _ _ = _
            have : 10 - ((N : Int) + 1).toNat = 9 - N := by omega
            rw [this, Int.toNat_natCast]
          rw [hr]; exact hΦ
      · rw [Sp.getF_done hne hno2 (by simpa only [Int.toNat_natCast] using h)] at hΦ
        simpa only [Int.toNat_natCast] using hΦ
    refine brc_ieq (fun h => ?_) fun hne => ?_
    · rw [Sp.getF_short h] at hΦ; exact hΦ
    refine grd_ile (by omega) (grd_nlt (by simp only [W.len]; omega) ?_)
    have form : (((N : Int) = 9 ∧ 1 < b.getD (A + N) 0) ∨ (0 < (N : Int) ∧ b.getD (A + N) 0 = 0)) → Φ AExit.ret (mkS 58 [(4, TV.int .u64 0), (5, TV.int .i64 0), (6, TV.int .i64 2)] []) := by
      intro h
      rw [Sp.getF_form hne (by simpa only [Int.toNat_natCast] using h)] at hΦ; exact hΦ
    refine brc_ieq (fun h9 => ?_) fun h9 => ?_
    · refine brc_igt (fun h => form (.inl ⟨h9, h⟩)) fun h => ?_
      refine brc_igt (fun hp => ?_) fun hp => by omega
      refine brc_ieq (fun hz => form (.inr ⟨hp, hz⟩)) fun hz => key hne ?_
      rintro (⟨_, h'⟩ | ⟨_, h'⟩)
      · omega
      · exact hz h'
    · refine brc_igt (fun hp => ?_) fun hp => ?_
      · refine brc_ieq (fun hz => form (.inr ⟨hp, hz⟩)) fun hz => key hne ?_
        rintro (⟨h', _⟩ | ⟨_, h'⟩)
        · exact h9 h'
        · exact hz h'
      · refine key hne ?_
        rintro (⟨h', _⟩ | ⟨h', _⟩)
        · exact h9 h'
        · omega
  · intro d hd
    obtain ⟨b, a, x⟩ : List Int × Int × Unit := d
    obtain ⟨hb, hl, h1, h2⟩ : Sp.bytes b ∧ b.length < 4611686018427387904 ∧ -9223372036854775808 ≤ a ∧ a < 9223372036854775808 := hd
    refine Eq.mpr (nf54 L b a _) ?_
    have e1 : W.ofNat (W.len b) = (b.length : Int) := rfl
    have e2 : W.add .i64 a 0 = a := by rw [W.add_i64 (by omega) (by omega)]; omega
    rw [e1, e2]
    refine brc_ilt (fun h => ?_) fun h => ?_
    · show _ = outGet (b, a, x)
      rw [outGet, Sp.get_arg (.inl h)]
    refine brc_igt (fun h' => ?_) fun h' => ?_
    · show _ = outGet (b, a, x)
      rw [outGet, Sp.get_arg (.inr h')]
    obtain ⟨A, rfl⟩ : ∃ A : Nat, a = A := ⟨a.toNat, by omega⟩
    have e5 : W.toNat (A : Int) = A := by simp only [W.toNat]; omega
    have e7 : W.nth b A 0 = b.getD A 0 := rfl
    simp only [e5, e7]
    obtain ⟨c0, c1⟩ := Sp.bytes_get hb A
    have hs := Sp.step_u (n := 0) (u := 0) c0 c1 (by omega) (by omega) (by decide) (fun h => by omega) 0 rfl
    simp only [hs]
    have hno : ¬ (((0 : Int) = 9 ∧ 1 < b.getD (A + (0 : Int).toNat) 0) ∨ (0 < (0 : Int) ∧ b.getD (A + (0 : Int).toNat) 0 = 0)) := by
      rintro (⟨h', _⟩ | ⟨h', _⟩) <;> omega
    refine brc_ieq (fun hz => ?_) fun hz => ?_
    · show _ = outGet (b, (A : Int), x)
      rw [outGet, Sp.get_in h h', Int.toNat_natCast, Sp.getF_short (by omega)]
    have hne : (A : Int) + 0 ≠ b.length := by omega
    refine grd_ile (by omega) (grd_nlt (by simp only [W.len]; omega) (brc_ige (fun hc => ?_) fun hc => ?_))
    · refine ⟨(b, (A : Int), 0 + (b.getD A 0 % 128) * 128 ^ 0, 1), rfl, ⟨hb, hl, ?_, (show (0 : Int) ≤ 1 by decide), (show (1 : Int) ≤ 9 by decide), ?_, ?_, ?_⟩, ?_⟩
      · show (0 : Int) ≤ A; omega
      · show (A : Int) + 1 ≤ b.length; omega
      · show 0 ≤ 0 + (b.getD A 0 % 128) * 128 ^ 0; omega
      · show 0 + (b.getD A 0 % 128) * 128 ^ 0 < 128 ^ 1; omega
      · show _ = outGet (b, (A : Int), x)
        rw [outGet, Sp.get_in h h', Int.toNat_natCast, Sp.getF_more hne hno (by simpa using hc)]
        rfl
    · show _ = outGet (b, (A : Int), x)
      rw [outGet, Sp.get_in h h', Int.toNat_natCast, Sp.getF_done hne hno (by simpa using hc)]
      rfl
end Go.Proofs.Ytcmjccjbgidinaa
end

section
set_option maxRecDepth 100000
namespace Go.Proofs.Ytcmjccjbgidinaa
open Go.AbsM
def outGet4 (d : List Int × Int × Unit) : TV := .tup [.c (.a (.x (.int .u32 (Sp.get4 d.1 d.2.1).1))), .c (.a (.x (.int .i64 (Sp.get4 d.1 d.2.1).2.1))), .c (.a (.x (.int .i64 (Sp.get4 d.1 d.2.1).2.2)))]
def ctr53 : TCtr := .det 53 [.l 5 (.int .u8), .v (.int .i64)] preG outGet4 fun _ => rfl
def ctr58 : TCtr := .det 58 [.l 5 (.int .u8), .v (.int .i64)] preG outGet4 fun _ => rfl
theorem get4_run {b : List Int} {a : Int} {x : Unit} (hd : preG (b, a, x)) :
  brc (W.ilt a 0) (TV.tup [T1.c (TC.a (AV.x (Value.int .u32 0))), T1.c (TC.a (AV.x (Value.int .i64 0))), T1.c (TC.a (AV.x (Value.int .i64 1)))] = outGet4 (b, a, x)) (brc (W.igt a (W.ofNat (W.len b))) (TV.tup [T1.c (TC.a (AV.x (Value.int .u32 0))), T1.c (TC.a (AV.x (Value.int .i64 0))), T1.c (TC.a (AV.x (Value.int .i64 1)))] = outGet4 (b, a, x)) (brc (W.ilt (W.sub .i64 (W.ofNat (W.len b)) a) 4) (TV.tup [T1.c (TC.a (AV.x (Value.int .u32 0))), T1.c (TC.a (AV.x (Value.int .i64 0))), T1.c (TC.a (AV.x (Value.int .i64 5)))] = outGet4 (b, a, x)) (grd (W.ile 0 a) (grd (W.nlt (W.toNat a) (W.len b)) (grd (W.ile 0 (W.add .i64 a 1)) (grd (W.nlt (W.toNat (W.add .i64 a 1)) (W.len b)) (grd (W.ile 0 (W.add .i64 a 2)) (grd (W.nlt (W.toNat (W.add .i64 a 2)) (W.len b)) (grd (W.ile 0 (W.add .i64 a 3)) (grd (W.nlt (W.toNat (W.add .i64 a 3)) (W.len b)) (TV.tup [T1.c (TC.a (AV.x (Value.int .u32 (W.or .u32 (W.or .u32 (W.or .u32 (W.wrap .u32 (W.nth b (W.toNat a) 0)) (W.shl .u32 (W.wrap .u32 (W.nth b (W.toNat (W.add .i64 a 1)) 0)) 8)) (W.shl .u32 (W.wrap .u32 (W.nth b (W.toNat (W.add .i64 a 2)) 0)) 16)) (W.shl .u32 (W.wrap .u32 (W.nth b (W.toNat (W.add .i64 a 3)) 0)) 24))))), T1.c (TC.a (AV.x (Value.int .i64 4))), T1.c (TC.a (AV.x (Value.int .i64 0)))] = outGet4 (b, a, x)))))))))))) := by
  obtain ⟨hb, hl, h1, h2⟩ : Sp.bytes b ∧ b.length < 4611686018427387904 ∧ -9223372036854775808 ≤ a ∧ a < 9223372036854775808 := hd
  have e1 : W.ofNat (W.len b) = (b.length : Int) := rfl
  rw [e1]
  refine brc_ilt (fun h => by rw [outGet4, Sp.get4_arg (.inl h)]) fun h => ?_
  refine brc_igt (fun h' => by rw [outGet4, Sp.get4_arg (.inr h')]) fun h' => ?_
  rw [W.sub_i64 (by omega) (by omega)]
  refine brc_ilt (fun h4 => by rw [outGet4, Sp.get4_short (by omega) h4]) fun h4 => ?_
  rw [W.add_i64 (b := 1) (by omega) (by omega), W.add_i64 (b := 2) (by omega) (by omega), W.add_i64 (b := 3) (by omega) (by omega)]
  have hlen : W.len b = b.length := rfl
  have ht : ∀ z : Int, W.toNat z = z.toNat := fun _ => rfl
  simp only [hlen, ht]
  refine grd_ile (by omega) (grd_nlt (by omega) (grd_ile (by omega) (grd_nlt (by omega) (grd_ile (by omega) (grd_nlt (by omega) (grd_ile (by omega) (grd_nlt (by omega) ?_)))))))
  have hg := Sp.get4_in (b := b) (a := a) (by omega) (by omega)
  simp only [outGet4, hg]
  rfl
theorem good53 {L : List TCtr} (hL : Goods Try.prog L) : GoodC Try.prog ctr53 := by
  refine good_plain (fn := Try.f53) wide hL ⟨by kernel_rfl, by kernel_rfl, by kernel_rfl, by kernel_rfl⟩ (by kernel_rfl) fun d hd => ?_
  obtain ⟨b, a, x⟩ : List Int × Int × Unit := d
  exact Eq.mpr (nf53 L b a _) (get4_run hd)
theorem good58 {L : List TCtr} (hL : Goods Try.prog L) : GoodC Try.prog ctr58 := by
  refine good_plain (fn := Try.f58) wide hL ⟨by kernel_rfl, by kernel_rfl, by kernel_rfl, by kernel_rfl⟩ (by kernel_rfl) fun d hd => ?_
  obtain ⟨b, a, x⟩ : List Int × Int × Unit := d
  exact Eq.mpr (nf58 L b a _) (get4_run hd)
end Go.Proofs.Ytcmjccjbgidinaa
end

section
set_option maxRecDepth 100000
namespace Go.Proofs.Ytcmjccjbgidinaa
open Go.AbsM
def ctr51 : TCtr := .det 51 [.l 5 (.int .u8), .v (.int .u32)] (fun (d : List Int × Int × Unit) => d.1.length < 1000000 ∧ 0 ≤ d.2.1 ∧ d.2.1 < 4294967296) (fun (d : List Int × Int × Unit) => .o (.own 5 (.int .u8) (d.1 ++ Sp.four d.2.1))) fun _ => rfl
theorem good51 {L : List TCtr} (hL : Goods Try.prog L) : GoodC Try.prog ctr51 := by
  refine good_plain (fn := Try.f51) wide hL ⟨by kernel_rfl, by kernel_rfl, by kernel_rfl, by kernel_rfl⟩ (by kernel_rfl) fun d hd => ?_
  obtain ⟨b, n, x⟩ : List Int × Int × Unit := d
  obtain ⟨hl, h0, h1⟩ : b.length < 1000000 ∧ 0 ≤ n ∧ n < 4294967296 := hd
  refine Eq.mpr (nf51 L b n _) ?_
  simp only [asT, W.copied, Sp.four_prog h0]
  have e1 : W.ofNat (W.len b) = (b.length : Int) := rfl
  rw [e1, W.add_i64 (by omega) (by omega)]
  exact grd_ile (by omega) (grd_ile (by omega) (grd_ile (by simp only [W.bys]; omega) (grd_nle (by simp [W.nmul, W.nadd, W.len, Sp.four]; omega) rfl)))
end Go.Proofs.Ytcmjccjbgidinaa
end

section
set_option maxRecDepth 100000
namespace Go.Proofs.Ytcmjccjbgidinaa
open Go.AbsM
def mk61 (i : Int × Int) : TSt := mkS 14 [(0, TV.int .u32 i.1), (2, TV.int .u32 0), (3, TV.int .i64 i.2)] []
def psi61 (i : Int × Int) (Φ : Post) : Prop := (0 ≤ i.1 ∧ i.1 < 4294967296 ∧ 0 ≤ i.2 ∧ i.2 ≤ 8) ∧ Φ .normal (mk61 (Sp.citer (8 - i.2.toNat) i.1, 8))
def blk61 : Nat → Option Piece := one 0 (loopP 14 [0, 2, 3] [] mk61 psi61)
theorem nf61 (L : List TCtr) (s : Int) (Q : TV → Prop) : wpFn Try.prog (knownL L blk61 noneK) Try.f61 [.c (.a (.x (.int .u32 s)))] Q = (
  ∃ i, mkS (14 : Nat) [((0 : Nat), TV.int IntKind.u32 s), ((2 : Nat), TV.int IntKind.u32 (0 : Int)), ((3 : Nat), TV.int IntKind.i64 (0 : Int))] [] = mkS (14 : Nat) [((0 : Nat), TV.int IntKind.u32 (Prod.fst i)), ((2 : Nat), TV.int IntKind.u32 (0 : Int)), ((3 : Nat), TV.int IntKind.i64 (Prod.snd i))] [] ∧ ((0 : Int) ≤ Prod.fst i ∧ Prod.fst i < (4294967296 : Int) ∧ (0 : Int) ≤ Prod.snd i ∧ Prod.snd i ≤ (8 : Int)) ∧ Q (TV.int IntKind.u32 (Sp.citer ((8 : Nat) - Int.toNat (Prod.snd i)) (Prod.fst i)))) := by kernel_rfl
theorem nf61s (L : List TCtr) (mk : Int × Int → TSt) (ψ : Int × Int → Post → Prop) (μ : Int × Int → Nat) (s k : Int) (Φ : Post) (m : Nat) : wpT Try.prog (knownL L blk61 noneK) (loopOf (blkC (bodyOf Try.f61) 0)) (mk61 (s, k)) (stepK 14 [0, 2, 3] [] [0, 2, 3] [] 0 mk μ ψ m Φ) = (
  brc (W.ilt k (8 : Int)) (∃ j, mkS (14 : Nat) [((0 : Nat), TV.int IntKind.u32 (W.xor IntKind.u32 (W.shr IntKind.u32 s (1 : Int)) (W.and IntKind.u32 (3988292384 : Int) (W.neg IntKind.u32 (W.and IntKind.u32 s (1 : Int)))))), ((2 : Nat), TV.int IntKind.u32 (0 : Int)), ((3 : Nat), TV.int IntKind.i64 (W.add IntKind.i64 k (1 : Int)))] [] = mk j ∧ μ j < m ∧ ψ j Φ) (Φ AExit.normal (mkS (14 : Nat) [((0 : Nat), TV.int IntKind.u32 s), ((2 : Nat), TV.int IntKind.u32 (0 : Int)), ((3 : Nat), TV.int IntKind.i64 k)] []))) := by kernel_rfl
def ctr61 : TCtr := .det 61 [.v (.int .u32)] (fun (d : Int × Unit) => 0 ≤ d.1 ∧ d.1 < 4294967296) (fun (d : Int × Unit) => TV.int .u32 (Sp.citer 8 d.1)) fun _ => rfl
def mk52 (i : List Int × Int × Int) : TSt := mkS 21 [(0, TV.l 5 (.int .u8) i.1), (2, TV.int .u32 0), (3, TV.int .u32 i.2.1), (4, TV.int .i64 i.2.2)] []
def psi52 (i : List Int × Int × Int) (Φ : Post) : Prop := (Sp.bytes i.1 ∧ i.1.length < 1000000 ∧ 0 ≤ i.2.1 ∧ i.2.1 < 4294967296 ∧ 0 ≤ i.2.2 ∧ i.2.2 ≤ i.1.length) ∧ Φ .ret (mkS 21 [(2, TV.int .u32 (4294967295 - Sp.crc i.2.1 (i.1.drop i.2.2.toNat)))] [])
def lab52 : Nat → Option Piece := one 0 (loopP 21 [0, 2, 3, 4] [] mk52 psi52)
theorem nf52 (b : List Int) (Q : TV → Prop) : wpFn Try.prog (knownL [ctr61] noneK lab52) Try.f52 [.c (.sl 5 (.int .u8) (.mk b))] Q = (
  brc (W.ieq (0 : Int) (W.ofNat (W.len b))) (Q (TV.int IntKind.u32 (0 : Int))) (grd (W.nlt (0 : Nat) (W.len b)) (((0 : Int) ≤ W.xor IntKind.u32 (4294967295 : Int) (W.wrap IntKind.u32 (W.nth b (0 : Nat) (0 : Int))) ∧ W.xor IntKind.u32 (4294967295 : Int) (W.wrap IntKind.u32 (W.nth b (0 : Nat) (0 : Int))) < (4294967296 : Int)) ∧ ∃ i, mkS (21 : Nat) [((0 : Nat), TV.l (5 : Nat) (VT.int IntKind.u8) b), ((2 : Nat), TV.int IntKind.u32 (0 : Int)), ((3 : Nat), TV.int IntKind.u32 (Sp.citer (8 : Nat) (W.xor IntKind.u32 (4294967295 : Int) (W.wrap IntKind.u32 (W.nth b (0 : Nat) (0 : Int)))))), ((4 : Nat), TV.int IntKind.i64 (1 : Int))] [] = mkS (21 : Nat) [((0 : Nat), TV.l (5 : Nat) (VT.int IntKind.u8) (asT (List Int) (Prod.fst i))), ((2 : Nat), TV.int IntKind.u32 (0 : Int)), ((3 : Nat), TV.int IntKind.u32 (Prod.fst (Prod.snd i))), ((4 : Nat), TV.int IntKind.i64 (Prod.snd (Prod.snd i)))] [] ∧ (Sp.bytes (Prod.fst i) ∧ List.length (Prod.fst i) < (1000000 : Nat) ∧ (0 : Int) ≤ Prod.fst (Prod.snd i) ∧ Prod.fst (Prod.snd i) < (4294967296 : Int) ∧ (0 : Int) ≤ Prod.snd (Prod.snd i) ∧ Prod.snd (Prod.snd i) ≤ Int.ofNat (List.length (Prod.fst i))) ∧ Q (TV.int IntKind.u32 ((4294967295 : Int) - Sp.crc (Prod.fst (Prod.snd i)) (List.drop (Int.toNat (Prod.snd (Prod.snd i))) (Prod.fst i))))))) := by kernel_rfl
theorem nf52s (mk : List Int × Int × Int → TSt) (ψ : List Int × Int × Int → Post → Prop) (μ : List Int × Int × Int → Nat) (b : List Int) (s i : Int) (Φ : Post) (m : Nat) : wpT Try.prog (knownL [ctr61] noneK lab52) (restC (bodyOf Try.f52) 0) (mk52 (b, s, i)) (jumpK (knownL [ctr61] noneK lab52) 21 [0, 2, 3, 4] [] [2] [] (scC (bodyOf Try.f52)) 0 mk μ ψ m Φ) = (
  brc (W.ieq i (W.ofNat (W.len b))) (Φ AExit.ret (mkS (21 : Nat) [((2 : Nat), TV.int IntKind.u32 (W.inv IntKind.u32 s))] [])) (grd (W.ile (0 : Int) i) (grd (W.nlt (W.toNat i) (W.len b)) (((0 : Int) ≤ W.xor IntKind.u32 s (W.wrap IntKind.u32 (W.nth b (W.toNat i) (0 : Int))) ∧ W.xor IntKind.u32 s (W.wrap IntKind.u32 (W.nth b (W.toNat i) (0 : Int))) < (4294967296 : Int)) ∧ ∃ j, mkS (21 : Nat) [((0 : Nat), TV.l (5 : Nat) (VT.int IntKind.u8) b), ((2 : Nat), TV.int IntKind.u32 (0 : Int)), ((3 : Nat), TV.int IntKind.u32 (Sp.citer (8 : Nat) (W.xor IntKind.u32 s (W.wrap IntKind.u32 (W.nth b (W.toNat i) (0 : Int)))))), ((4 : Nat), TV.int IntKind.i64 (W.add IntKind.i64 i (1 : Int)))] [] = mk j ∧ μ j < m ∧ ψ j Φ)))) := by kernel_rfl
def mk57i (i : List Int × Int × Int × Int) : TSt := mkS 33 [(0, TV.l 5 (.int .u8) i.1), (2, TV.int .u32 0), (3, TV.int .u32 i.2.1), (4, TV.int .i64 i.2.2.1), (5, TV.int .i64 i.2.2.2)] []
def psi57i (i : List Int × Int × Int × Int) (Φ : Post) : Prop := (0 ≤ i.2.1 ∧ i.2.1 < 4294967296 ∧ 0 ≤ i.2.2.2 ∧ i.2.2.2 ≤ 8) ∧ Φ .normal (mk57i (i.1, Sp.citer (8 - i.2.2.2.toNat) i.2.1, i.2.2.1, 8))
def mk57 (i : List Int × Int × Int) : TSt := mkS 33 [(0, TV.l 5 (.int .u8) i.1), (2, TV.int .u32 0), (3, TV.int .u32 i.2.1), (4, TV.int .i64 i.2.2)] []
def psi57 (i : List Int × Int × Int) (Φ : Post) : Prop := (Sp.bytes i.1 ∧ i.1.length < 1000000 ∧ 0 ≤ i.2.1 ∧ i.2.1 < 4294967296 ∧ 0 ≤ i.2.2 ∧ i.2.2 ≤ i.1.length) ∧ ∀ n : Int, Φ .normal (mk57 (i.1, Sp.crc i.2.1 (i.1.drop i.2.2.toNat), n))
def blk57 (l : Nat) : Option Piece := match l.beq 0 with
  | true => some (loopP 33 [0, 2, 3, 4] [] mk57 psi57)
  | false => one 2 (loopP 33 [0, 2, 3, 4, 5] [] mk57i psi57i) l
theorem nf57 (L : List TCtr) (b : List Int) (Q : TV → Prop) : wpFn Try.prog (knownL L blk57 noneK) Try.f57 [.c (.sl 5 (.int .u8) (.mk b))] Q = (
  ∃ i, mkS (33 : Nat) [((0 : Nat), TV.l (5 : Nat) (VT.int IntKind.u8) b), ((2 : Nat), TV.int IntKind.u32 (0 : Int)), ((3 : Nat), TV.int IntKind.u32 (4294967295 : Int)), ((4 : Nat), TV.int IntKind.i64 (0 : Int))] [] = mkS (33 : Nat) [((0 : Nat), TV.l (5 : Nat) (VT.int IntKind.u8) (asT (List Int) (Prod.fst i))), ((2 : Nat), TV.int IntKind.u32 (0 : Int)), ((3 : Nat), TV.int IntKind.u32 (Prod.fst (Prod.snd i))), ((4 : Nat), TV.int IntKind.i64 (Prod.snd (Prod.snd i)))] [] ∧ (Sp.bytes (Prod.fst i) ∧ List.length (Prod.fst i) < (1000000 : Nat) ∧ (0 : Int) ≤ Prod.fst (Prod.snd i) ∧ Prod.fst (Prod.snd i) < (4294967296 : Int) ∧ (0 : Int) ≤ Prod.snd (Prod.snd i) ∧ Prod.snd (Prod.snd i) ≤ Int.ofNat (List.length (Prod.fst i))) ∧ ∀ (n : Int), Q (TV.int IntKind.u32 (W.inv IntKind.u32 (Sp.crc (Prod.fst (Prod.snd i)) (List.drop (Int.toNat (Prod.snd (Prod.snd i))) (Prod.fst i)))))) := by kernel_rfl
theorem nf57s (L : List TCtr) (mk : List Int × Int × Int → TSt) (ψ : List Int × Int × Int → Post → Prop) (μ : List Int × Int × Int → Nat) (b : List Int) (s i : Int) (Φ : Post) (m : Nat) : wpT Try.prog (knownL L blk57 noneK) (loopOf (blkC (bodyOf Try.f57) 0)) (mk57 (b, s, i)) (stepK 33 [0, 2, 3, 4] [] [0, 2, 3, 4] [] 0 mk μ ψ m Φ) = (
  brc (W.ilt i (W.ofNat (W.len b))) (grd (W.ile (0 : Int) i) (grd (W.nlt (W.toNat i) (W.len b)) (∃ i_1, mkS (33 : Nat) [((0 : Nat), TV.l (5 : Nat) (VT.int IntKind.u8) b), ((2 : Nat), TV.int IntKind.u32 (0 : Int)), ((3 : Nat), TV.int IntKind.u32 (W.xor IntKind.u32 s (W.wrap IntKind.u32 (W.nth b (W.toNat i) (0 : Int))))), ((4 : Nat), TV.int IntKind.i64 i), ((5 : Nat), TV.int IntKind.i64 (0 : Int))] [] = mkS (33 : Nat) [((0 : Nat), TV.l (5 : Nat) (VT.int IntKind.u8) (asT (List Int) (Prod.fst i_1))), ((2 : Nat), TV.int IntKind.u32 (0 : Int)), ((3 : Nat), TV.int IntKind.u32 (Prod.fst (Prod.snd i_1))), ((4 : Nat), TV.int IntKind.i64 (Prod.fst (Prod.snd (Prod.snd i_1)))), ((5 : Nat), TV.int IntKind.i64 (Prod.snd (Prod.snd (Prod.snd i_1))))] [] ∧ ((0 : Int) ≤ Prod.fst (Prod.snd i_1) ∧ Prod.fst (Prod.snd i_1) < (4294967296 : Int) ∧ (0 : Int) ≤ Prod.snd (Prod.snd (Prod.snd i_1)) ∧ Prod.snd (Prod.snd (Prod.snd i_1)) ≤ (8 : Int)) ∧ ∃ j, mkS (33 : Nat) [((0 : Nat), TV.l (5 : Nat) (VT.int IntKind.u8) (asT (List Int) (Prod.fst i_1))), ((2 : Nat), TV.int IntKind.u32 (0 : Int)), ((3 : Nat), TV.int IntKind.u32 (Sp.citer ((8 : Nat) - Int.toNat (Prod.snd (Prod.snd (Prod.snd i_1)))) (Prod.fst (Prod.snd i_1)))), ((4 : Nat), TV.int IntKind.i64 (W.add IntKind.i64 (Prod.fst (Prod.snd (Prod.snd i_1))) (1 : Int)))] [] = mk j ∧ μ j < m ∧ ψ j Φ))) (Φ AExit.normal (mkS (33 : Nat) [((0 : Nat), TV.l (5 : Nat) (VT.int IntKind.u8) b), ((2 : Nat), TV.int IntKind.u32 (0 : Int)), ((3 : Nat), TV.int IntKind.u32 s), ((4 : Nat), TV.int IntKind.i64 i)] []))) := by kernel_rfl
theorem nf57i (L : List TCtr) (mk : List Int × Int × Int × Int → TSt) (ψ : List Int × Int × Int × Int → Post → Prop) (μ : List Int × Int × Int × Int → Nat) (b : List Int) (s i k : Int) (Φ : Post) (m : Nat) : wpT Try.prog (knownL L blk57 noneK) (loopOf (blkC (bodyOf Try.f57) 2)) (mk57i (b, s, i, k)) (stepK 33 [0, 2, 3, 4, 5] [] [0, 2, 3, 4, 5] [] 2 mk μ ψ m Φ) = (
  brc (W.ilt k (8 : Int)) (brc (W.ieq (W.and IntKind.u32 s (1 : Int)) (1 : Int)) (∃ j, mkS (33 : Nat) [((0 : Nat), TV.l (5 : Nat) (VT.int IntKind.u8) b), ((2 : Nat), TV.int IntKind.u32 (0 : Int)), ((3 : Nat), TV.int IntKind.u32 (W.xor IntKind.u32 (W.shr IntKind.u32 s (1 : Int)) (3988292384 : Int))), ((4 : Nat), TV.int IntKind.i64 i), ((5 : Nat), TV.int IntKind.i64 (W.add IntKind.i64 k (1 : Int)))] [] = mk j ∧ μ j < m ∧ ψ j Φ) (∃ j, mkS (33 : Nat) [((0 : Nat), TV.l (5 : Nat) (VT.int IntKind.u8) b), ((2 : Nat), TV.int IntKind.u32 (0 : Int)), ((3 : Nat), TV.int IntKind.u32 (W.shr IntKind.u32 s (1 : Int))), ((4 : Nat), TV.int IntKind.i64 i), ((5 : Nat), TV.int IntKind.i64 (W.add IntKind.i64 k (1 : Int)))] [] = mk j ∧ μ j < m ∧ ψ j Φ)) (Φ AExit.normal (mkS (33 : Nat) [((0 : Nat), TV.l (5 : Nat) (VT.int IntKind.u8) b), ((2 : Nat), TV.int IntKind.u32 (0 : Int)), ((3 : Nat), TV.int IntKind.u32 s), ((4 : Nat), TV.int IntKind.i64 i), ((5 : Nat), TV.int IntKind.i64 k)] []))) := by kernel_rfl
theorem good61 {L : List TCtr} (hL : Goods Try.prog L) : GoodC Try.prog ctr61 := by
  refine good_loop (fn := Try.f61) [0, 2, 3] [] (fun i : Int × Int => (8 - i.2).toNat) wide hL ⟨by kernel_rfl, by kernel_rfl, by kernel_rfl, by kernel_rfl⟩ (by kernel_rfl) (by kernel_rfl) (by kernel_rfl) (by kernel_rfl) (n := 14) (ls := [0, 2, 3]) (ks := []) (mk := mk61) (ψ := psi61) (id := 0) ?_ ?_
  · rintro ⟨s, k⟩ Φ ⟨⟨h0, h1, h2, h3⟩, hΦ⟩
    refine Eq.mpr (nf61s L _ _ _ s k Φ _) ?_
    simp only at h0 h1 h2 h3 hΦ
    refine brc_ilt (fun h => ?_) fun h => ?_
    · rw [Sp.cstep_prog h0 h1, W.add_i64 (by omega) (by omega)]
      have hc := Sp.cstep_in h0 h1
      have e : 8 - k.toNat = (8 - (k + 1).toNat) + 1 := by omega
      rw [e, Sp.citer_succ h0] at hΦ
      refine ⟨(Sp.cstep s, k + 1), rfl, ?_, ⟨hc.1, hc.2, ?_, ?_⟩, hΦ⟩
      · show (8 - (k + 1)).toNat < (8 - k).toNat; omega
      · show 0 ≤ k + 1; omega
      · show k + 1 ≤ 8; omega
    · have hk : k = 8 := by omega
      subst hk
      have e : Sp.citer (8 - (8 : Int).toNat) s = s := by
        show ((s.toNat : Nat) : Int) = s; omega
      rw [e] at hΦ; exact hΦ
  · intro d hd
    obtain ⟨s, x⟩ : Int × Unit := d
    obtain ⟨h0, h1⟩ : 0 ≤ s ∧ s < 4294967296 := hd
    refine Eq.mpr (nf61 L s _) ⟨(s, 0), rfl, ⟨h0, h1, ?_, ?_⟩, rfl⟩
    · show (0 : Int) ≤ 0; omega
    · show (0 : Int) ≤ 8; omega
theorem good23L : Goods Try.prog [ctr61] := .cons (good61 .nil) .nil
def preB (d : List Int × Unit) : Prop := Sp.bytes d.1 ∧ d.1.length < 1000000
def ctr52 : TCtr := .det 52 [.l 5 (.int .u8)] preB (fun (d : List Int × Unit) => TV.int .u32 (Sp.sum d.1)) fun _ => rfl
def ctr57 : TCtr := .det 57 [.l 5 (.int .u8)] preB (fun (d : List Int × Unit) => TV.int .u32 (Sp.sum d.1)) fun _ => rfl
theorem good52 : GoodC Try.prog ctr52 := by
  refine good_jump (fn := Try.f52) [2] [] (fun i : List Int × Int × Int => (i.1.length - i.2.2).toNat) wide good23L ⟨by kernel_rfl, by kernel_rfl, by kernel_rfl, by kernel_rfl⟩ (by kernel_rfl) (by kernel_rfl) (by kernel_rfl) (by kernel_rfl) (n := 21) (ls := [0, 2, 3, 4]) (ks := []) (mk := mk52) (ψ := psi52) (l := 0) ?_ ?_
  · rintro ⟨b, s, i⟩ Φ ⟨⟨hb, hl, h0, h1, h2, h3⟩, hΦ⟩
    refine Eq.mpr (nf52s _ _ _ b s i Φ _) ?_
    simp only at hb hl h0 h1 h2 h3 hΦ
    have e1 : W.ofNat (W.len b) = (b.length : Int) := rfl
    have e2 : W.toNat i = i.toNat := rfl
    have e3 : W.nth b i.toNat 0 = b.getD i.toNat 0 := rfl
    rw [e1, e2, e3]
    refine brc_ieq (fun h => ?_) fun h => ?_
    · rw [Sp.inv_u32 h0 h1]
      have : b.drop i.toNat = [] := List.drop_eq_nil_of_le (by omega)
      rw [this] at hΦ
      have e : Sp.crc s [] = s := by show ((s.toNat : Nat) : Int) = s; omega
      rw [e] at hΦ; exact hΦ
    · obtain ⟨x0, x1⟩ := Sp.bytes_get hb i.toNat
      have hx := Sp.xor_in h0 h1 x0 x1
      have hc := Sp.citer_in (n := 8) hx.1 hx.2
      rw [W.add_i64 (by omega) (by omega)]
      rw [Sp.crc_drop hb h0 h1 (by omega)] at hΦ
      refine grd_ile h2 (grd_nlt (by simp only [W.len]; omega) ⟨hx, (b, _, i + 1), rfl, ?_, ⟨hb, hl, hc.1, hc.2, ?_, ?_⟩, ?_⟩)
      · show ((b.length : Int) - (i + 1)).toNat < ((b.length : Int) - i).toNat; omega
      · show 0 ≤ i + 1; omega
      · show i + 1 ≤ b.length; omega
      · have e : (i + 1).toNat = i.toNat + 1 := by omega
        show Φ .ret (mkS 21 [(2, TV.int .u32 (4294967295 - Sp.crc _ (b.drop (i + 1).toNat)))] [])
        rw [e]; exact hΦ
  · intro d hd
    obtain ⟨b, x⟩ : List Int × Unit := d
    obtain ⟨hb, hl⟩ : Sp.bytes b ∧ b.length < 1000000 := hd
    refine Eq.mpr (nf52 b _) ?_
    have e1 : W.ofNat (W.len b) = (b.length : Int) := rfl
    have e3 : W.nth b 0 0 = b.getD 0 0 := rfl
    rw [e1, e3]
    refine brc_ieq (fun h => ?_) fun h => ?_
    · have : b = [] := List.length_eq_zero_iff.1 (by omega)
      subst this; rfl
    · obtain ⟨x0, x1⟩ := Sp.bytes_get hb 0
      have hx := Sp.xor_in (s := 4294967295) (by omega) (by omega) x0 x1
      have hc := Sp.citer_in (n := 8) hx.1 hx.2
      refine grd_nlt (by simp only [W.len]; omega) ⟨hx, (b, _, 1), rfl, ⟨hb, hl, hc.1, hc.2, ?_, ?_⟩, ?_⟩
      · show (0 : Int) ≤ 1; omega
      · show (1 : Int) ≤ b.length; omega
      · have := Sp.crc_drop (i := 0) (s := 4294967295) hb (by omega) (by omega) (by omega)
        rw [List.drop_zero] at this
        show _ = TV.int .u32 (4294967295 - Sp.crc 4294967295 b)
        rw [this]; rfl
theorem good57 {L : List TCtr} (hL : Goods Try.prog L) : GoodC Try.prog ctr57 := by
  have hK := knownL_ok wide hL blk57 noneK
  have inner : ∀ s Φ, loopP 33 [0, 2, 3, 4, 5] [] mk57i psi57i s Φ → Run Try.prog (.code (.block 2 (blkC (bodyOf Try.f57) 2))) s Φ := by
    refine run_loopB (lx := [0, 2, 3, 4, 5]) (kx := []) hK (fun i : List Int × Int × Int × Int => (8 - i.2.2.2).toNat) (by kernel_rfl) (lamOk_free (by kernel_rfl)) ?_
    rintro ⟨b, s, i, k⟩ Φ ⟨⟨h0, h1, h2, h3⟩, hΦ⟩
    refine Eq.mpr (nf57i L _ _ _ b s i k Φ _) ?_
    simp only at h0 h1 h2 h3 hΦ
    refine brc_ilt (fun h => ?_) fun h => ?_
    · have hc := Sp.cstep_in h0 h1
      have e : 8 - k.toNat = (8 - (k + 1).toNat) + 1 := by omega
      rw [e, Sp.citer_succ h0] at hΦ
      rw [Sp.and1_u32 h0 h1, W.add_i64 (by omega) (by omega)]
      refine brc_ieq (fun h' => ?_) fun h' => ?_
      · rw [Sp.cstep_ref h0 h1 h']
        refine ⟨(b, Sp.cstep s, i, k + 1), rfl, ?_, ⟨hc.1, hc.2, ?_, ?_⟩, hΦ⟩
        · show (8 - (k + 1)).toNat < (8 - k).toNat; omega
        · show 0 ≤ k + 1; omega
        · show k + 1 ≤ 8; omega
      · rw [Sp.cstep_ref0 h0 h']
        refine ⟨(b, Sp.cstep s, i, k + 1), rfl, ?_, ⟨hc.1, hc.2, ?_, ?_⟩, hΦ⟩
        · show (8 - (k + 1)).toNat < (8 - k).toNat; omega
        · show 0 ≤ k + 1; omega
        · show k + 1 ≤ 8; omega
    · have hk : k = 8 := by omega
      subst hk
      have e : Sp.citer (8 - (8 : Int).toNat) s = s := by
        show ((s.toNat : Nat) : Int) = s; omega
      rw [e] at hΦ; exact hΦ
  have outer : ∀ s Φ, loopP 33 [0, 2, 3, 4] [] mk57 psi57 s Φ → Run Try.prog (.code (.block 0 (blkC (bodyOf Try.f57) 0))) s Φ := by
    refine run_loopB (lx := [0, 2, 3, 4]) (kx := []) hK (fun i : List Int × Int × Int => (i.1.length - i.2.2).toNat) (by kernel_rfl) ?_ ?_
    · refine lamOk_of (fun id c' hm ψ hψ => ?_) (fun c' hm => ?_)
      · have hids : (blocksOf (loopOf (blkC (bodyOf Try.f57) 0))).map (·.1) = [1, 2, 3] := by kernel_rfl
        have hc : c' = blkC (loopOf (blkC (bodyOf Try.f57) 0)) id := findB_mem (by rw [hids]; rfl) hm
        have hid : id ∈ [1, 2, 3] := by rw [← hids]; exact List.mem_map.2 ⟨_, hm, rfl⟩
        simp only [List.mem_cons, List.not_mem_nil, or_false] at hid
        rcases hid with rfl | rfl | rfl
        · cases hψ
        · cases hψ
          rw [hc]
          have : blkC (loopOf (blkC (bodyOf Try.f57) 0)) 2 = blkC (bodyOf Try.f57) 2 := by kernel_rfl
          rw [this]; exact inner
        · cases hψ
      · have : scopesOf (loopOf (blkC (bodyOf Try.f57) 0)) = [] := by kernel_rfl
        rw [this] at hm; cases hm
    rintro ⟨b, s, i⟩ Φ ⟨⟨hb, hl, h0, h1, h2, h3⟩, hΦ⟩
    refine Eq.mpr (nf57s L _ _ _ b s i Φ _) ?_
    simp only at hb hl h0 h1 h2 h3 hΦ
    have e1 : W.ofNat (W.len b) = (b.length : Int) := rfl
    have e2 : W.toNat i = i.toNat := rfl
    have e3 : W.nth b i.toNat 0 = b.getD i.toNat 0 := rfl
    rw [e1, e2, e3]
    refine brc_ilt (fun h => ?_) fun h => ?_
    · obtain ⟨x0, x1⟩ := Sp.bytes_get hb i.toNat
      have hx := Sp.xor_in h0 h1 x0 x1
      have hc := Sp.citer_in (n := 8) hx.1 hx.2
      rw [Sp.crc_drop hb h0 h1 (by omega)] at hΦ
      refine grd_ile h2 (grd_nlt (by simp only [W.len]; omega) ⟨(b, _, i, 0), rfl, ⟨hx.1, hx.2, ?_, ?_⟩, (b, Sp.citer 8 (W.xor .u32 s (W.wrap .u32 (b.getD i.toNat 0))), i + 1), ?_, ?_, ⟨hb, hl, hc.1, hc.2, ?_, ?_⟩, ?_⟩)
      · show (0 : Int) ≤ 0; omega
      · show (0 : Int) ≤ 8; omega
      · show mkS 33 [(0, TV.l 5 (.int .u8) b), (2, TV.int .u32 0), (3, TV.int .u32 (Sp.citer (8 - (0 : Int).toNat) _)), (4, TV.int .i64 (W.add .i64 i 1))] [] = _
        rw [W.add_i64 (by omega) (by omega)]; rfl
      · show ((b.length : Int) - (i + 1)).toNat < ((b.length : Int) - i).toNat; omega
      · show 0 ≤ i + 1; omega
      · show i + 1 ≤ b.length; omega
      · intro n
        have e : (i + 1).toNat = i.toNat + 1 := by omega
        have := hΦ n
        show Φ .normal (mk57 (b, Sp.crc _ (b.drop (i + 1).toNat), n))
        rw [e]; exact this
    · have : b.drop i.toNat = [] := List.drop_eq_nil_of_le (by omega)
      rw [this] at hΦ
      have e : Sp.crc s [] = s := by show ((s.toNat : Nat) : Int) = s; omega
      rw [e] at hΦ; exact hΦ i
  refine good_by (blk := blk57) (lab := noneK) (fn := Try.f57) wide hL ⟨by kernel_rfl, by kernel_rfl, by kernel_rfl, by kernel_rfl⟩ (lamOk_body (by kernel_rfl) (by kernel_rfl) (fun id ψ h => ?_) (fun l rest ψ _ hl => by cases hl)) fun d hd => ?_
  · have h : blk57 id = some ψ := h
    unfold blk57 at h
    split at h
    · rename_i hb
      have := Nat.eq_of_beq_eq_true hb
      subst this
      cases h; exact outer
    · obtain ⟨rfl, rfl⟩ := one_some h
      exact inner
  · obtain ⟨b, x⟩ : List Int × Unit := d
    obtain ⟨hb, hl⟩ : Sp.bytes b ∧ b.length < 1000000 := hd
    refine Eq.mpr (nf57 L b _) ⟨(b, 4294967295, 0), rfl, ⟨hb, hl, ?_, ?_, ?_, ?_⟩, fun n => ?_⟩
    · show (0 : Int) ≤ 4294967295; omega
    · show (4294967295 : Int) < 4294967296; omega
    · show (0 : Int) ≤ 0; omega
    · show (0 : Int) ≤ b.length; omega
    · have hc := Sp.crc_in (l := b) (s := 4294967295) hb (by omega) (by omega)
      show TV.int .u32 (W.inv .u32 (Sp.crc 4294967295 b)) = TV.int .u32 (4294967295 - Sp.crc 4294967295 b)
      rw [Sp.inv_u32 hc.1 hc.2]
end Go.Proofs.Ytcmjccjbgidinaa
end

section
namespace Go.Proofs.Ytcmjccjbgidinaa
open Go.AbsM
def ctr39o : TCtr := .det 39 [.l 5 (.int .u8)] (fun (d : List Int × Unit) => d.1 ≠ [] ∧ d.1.length < 1000000) (fun (d : List Int × Unit) => .o (.own 5 (.int .u8) d.1)) fun _ => rfl
theorem nf39 (b : List Int) (Q : TV → Prop) : wpFn Try.prog (knownL [] noneK noneK) Try.f39 [.c (.sl 5 (.int .u8) (.mk b))] Q = (
  grd (W.bnot (W.none b)) (grd (W.nle (W.nmul (W.nadd (0 : Nat) (W.len b)) (1 : Nat)) (140737488355328 : Nat)) (Q (TV.o (T1.own (5 : Nat) (VT.int IntKind.u8) (asT (List Int) (W.app [] b))))))) := by kernel_rfl
end Go.Proofs.Ytcmjccjbgidinaa
end

section
namespace Go.Proofs.Ytcmjccjbgidinaa
open Go.AbsM
theorem good39o : GoodC Try.prog ctr39o := by
  refine good_plain (fn := Try.f39) wide .nil ⟨by kernel_rfl, by kernel_rfl, by kernel_rfl, by kernel_rfl⟩ (by kernel_rfl) fun d hd => Blk.un ?_
  obtain ⟨b, x⟩ : List Int × Unit := d
  obtain ⟨h1, h2⟩ : b ≠ [] ∧ b.length < 1000000 := hd
  refine Blk.nf (nf39 b _) ?_
  have e1 : W.bnot (W.none b) = true := by
    cases b with
    | nil => exact absurd rfl h1
    | cons a r => rfl
  refine grd_true e1 (grd_nle (by simp only [W.nmul, W.nadd, W.len]; omega) ?_)
  rfl
noncomputable def envC : Env := envN Try.prog (fun _ _ => false)
noncomputable def bC : Code := bodyOf Try.f39
def slC0 : List AV := [.sl 5 [], .und, .nils, .und, .und, .und, .und, .und]
def slC1 : List AV := [.sl 5 [], .und, .nils, .sl 5 [], .und, .und, .und, .und]
theorem call39 (S : List Store) : CallC Try.prog 39 [.sl 5 []] S S (.sl 5 []) :=
  clone_empty (n := 20) (E := envC) (fn := Try.f39) (e := 5) (T := 31) (e' := 5) (R0 := seqL bC) (C := seqR (seqL (seqR bC))) (K := seqR (seqR bC)) (i1 := regId (seqL (seqL (seqR bC)))) (o1 := regOp (seqL (seqL (seqR bC))) 0) (o2 := regOp (seqL (seqL (seqR bC))) 1) (x := .tmp 3) (ty := 31) (sl0 := slC0) (sl1 := slC1) (d := 4)
    (s3 := fun S => stOf (Go.AbsM.runN Try.prog envC 20 (.code (seqR (seqL (seqR bC)))) ⟨slC1.set 4 (.x (.bool true)), [] :: S⟩))
    (s4 := fun S => stOf (Go.AbsM.runN Try.prog envC 20 (.code (seqR (seqL (seqR bC)))) ⟨slC1.set 4 (.x (.bool false)), [] :: S⟩))
    (s5 := fun S => stOf (Go.AbsM.runN Try.prog envC 20 (.code (seqR (seqR bC))) (stOf (Go.AbsM.runN Try.prog envC 20 (.code (seqR (seqL (seqR bC)))) ⟨slC1.set 4 (.x (.bool false)), [] :: S⟩))))
    (envN_ok Try.prog _ wide) (by kernel_rfl) (by kernel_rfl) (of_decide_eq_true (by kernel_rfl)) (by kernel_rfl) (fun S => by kernel_rfl) (by kernel_rfl) (by kernel_rfl) (fun S => by kernel_rfl) (by kernel_rfl) (by kernel_rfl) (by kernel_rfl) (fun S => by kernel_rfl)
    (fun S => by kernel_rfl) (fun S => by kernel_rfl) (fun S => by kernel_rfl) (fun S => by kernel_rfl) (fun S => by kernel_rfl) S
def ctr39 : TCtr where
  f := 39
  sig := [.l 5 (.int .u8)]
  pre := fun (d : List Int × Unit) => d.1.length < 1000000
  out := fun (d : List Int × Unit) => if d.1.length = 0 then TV.l 5 (.int .u8) [] else .o (.own 5 (.int .u8) d.1)
  outK := fun (d : List Int × Unit) K => (d.1.length = 0 → K (TV.l 5 (.int .u8) [])) ∧ (d.1.length ≠ 0 → K (.o (.own 5 (.int .u8) d.1)))
  outK_ok := fun (d : List Int × Unit) K h => by
    show K (if d.1.length = 0 then _ else _)
    split
    · exact h.1 (by assumption)
    · exact h.2 (by assumption)
  outOk := fun (d : List Int × Unit) => by
    show TV.outOk (if d.1.length = 0 then _ else _) = true
    split <;> rfl
theorem good39 : GoodC Try.prog ctr39 where
  there := good39o.there
  cells := good39o.cells
  call := fun d hp S => by
    obtain ⟨b, x⟩ : List Int × Unit := d
    have hp : b.length < 1000000 := hp
    by_cases h : b.length = 0
    · have e : ctr39.out (b, x) = TV.l 5 (.int .u8) [] := if_pos h
      have hb : b = [] := List.length_eq_zero_iff.1 h
      subst hb
      exact Eq.mpr (congrArg (fun y => CallC Try.prog ctr39.f ((t1s ctr39.sig (([] : List Int), x)).map (T1.emb [])) S S y) (congrArg (TV.emb []) e)) (call39 S)
    · have e : ctr39.out (b, x) = .o (.own 5 (.int .u8) b) := if_neg h
      exact Eq.mpr (congrArg (fun y => CallC Try.prog ctr39.f ((t1s ctr39.sig (b, x)).map (T1.emb [])) S S y) (congrArg (TV.emb []) e)) (good39o.call (b, x) ⟨fun h' : b = [] => h (by rw [h']; rfl), hp⟩ S)
end Go.Proofs.Ytcmjccjbgidinaa
end

section
namespace Go.Proofs.Ytcmjccjbgidinaa
open Go.AbsM
def i64P (n : Int) : Prop := -9223372036854775808 ≤ n ∧ n < 9223372036854775808
def ctr56 : TCtr := .det 56 [.l 5 (.int .u8), .v (.int .u32)] (fun (d : List Int × Int × Unit) => d.1.length < 1000000 ∧ 0 ≤ d.2.1 ∧ d.2.1 < 4294967296) (fun (d : List Int × Int × Unit) => .o (.own 5 (.int .u8) (d.1 ++ Sp.four d.2.1))) fun _ => rfl
def ctr35 : TCtr := .det 35 [.v (.int .i64)] (fun (d : Int × Unit) => i64P d.1) (fun (d : Int × Unit) => TV.int .i64 (Sp.psz d.1)) fun _ => rfl
def ctr60 : TCtr := .det 60 [.v (.int .i64)] (fun (d : Int × Unit) => i64P d.1) (fun (d : Int × Unit) => TV.int .i64 (Sp.psz d.1)) fun _ => rfl
def outW (d : List Int × Unit) : TV := if 8192 < d.1.length then .tup [.c (.a .nils), .c (.a (.x (.int .i64 4)))] else .tup [.own 5 (.int .u8) (Sp.wrap d.1), .c (.a (.x (.int .i64 0)))]
def outWK (d : List Int × Unit) (K : TV → Prop) : Prop := (8192 < d.1.length → K (.tup [.c (.a .nils), .c (.a (.x (.int .i64 4)))])) ∧ (¬ 8192 < d.1.length → K (.tup [.own 5 (.int .u8) (Sp.wrap d.1), .c (.a (.x (.int .i64 0)))]))
def ctrW (f : FuncId) : TCtr where
  f := f
  sig := [.l 5 (.int .u8)]
  pre := fun (d : List Int × Unit) => Sp.bytes d.1 ∧ d.1.length < 1000000
  out := outW
  outK := outWK
  outK_ok := fun (d : List Int × Unit) K h => by
    show K (outW d)
    unfold outW
    split
    · exact h.1 (by assumption)
    · exact h.2 (by assumption)
  outOk := fun (d : List Int × Unit) => by
    unfold outW
    split <;> rfl
def ctr44 : TCtr := ctrW 44
def ctr47 : TCtr := ctrW 47
def mk47 (i : List Int) : TSt := mkS 27 [(4, TV.h 11)] [(11, .arr false 5 (.int .u8) i)]
def psi47 (i : List Int) (Φ : Post) : Prop := i.length + Sp.padn i.length < 100000 ∧ Φ .normal (mk47 (Sp.padd i))
def blk47 : Nat → Option Piece := one 0 (loopP 27 [4] [11] mk47 psi47)
def wrapL : List TCtr := [ctr35, ctr50, ctr51, ctr52]
def rwrapL : List TCtr := [ctr55, ctr56, ctr57]
theorem nf56 (b : List Int) (n : Int) (Q : TV → Prop) : wpFn Try.prog (knownL [] noneK noneK) Try.f56 [.c (.sl 5 (.int .u8) (.mk b)), .c (.a (.x (.int .u32 n)))] Q = (
  grd (W.nle (W.nmul (W.nadd (0 : Nat) (W.len b)) (1 : Nat)) (140737488355328 : Nat)) (grd (W.nle (W.nmul (W.nadd (W.len (W.app [] b)) (W.len [W.wrap IntKind.u8 n, W.wrap IntKind.u8 (W.shr IntKind.u32 n (8 : Int)), W.wrap IntKind.u8 (W.shr IntKind.u32 n (16 : Int)), W.wrap IntKind.u8 (W.shr IntKind.u32 n (24 : Int))])) (1 : Nat)) (140737488355328 : Nat)) (Q (TV.o (T1.own (5 : Nat) (VT.int IntKind.u8) (asT (List Int) (W.app (W.app [] b) [W.wrap IntKind.u8 n, W.wrap IntKind.u8 (W.shr IntKind.u32 n (8 : Int)), W.wrap IntKind.u8 (W.shr IntKind.u32 n (16 : Int)), W.wrap IntKind.u8 (W.shr IntKind.u32 n (24 : Int))]))))))) := by kernel_rfl
theorem nf35 (n : Int) (Q : TV → Prop) : wpFn Try.prog (knownL [ctr50] noneK noneK) Try.f35 [.c (.a (.x (.int .i64 n)))] Q = (
  brc (W.ilt n (0 : Int)) (Q (TV.int IntKind.i64 (0 : Int))) (brc (W.igt n (8192 : Int)) (Q (TV.int IntKind.i64 (0 : Int))) (((0 : Int) ≤ W.wrap IntKind.u64 n ∧ W.wrap IntKind.u64 n < (18446744073709551616 : Int) ∧ (0 : Nat) < (100000 : Nat)) ∧ Q (TV.int IntKind.i64 (W.quo IntKind.i64 (W.sub IntKind.i64 (W.add IntKind.i64 (W.add IntKind.i64 (W.add IntKind.i64 (4 : Int) (W.ofNat (W.len (Sp.enc (W.wrap IntKind.u64 n))))) n) (64 : Int)) (1 : Int)) (64 : Int)))))) := by kernel_rfl
theorem nf60 (n : Int) (Q : TV → Prop) : wpFn Try.prog (knownL [ctr55] noneK noneK) Try.f60 [.c (.a (.x (.int .i64 n)))] Q = (
  brc (W.ilt n (0 : Int)) (Q (TV.int IntKind.i64 (0 : Int))) (brc (W.igt n (8192 : Int)) (Q (TV.int IntKind.i64 (0 : Int))) (((0 : Int) ≤ W.wrap IntKind.u64 n ∧ W.wrap IntKind.u64 n < (18446744073709551616 : Int) ∧ (0 : Nat) < (100000 : Nat)) ∧ Q (TV.int IntKind.i64 (W.quo IntKind.i64 (W.sub IntKind.i64 (W.add IntKind.i64 (W.add IntKind.i64 (W.add IntKind.i64 (4 : Int) (W.ofNat (W.len (Sp.enc (W.wrap IntKind.u64 n))))) n) (64 : Int)) (1 : Int)) (64 : Int)))))) := by kernel_rfl
theorem nf44 (b : List Int) (Q : TV → Prop) : wpFn Try.prog (knownL wrapL noneK noneK) Try.f44 [.c (.sl 5 (.int .u8) (.mk b))] Q = (
  brc (W.igt (W.ofNat (W.len b)) (8192 : Int)) (Q (TV.tup [T1.c (TC.a AV.nils), T1.c (TC.a (AV.x (Value.int IntKind.i64 (4 : Int))))])) (((-9223372036854775808 : Int) ≤ W.ofNat (W.len b) ∧ W.ofNat (W.len b) < (9223372036854775808 : Int)) ∧ grd (W.ile (0 : Int) (W.sub IntKind.i64 (W.mul IntKind.i64 (Sp.psz (W.ofNat (W.len b))) (64 : Int)) (4 : Int))) (grd (W.ile (W.sub IntKind.i64 (W.mul IntKind.i64 (Sp.psz (W.ofNat (W.len b))) (64 : Int)) (4 : Int)) (W.sub IntKind.i64 (W.mul IntKind.i64 (Sp.psz (W.ofNat (W.len b))) (64 : Int)) (4 : Int))) (grd (W.ile (W.sub IntKind.i64 (W.mul IntKind.i64 (Sp.psz (W.ofNat (W.len b))) (64 : Int)) (4 : Int)) (9223372036854775807 : Int)) (grd (W.ile (W.bys (1 : Nat) (W.sub IntKind.i64 (W.mul IntKind.i64 (Sp.psz (W.ofNat (W.len b))) (64 : Int)) (4 : Int))) (281474976710656 : Int)) (((0 : Int) ≤ W.wrap IntKind.u64 (W.ofNat (W.len b)) ∧ W.wrap IntKind.u64 (W.ofNat (W.len b)) < (18446744073709551616 : Int) ∧ (0 : Nat) < (100000 : Nat)) ∧ grd (W.ile (W.ofNat (W.len (Sp.enc (W.wrap IntKind.u64 (W.ofNat (W.len b)))))) (W.ofNat (W.len (W.app (W.take (W.nmin (W.len (Sp.enc (W.wrap IntKind.u64 (W.ofNat (W.len b))))) (W.len (W.rep (W.toNat (W.sub IntKind.i64 (W.mul IntKind.i64 (Sp.psz (W.ofNat (W.len b))) (64 : Int)) (4 : Int))) (0 : Int)))) (Sp.enc (W.wrap IntKind.u64 (W.ofNat (W.len b))))) (W.drop (W.nmin (W.len (Sp.enc (W.wrap IntKind.u64 (W.ofNat (W.len b))))) (W.len (W.rep (W.toNat (W.sub IntKind.i64 (W.mul IntKind.i64 (Sp.psz (W.ofNat (W.len b))) (64 : Int)) (4 : Int))) (0 : Int)))) (W.rep (W.toNat (W.sub IntKind.i64 (W.mul IntKind.i64 (Sp.psz (W.ofNat (W.len b))) (64 : Int)) (4 : Int))) (0 : Int))))))) (grd (W.neq (W.len (W.app (W.take (W.nmin (W.len (Sp.enc (W.wrap IntKind.u64 (W.ofNat (W.len b))))) (W.len (W.rep (W.toNat (W.sub IntKind.i64 (W.mul IntKind.i64 (Sp.psz (W.ofNat (W.len b))) (64 : Int)) (4 : Int))) (0 : Int)))) (Sp.enc (W.wrap IntKind.u64 (W.ofNat (W.len b))))) (W.drop (W.nmin (W.len (Sp.enc (W.wrap IntKind.u64 (W.ofNat (W.len b))))) (W.len (W.rep (W.toNat (W.sub IntKind.i64 (W.mul IntKind.i64 (Sp.psz (W.ofNat (W.len b))) (64 : Int)) (4 : Int))) (0 : Int)))) (W.rep (W.toNat (W.sub IntKind.i64 (W.mul IntKind.i64 (Sp.psz (W.ofNat (W.len b))) (64 : Int)) (4 : Int))) (0 : Int))))) (W.len (W.app (W.take (W.nmin (W.len (Sp.enc (W.wrap IntKind.u64 (W.ofNat (W.len b))))) (W.len (W.rep (W.toNat (W.sub IntKind.i64 (W.mul IntKind.i64 (Sp.psz (W.ofNat (W.len b))) (64 : Int)) (4 : Int))) (0 : Int)))) (Sp.enc (W.wrap IntKind.u64 (W.ofNat (W.len b))))) (W.drop (W.nmin (W.len (Sp.enc (W.wrap IntKind.u64 (W.ofNat (W.len b))))) (W.len (W.rep (W.toNat (W.sub IntKind.i64 (W.mul IntKind.i64 (Sp.psz (W.ofNat (W.len b))) (64 : Int)) (4 : Int))) (0 : Int)))) (W.rep (W.toNat (W.sub IntKind.i64 (W.mul IntKind.i64 (Sp.psz (W.ofNat (W.len b))) (64 : Int)) (4 : Int))) (0 : Int)))))) (grd (W.nle (W.nadd (W.toNat (W.ofNat (W.len (Sp.enc (W.wrap IntKind.u64 (W.ofNat (W.len b))))))) (W.nsub (W.len (W.app (W.take (W.nmin (W.len (Sp.enc (W.wrap IntKind.u64 (W.ofNat (W.len b))))) (W.len (W.rep (W.toNat (W.sub IntKind.i64 (W.mul IntKind.i64 (Sp.psz (W.ofNat (W.len b))) (64 : Int)) (4 : Int))) (0 : Int)))) (Sp.enc (W.wrap IntKind.u64 (W.ofNat (W.len b))))) (W.drop (W.nmin (W.len (Sp.enc (W.wrap IntKind.u64 (W.ofNat (W.len b))))) (W.len (W.rep (W.toNat (W.sub IntKind.i64 (W.mul IntKind.i64 (Sp.psz (W.ofNat (W.len b))) (64 : Int)) (4 : Int))) (0 : Int)))) (W.rep (W.toNat (W.sub IntKind.i64 (W.mul IntKind.i64 (Sp.psz (W.ofNat (W.len b))) (64 : Int)) (4 : Int))) (0 : Int))))) (W.toNat (W.ofNat (W.len (Sp.enc (W.wrap IntKind.u64 (W.ofNat (W.len b))))))))) (W.len (W.app (W.take (W.nmin (W.len (Sp.enc (W.wrap IntKind.u64 (W.ofNat (W.len b))))) (W.len (W.rep (W.toNat (W.sub IntKind.i64 (W.mul IntKind.i64 (Sp.psz (W.ofNat (W.len b))) (64 : Int)) (4 : Int))) (0 : Int)))) (Sp.enc (W.wrap IntKind.u64 (W.ofNat (W.len b))))) (W.drop (W.nmin (W.len (Sp.enc (W.wrap IntKind.u64 (W.ofNat (W.len b))))) (W.len (W.rep (W.toNat (W.sub IntKind.i64 (W.mul IntKind.i64 (Sp.psz (W.ofNat (W.len b))) (64 : Int)) (4 : Int))) (0 : Int)))) (W.rep (W.toNat (W.sub IntKind.i64 (W.mul IntKind.i64 (Sp.psz (W.ofNat (W.len b))) (64 : Int)) (4 : Int))) (0 : Int)))))) ((Sp.bytes (W.app (W.take (W.toNat (W.ofNat (W.len (Sp.enc (W.wrap IntKind.u64 (W.ofNat (W.len b))))))) (W.app (W.take (W.nmin (W.len (Sp.enc (W.wrap IntKind.u64 (W.ofNat (W.len b))))) (W.len (W.rep (W.toNat (W.sub IntKind.i64 (W.mul IntKind.i64 (Sp.psz (W.ofNat (W.len b))) (64 : Int)) (4 : Int))) (0 : Int)))) (Sp.enc (W.wrap IntKind.u64 (W.ofNat (W.len b))))) (W.drop (W.nmin (W.len (Sp.enc (W.wrap IntKind.u64 (W.ofNat (W.len b))))) (W.len (W.rep (W.toNat (W.sub IntKind.i64 (W.mul IntKind.i64 (Sp.psz (W.ofNat (W.len b))) (64 : Int)) (4 : Int))) (0 : Int)))) (W.rep (W.toNat (W.sub IntKind.i64 (W.mul IntKind.i64 (Sp.psz (W.ofNat (W.len b))) (64 : Int)) (4 : Int))) (0 : Int))))) (W.app (W.take (W.nmin (W.len b) (W.nsub (W.len (W.app (W.take (W.nmin (W.len (Sp.enc (W.wrap IntKind.u64 (W.ofNat (W.len b))))) (W.len (W.rep (W.toNat (W.sub IntKind.i64 (W.mul IntKind.i64 (Sp.psz (W.ofNat (W.len b))) (64 : Int)) (4 : Int))) (0 : Int)))) (Sp.enc (W.wrap IntKind.u64 (W.ofNat (W.len b))))) (W.drop (W.nmin (W.len (Sp.enc (W.wrap IntKind.u64 (W.ofNat (W.len b))))) (W.len (W.rep (W.toNat (W.sub IntKind.i64 (W.mul IntKind.i64 (Sp.psz (W.ofNat (W.len b))) (64 : Int)) (4 : Int))) (0 : Int)))) (W.rep (W.toNat (W.sub IntKind.i64 (W.mul IntKind.i64 (Sp.psz (W.ofNat (W.len b))) (64 : Int)) (4 : Int))) (0 : Int))))) (W.toNat (W.ofNat (W.len (Sp.enc (W.wrap IntKind.u64 (W.ofNat (W.len b))))))))) b) (W.drop (W.nadd (W.toNat (W.ofNat (W.len (Sp.enc (W.wrap IntKind.u64 (W.ofNat (W.len b))))))) (W.nmin (W.len b) (W.nsub (W.len (W.app (W.take (W.nmin (W.len (Sp.enc (W.wrap IntKind.u64 (W.ofNat (W.len b))))) (W.len (W.rep (W.toNat (W.sub IntKind.i64 (W.mul IntKind.i64 (Sp.psz (W.ofNat (W.len b))) (64 : Int)) (4 : Int))) (0 : Int)))) (Sp.enc (W.wrap IntKind.u64 (W.ofNat (W.len b))))) (W.drop (W.nmin (W.len (Sp.enc (W.wrap IntKind.u64 (W.ofNat (W.len b))))) (W.len (W.rep (W.toNat (W.sub IntKind.i64 (W.mul IntKind.i64 (Sp.psz (W.ofNat (W.len b))) (64 : Int)) (4 : Int))) (0 : Int)))) (W.rep (W.toNat (W.sub IntKind.i64 (W.mul IntKind.i64 (Sp.psz (W.ofNat (W.len b))) (64 : Int)) (4 : Int))) (0 : Int))))) (W.toNat (W.ofNat (W.len (Sp.enc (W.wrap IntKind.u64 (W.ofNat (W.len b)))))))))) (W.app (W.take (W.nmin (W.len (Sp.enc (W.wrap IntKind.u64 (W.ofNat (W.len b))))) (W.len (W.rep (W.toNat (W.sub IntKind.i64 (W.mul IntKind.i64 (Sp.psz (W.ofNat (W.len b))) (64 : Int)) (4 : Int))) (0 : Int)))) (Sp.enc (W.wrap IntKind.u64 (W.ofNat (W.len b))))) (W.drop (W.nmin (W.len (Sp.enc (W.wrap IntKind.u64 (W.ofNat (W.len b))))) (W.len (W.rep (W.toNat (W.sub IntKind.i64 (W.mul IntKind.i64 (Sp.psz (W.ofNat (W.len b))) (64 : Int)) (4 : Int))) (0 : Int)))) (W.rep (W.toNat (W.sub IntKind.i64 (W.mul IntKind.i64 (Sp.psz (W.ofNat (W.len b))) (64 : Int)) (4 : Int))) (0 : Int))))))) ∧ List.length (W.app (W.take (W.toNat (W.ofNat (W.len (Sp.enc (W.wrap IntKind.u64 (W.ofNat (W.len b))))))) (W.app (W.take (W.nmin (W.len (Sp.enc (W.wrap IntKind.u64 (W.ofNat (W.len b))))) (W.len (W.rep (W.toNat (W.sub IntKind.i64 (W.mul IntKind.i64 (Sp.psz (W.ofNat (W.len b))) (64 : Int)) (4 : Int))) (0 : Int)))) (Sp.enc (W.wrap IntKind.u64 (W.ofNat (W.len b))))) (W.drop (W.nmin (W.len (Sp.enc (W.wrap IntKind.u64 (W.ofNat (W.len b))))) (W.len (W.rep (W.toNat (W.sub IntKind.i64 (W.mul IntKind.i64 (Sp.psz (W.ofNat (W.len b))) (64 : Int)) (4 : Int))) (0 : Int)))) (W.rep (W.toNat (W.sub IntKind.i64 (W.mul IntKind.i64 (Sp.psz (W.ofNat (W.len b))) (64 : Int)) (4 : Int))) (0 : Int))))) (W.app (W.take (W.nmin (W.len b) (W.nsub (W.len (W.app (W.take (W.nmin (W.len (Sp.enc (W.wrap IntKind.u64 (W.ofNat (W.len b))))) (W.len (W.rep (W.toNat (W.sub IntKind.i64 (W.mul IntKind.i64 (Sp.psz (W.ofNat (W.len b))) (64 : Int)) (4 : Int))) (0 : Int)))) (Sp.enc (W.wrap IntKind.u64 (W.ofNat (W.len b))))) (W.drop (W.nmin (W.len (Sp.enc (W.wrap IntKind.u64 (W.ofNat (W.len b))))) (W.len (W.rep (W.toNat (W.sub IntKind.i64 (W.mul IntKind.i64 (Sp.psz (W.ofNat (W.len b))) (64 : Int)) (4 : Int))) (0 : Int)))) (W.rep (W.toNat (W.sub IntKind.i64 (W.mul IntKind.i64 (Sp.psz (W.ofNat (W.len b))) (64 : Int)) (4 : Int))) (0 : Int))))) (W.toNat (W.ofNat (W.len (Sp.enc (W.wrap IntKind.u64 (W.ofNat (W.len b))))))))) b) (W.drop (W.nadd (W.toNat (W.ofNat (W.len (Sp.enc (W.wrap IntKind.u64 (W.ofNat (W.len b))))))) (W.nmin (W.len b) (W.nsub (W.len (W.app (W.take (W.nmin (W.len (Sp.enc (W.wrap IntKind.u64 (W.ofNat (W.len b))))) (W.len (W.rep (W.toNat (W.sub IntKind.i64 (W.mul IntKind.i64 (Sp.psz (W.ofNat (W.len b))) (64 : Int)) (4 : Int))) (0 : Int)))) (Sp.enc (W.wrap IntKind.u64 (W.ofNat (W.len b))))) (W.drop (W.nmin (W.len (Sp.enc (W.wrap IntKind.u64 (W.ofNat (W.len b))))) (W.len (W.rep (W.toNat (W.sub IntKind.i64 (W.mul IntKind.i64 (Sp.psz (W.ofNat (W.len b))) (64 : Int)) (4 : Int))) (0 : Int)))) (W.rep (W.toNat (W.sub IntKind.i64 (W.mul IntKind.i64 (Sp.psz (W.ofNat (W.len b))) (64 : Int)) (4 : Int))) (0 : Int))))) (W.toNat (W.ofNat (W.len (Sp.enc (W.wrap IntKind.u64 (W.ofNat (W.len b)))))))))) (W.app (W.take (W.nmin (W.len (Sp.enc (W.wrap IntKind.u64 (W.ofNat (W.len b))))) (W.len (W.rep (W.toNat (W.sub IntKind.i64 (W.mul IntKind.i64 (Sp.psz (W.ofNat (W.len b))) (64 : Int)) (4 : Int))) (0 : Int)))) (Sp.enc (W.wrap IntKind.u64 (W.ofNat (W.len b))))) (W.drop (W.nmin (W.len (Sp.enc (W.wrap IntKind.u64 (W.ofNat (W.len b))))) (W.len (W.rep (W.toNat (W.sub IntKind.i64 (W.mul IntKind.i64 (Sp.psz (W.ofNat (W.len b))) (64 : Int)) (4 : Int))) (0 : Int)))) (W.rep (W.toNat (W.sub IntKind.i64 (W.mul IntKind.i64 (Sp.psz (W.ofNat (W.len b))) (64 : Int)) (4 : Int))) (0 : Int))))))) < (1000000 : Nat)) ∧ ((0 : Nat) < (1000000 : Nat) ∧ (0 : Int) ≤ Sp.sum (W.app (W.take (W.toNat (W.ofNat (W.len (Sp.enc (W.wrap IntKind.u64 (W.ofNat (W.len b))))))) (W.app (W.take (W.nmin (W.len (Sp.enc (W.wrap IntKind.u64 (W.ofNat (W.len b))))) (W.len (W.rep (W.toNat (W.sub IntKind.i64 (W.mul IntKind.i64 (Sp.psz (W.ofNat (W.len b))) (64 : Int)) (4 : Int))) (0 : Int)))) (Sp.enc (W.wrap IntKind.u64 (W.ofNat (W.len b))))) (W.drop (W.nmin (W.len (Sp.enc (W.wrap IntKind.u64 (W.ofNat (W.len b))))) (W.len (W.rep (W.toNat (W.sub IntKind.i64 (W.mul IntKind.i64 (Sp.psz (W.ofNat (W.len b))) (64 : Int)) (4 : Int))) (0 : Int)))) (W.rep (W.toNat (W.sub IntKind.i64 (W.mul IntKind.i64 (Sp.psz (W.ofNat (W.len b))) (64 : Int)) (4 : Int))) (0 : Int))))) (W.app (W.take (W.nmin (W.len b) (W.nsub (W.len (W.app (W.take (W.nmin (W.len (Sp.enc (W.wrap IntKind.u64 (W.ofNat (W.len b))))) (W.len (W.rep (W.toNat (W.sub IntKind.i64 (W.mul IntKind.i64 (Sp.psz (W.ofNat (W.len b))) (64 : Int)) (4 : Int))) (0 : Int)))) (Sp.enc (W.wrap IntKind.u64 (W.ofNat (W.len b))))) (W.drop (W.nmin (W.len (Sp.enc (W.wrap IntKind.u64 (W.ofNat (W.len b))))) (W.len (W.rep (W.toNat (W.sub IntKind.i64 (W.mul IntKind.i64 (Sp.psz (W.ofNat (W.len b))) (64 : Int)) (4 : Int))) (0 : Int)))) (W.rep (W.toNat (W.sub IntKind.i64 (W.mul IntKind.i64 (Sp.psz (W.ofNat (W.len b))) (64 : Int)) (4 : Int))) (0 : Int))))) (W.toNat (W.ofNat (W.len (Sp.enc (W.wrap IntKind.u64 (W.ofNat (W.len b))))))))) b) (W.drop (W.nadd (W.toNat (W.ofNat (W.len (Sp.enc (W.wrap IntKind.u64 (W.ofNat (W.len b))))))) (W.nmin (W.len b) (W.nsub (W.len (W.app (W.take (W.nmin (W.len (Sp.enc (W.wrap IntKind.u64 (W.ofNat (W.len b))))) (W.len (W.rep (W.toNat (W.sub IntKind.i64 (W.mul IntKind.i64 (Sp.psz (W.ofNat (W.len b))) (64 : Int)) (4 : Int))) (0 : Int)))) (Sp.enc (W.wrap IntKind.u64 (W.ofNat (W.len b))))) (W.drop (W.nmin (W.len (Sp.enc (W.wrap IntKind.u64 (W.ofNat (W.len b))))) (W.len (W.rep (W.toNat (W.sub IntKind.i64 (W.mul IntKind.i64 (Sp.psz (W.ofNat (W.len b))) (64 : Int)) (4 : Int))) (0 : Int)))) (W.rep (W.toNat (W.sub IntKind.i64 (W.mul IntKind.i64 (Sp.psz (W.ofNat (W.len b))) (64 : Int)) (4 : Int))) (0 : Int))))) (W.toNat (W.ofNat (W.len (Sp.enc (W.wrap IntKind.u64 (W.ofNat (W.len b)))))))))) (W.app (W.take (W.nmin (W.len (Sp.enc (W.wrap IntKind.u64 (W.ofNat (W.len b))))) (W.len (W.rep (W.toNat (W.sub IntKind.i64 (W.mul IntKind.i64 (Sp.psz (W.ofNat (W.len b))) (64 : Int)) (4 : Int))) (0 : Int)))) (Sp.enc (W.wrap IntKind.u64 (W.ofNat (W.len b))))) (W.drop (W.nmin (W.len (Sp.enc (W.wrap IntKind.u64 (W.ofNat (W.len b))))) (W.len (W.rep (W.toNat (W.sub IntKind.i64 (W.mul IntKind.i64 (Sp.psz (W.ofNat (W.len b))) (64 : Int)) (4 : Int))) (0 : Int)))) (W.rep (W.toNat (W.sub IntKind.i64 (W.mul IntKind.i64 (Sp.psz (W.ofNat (W.len b))) (64 : Int)) (4 : Int))) (0 : Int))))))) ∧ Sp.sum (W.app (W.take (W.toNat (W.ofNat (W.len (Sp.enc (W.wrap IntKind.u64 (W.ofNat (W.len b))))))) (W.app (W.take (W.nmin (W.len (Sp.enc (W.wrap IntKind.u64 (W.ofNat (W.len b))))) (W.len (W.rep (W.toNat (W.sub IntKind.i64 (W.mul IntKind.i64 (Sp.psz (W.ofNat (W.len b))) (64 : Int)) (4 : Int))) (0 : Int)))) (Sp.enc (W.wrap IntKind.u64 (W.ofNat (W.len b))))) (W.drop (W.nmin (W.len (Sp.enc (W.wrap IntKind.u64 (W.ofNat (W.len b))))) (W.len (W.rep (W.toNat (W.sub IntKind.i64 (W.mul IntKind.i64 (Sp.psz (W.ofNat (W.len b))) (64 : Int)) (4 : Int))) (0 : Int)))) (W.rep (W.toNat (W.sub IntKind.i64 (W.mul IntKind.i64 (Sp.psz (W.ofNat (W.len b))) (64 : Int)) (4 : Int))) (0 : Int))))) (W.app (W.take (W.nmin (W.len b) (W.nsub (W.len (W.app (W.take (W.nmin (W.len (Sp.enc (W.wrap IntKind.u64 (W.ofNat (W.len b))))) (W.len (W.rep (W.toNat (W.sub IntKind.i64 (W.mul IntKind.i64 (Sp.psz (W.ofNat (W.len b))) (64 : Int)) (4 : Int))) (0 : Int)))) (Sp.enc (W.wrap IntKind.u64 (W.ofNat (W.len b))))) (W.drop (W.nmin (W.len (Sp.enc (W.wrap IntKind.u64 (W.ofNat (W.len b))))) (W.len (W.rep (W.toNat (W.sub IntKind.i64 (W.mul IntKind.i64 (Sp.psz (W.ofNat (W.len b))) (64 : Int)) (4 : Int))) (0 : Int)))) (W.rep (W.toNat (W.sub IntKind.i64 (W.mul IntKind.i64 (Sp.psz (W.ofNat (W.len b))) (64 : Int)) (4 : Int))) (0 : Int))))) (W.toNat (W.ofNat (W.len (Sp.enc (W.wrap IntKind.u64 (W.ofNat (W.len b))))))))) b) (W.drop (W.nadd (W.toNat (W.ofNat (W.len (Sp.enc (W.wrap IntKind.u64 (W.ofNat (W.len b))))))) (W.nmin (W.len b) (W.nsub (W.len (W.app (W.take (W.nmin (W.len (Sp.enc (W.wrap IntKind.u64 (W.ofNat (W.len b))))) (W.len (W.rep (W.toNat (W.sub IntKind.i64 (W.mul IntKind.i64 (Sp.psz (W.ofNat (W.len b))) (64 : Int)) (4 : Int))) (0 : Int)))) (Sp.enc (W.wrap IntKind.u64 (W.ofNat (W.len b))))) (W.drop (W.nmin (W.len (Sp.enc (W.wrap IntKind.u64 (W.ofNat (W.len b))))) (W.len (W.rep (W.toNat (W.sub IntKind.i64 (W.mul IntKind.i64 (Sp.psz (W.ofNat (W.len b))) (64 : Int)) (4 : Int))) (0 : Int)))) (W.rep (W.toNat (W.sub IntKind.i64 (W.mul IntKind.i64 (Sp.psz (W.ofNat (W.len b))) (64 : Int)) (4 : Int))) (0 : Int))))) (W.toNat (W.ofNat (W.len (Sp.enc (W.wrap IntKind.u64 (W.ofNat (W.len b)))))))))) (W.app (W.take (W.nmin (W.len (Sp.enc (W.wrap IntKind.u64 (W.ofNat (W.len b))))) (W.len (W.rep (W.toNat (W.sub IntKind.i64 (W.mul IntKind.i64 (Sp.psz (W.ofNat (W.len b))) (64 : Int)) (4 : Int))) (0 : Int)))) (Sp.enc (W.wrap IntKind.u64 (W.ofNat (W.len b))))) (W.drop (W.nmin (W.len (Sp.enc (W.wrap IntKind.u64 (W.ofNat (W.len b))))) (W.len (W.rep (W.toNat (W.sub IntKind.i64 (W.mul IntKind.i64 (Sp.psz (W.ofNat (W.len b))) (64 : Int)) (4 : Int))) (0 : Int)))) (W.rep (W.toNat (W.sub IntKind.i64 (W.mul IntKind.i64 (Sp.psz (W.ofNat (W.len b))) (64 : Int)) (4 : Int))) (0 : Int))))))) < (4294967296 : Int)) ∧ grd (W.nle (W.nmul (W.nadd (W.len (Sp.four (Sp.sum (W.app (W.take (W.toNat (W.ofNat (W.len (Sp.enc (W.wrap IntKind.u64 (W.ofNat (W.len b))))))) (W.app (W.take (W.nmin (W.len (Sp.enc (W.wrap IntKind.u64 (W.ofNat (W.len b))))) (W.len (W.rep (W.toNat (W.sub IntKind.i64 (W.mul IntKind.i64 (Sp.psz (W.ofNat (W.len b))) (64 : Int)) (4 : Int))) (0 : Int)))) (Sp.enc (W.wrap IntKind.u64 (W.ofNat (W.len b))))) (W.drop (W.nmin (W.len (Sp.enc (W.wrap IntKind.u64 (W.ofNat (W.len b))))) (W.len (W.rep (W.toNat (W.sub IntKind.i64 (W.mul IntKind.i64 (Sp.psz (W.ofNat (W.len b))) (64 : Int)) (4 : Int))) (0 : Int)))) (W.rep (W.toNat (W.sub IntKind.i64 (W.mul IntKind.i64 (Sp.psz (W.ofNat (W.len b))) (64 : Int)) (4 : Int))) (0 : Int))))) (W.app (W.take (W.nmin (W.len b) (W.nsub (W.len (W.app (W.take (W.nmin (W.len (Sp.enc (W.wrap IntKind.u64 (W.ofNat (W.len b))))) (W.len (W.rep (W.toNat (W.sub IntKind.i64 (W.mul IntKind.i64 (Sp.psz (W.ofNat (W.len b))) (64 : Int)) (4 : Int))) (0 : Int)))) (Sp.enc (W.wrap IntKind.u64 (W.ofNat (W.len b))))) (W.drop (W.nmin (W.len (Sp.enc (W.wrap IntKind.u64 (W.ofNat (W.len b))))) (W.len (W.rep (W.toNat (W.sub IntKind.i64 (W.mul IntKind.i64 (Sp.psz (W.ofNat (W.len b))) (64 : Int)) (4 : Int))) (0 : Int)))) (W.rep (W.toNat (W.sub IntKind.i64 (W.mul IntKind.i64 (Sp.psz (W.ofNat (W.len b))) (64 : Int)) (4 : Int))) (0 : Int))))) (W.toNat (W.ofNat (W.len (Sp.enc (W.wrap IntKind.u64 (W.ofNat (W.len b))))))))) b) (W.drop (W.nadd (W.toNat (W.ofNat (W.len (Sp.enc (W.wrap IntKind.u64 (W.ofNat (W.len b))))))) (W.nmin (W.len b) (W.nsub (W.len (W.app (W.take (W.nmin (W.len (Sp.enc (W.wrap IntKind.u64 (W.ofNat (W.len b))))) (W.len (W.rep (W.toNat (W.sub IntKind.i64 (W.mul IntKind.i64 (Sp.psz (W.ofNat (W.len b))) (64 : Int)) (4 : Int))) (0 : Int)))) (Sp.enc (W.wrap IntKind.u64 (W.ofNat (W.len b))))) (W.drop (W.nmin (W.len (Sp.enc (W.wrap IntKind.u64 (W.ofNat (W.len b))))) (W.len (W.rep (W.toNat (W.sub IntKind.i64 (W.mul IntKind.i64 (Sp.psz (W.ofNat (W.len b))) (64 : Int)) (4 : Int))) (0 : Int)))) (W.rep (W.toNat (W.sub IntKind.i64 (W.mul IntKind.i64 (Sp.psz (W.ofNat (W.len b))) (64 : Int)) (4 : Int))) (0 : Int))))) (W.toNat (W.ofNat (W.len (Sp.enc (W.wrap IntKind.u64 (W.ofNat (W.len b)))))))))) (W.app (W.take (W.nmin (W.len (Sp.enc (W.wrap IntKind.u64 (W.ofNat (W.len b))))) (W.len (W.rep (W.toNat (W.sub IntKind.i64 (W.mul IntKind.i64 (Sp.psz (W.ofNat (W.len b))) (64 : Int)) (4 : Int))) (0 : Int)))) (Sp.enc (W.wrap IntKind.u64 (W.ofNat (W.len b))))) (W.drop (W.nmin (W.len (Sp.enc (W.wrap IntKind.u64 (W.ofNat (W.len b))))) (W.len (W.rep (W.toNat (W.sub IntKind.i64 (W.mul IntKind.i64 (Sp.psz (W.ofNat (W.len b))) (64 : Int)) (4 : Int))) (0 : Int)))) (W.rep (W.toNat (W.sub IntKind.i64 (W.mul IntKind.i64 (Sp.psz (W.ofNat (W.len b))) (64 : Int)) (4 : Int))) (0 : Int)))))))))) (W.len (W.app (W.take (W.toNat (W.ofNat (W.len (Sp.enc (W.wrap IntKind.u64 (W.ofNat (W.len b))))))) (W.app (W.take (W.nmin (W.len (Sp.enc (W.wrap IntKind.u64 (W.ofNat (W.len b))))) (W.len (W.rep (W.toNat (W.sub IntKind.i64 (W.mul IntKind.i64 (Sp.psz (W.ofNat (W.len b))) (64 : Int)) (4 : Int))) (0 : Int)))) (Sp.enc (W.wrap IntKind.u64 (W.ofNat (W.len b))))) (W.drop (W.nmin (W.len (Sp.enc (W.wrap IntKind.u64 (W.ofNat (W.len b))))) (W.len (W.rep (W.toNat (W.sub IntKind.i64 (W.mul IntKind.i64 (Sp.psz (W.ofNat (W.len b))) (64 : Int)) (4 : Int))) (0 : Int)))) (W.rep (W.toNat (W.sub IntKind.i64 (W.mul IntKind.i64 (Sp.psz (W.ofNat (W.len b))) (64 : Int)) (4 : Int))) (0 : Int))))) (W.app (W.take (W.nmin (W.len b) (W.nsub (W.len (W.app (W.take (W.nmin (W.len (Sp.enc (W.wrap IntKind.u64 (W.ofNat (W.len b))))) (W.len (W.rep (W.toNat (W.sub IntKind.i64 (W.mul IntKind.i64 (Sp.psz (W.ofNat (W.len b))) (64 : Int)) (4 : Int))) (0 : Int)))) (Sp.enc (W.wrap IntKind.u64 (W.ofNat (W.len b))))) (W.drop (W.nmin (W.len (Sp.enc (W.wrap IntKind.u64 (W.ofNat (W.len b))))) (W.len (W.rep (W.toNat (W.sub IntKind.i64 (W.mul IntKind.i64 (Sp.psz (W.ofNat (W.len b))) (64 : Int)) (4 : Int))) (0 : Int)))) (W.rep (W.toNat (W.sub IntKind.i64 (W.mul IntKind.i64 (Sp.psz (W.ofNat (W.len b))) (64 : Int)) (4 : Int))) (0 : Int))))) (W.toNat (W.ofNat (W.len (Sp.enc (W.wrap IntKind.u64 (W.ofNat (W.len b))))))))) b) (W.drop (W.nadd (W.toNat (W.ofNat (W.len (Sp.enc (W.wrap IntKind.u64 (W.ofNat (W.len b))))))) (W.nmin (W.len b) (W.nsub (W.len (W.app (W.take (W.nmin (W.len (Sp.enc (W.wrap IntKind.u64 (W.ofNat (W.len b))))) (W.len (W.rep (W.toNat (W.sub IntKind.i64 (W.mul IntKind.i64 (Sp.psz (W.ofNat (W.len b))) (64 : Int)) (4 : Int))) (0 : Int)))) (Sp.enc (W.wrap IntKind.u64 (W.ofNat (W.len b))))) (W.drop (W.nmin (W.len (Sp.enc (W.wrap IntKind.u64 (W.ofNat (W.len b))))) (W.len (W.rep (W.toNat (W.sub IntKind.i64 (W.mul IntKind.i64 (Sp.psz (W.ofNat (W.len b))) (64 : Int)) (4 : Int))) (0 : Int)))) (W.rep (W.toNat (W.sub IntKind.i64 (W.mul IntKind.i64 (Sp.psz (W.ofNat (W.len b))) (64 : Int)) (4 : Int))) (0 : Int))))) (W.toNat (W.ofNat (W.len (Sp.enc (W.wrap IntKind.u64 (W.ofNat (W.len b)))))))))) (W.app (W.take (W.nmin (W.len (Sp.enc (W.wrap IntKind.u64 (W.ofNat (W.len b))))) (W.len (W.rep (W.toNat (W.sub IntKind.i64 (W.mul IntKind.i64 (Sp.psz (W.ofNat (W.len b))) (64 : Int)) (4 : Int))) (0 : Int)))) (Sp.enc (W.wrap IntKind.u64 (W.ofNat (W.len b))))) (W.drop (W.nmin (W.len (Sp.enc (W.wrap IntKind.u64 (W.ofNat (W.len b))))) (W.len (W.rep (W.toNat (W.sub IntKind.i64 (W.mul IntKind.i64 (Sp.psz (W.ofNat (W.len b))) (64 : Int)) (4 : Int))) (0 : Int)))) (W.rep (W.toNat (W.sub IntKind.i64 (W.mul IntKind.i64 (Sp.psz (W.ofNat (W.len b))) (64 : Int)) (4 : Int))) (0 : Int))))))))) (1 : Nat)) (140737488355328 : Nat)) (Q (TV.tup [T1.own (5 : Nat) (VT.int IntKind.u8) (asT (List Int) (W.app (Sp.four (Sp.sum (W.app (W.take (W.toNat (W.ofNat (W.len (Sp.enc (W.wrap IntKind.u64 (W.ofNat (W.len b))))))) (W.app (W.take (W.nmin (W.len (Sp.enc (W.wrap IntKind.u64 (W.ofNat (W.len b))))) (W.len (W.rep (W.toNat (W.sub IntKind.i64 (W.mul IntKind.i64 (Sp.psz (W.ofNat (W.len b))) (64 : Int)) (4 : Int))) (0 : Int)))) (Sp.enc (W.wrap IntKind.u64 (W.ofNat (W.len b))))) (W.drop (W.nmin (W.len (Sp.enc (W.wrap IntKind.u64 (W.ofNat (W.len b))))) (W.len (W.rep (W.toNat (W.sub IntKind.i64 (W.mul IntKind.i64 (Sp.psz (W.ofNat (W.len b))) (64 : Int)) (4 : Int))) (0 : Int)))) (W.rep (W.toNat (W.sub IntKind.i64 (W.mul IntKind.i64 (Sp.psz (W.ofNat (W.len b))) (64 : Int)) (4 : Int))) (0 : Int))))) (W.app (W.take (W.nmin (W.len b) (W.nsub (W.len (W.app (W.take (W.nmin (W.len (Sp.enc (W.wrap IntKind.u64 (W.ofNat (W.len b))))) (W.len (W.rep (W.toNat (W.sub IntKind.i64 (W.mul IntKind.i64 (Sp.psz (W.ofNat (W.len b))) (64 : Int)) (4 : Int))) (0 : Int)))) (Sp.enc (W.wrap IntKind.u64 (W.ofNat (W.len b))))) (W.drop (W.nmin (W.len (Sp.enc (W.wrap IntKind.u64 (W.ofNat (W.len b))))) (W.len (W.rep (W.toNat (W.sub IntKind.i64 (W.mul IntKind.i64 (Sp.psz (W.ofNat (W.len b))) (64 : Int)) (4 : Int))) (0 : Int)))) (W.rep (W.toNat (W.sub IntKind.i64 (W.mul IntKind.i64 (Sp.psz (W.ofNat (W.len b))) (64 : Int)) (4 : Int))) (0 : Int))))) (W.toNat (W.ofNat (W.len (Sp.enc (W.wrap IntKind.u64 (W.ofNat (W.len b))))))))) b) (W.drop (W.nadd (W.toNat (W.ofNat (W.len (Sp.enc (W.wrap IntKind.u64 (W.ofNat (W.len b))))))) (W.nmin (W.len b) (W.nsub (W.len (W.app (W.take (W.nmin (W.len (Sp.enc (W.wrap IntKind.u64 (W.ofNat (W.len b))))) (W.len (W.rep (W.toNat (W.sub IntKind.i64 (W.mul IntKind.i64 (Sp.psz (W.ofNat (W.len b))) (64 : Int)) (4 : Int))) (0 : Int)))) (Sp.enc (W.wrap IntKind.u64 (W.ofNat (W.len b))))) (W.drop (W.nmin (W.len (Sp.enc (W.wrap IntKind.u64 (W.ofNat (W.len b))))) (W.len (W.rep (W.toNat (W.sub IntKind.i64 (W.mul IntKind.i64 (Sp.psz (W.ofNat (W.len b))) (64 : Int)) (4 : Int))) (0 : Int)))) (W.rep (W.toNat (W.sub IntKind.i64 (W.mul IntKind.i64 (Sp.psz (W.ofNat (W.len b))) (64 : Int)) (4 : Int))) (0 : Int))))) (W.toNat (W.ofNat (W.len (Sp.enc (W.wrap IntKind.u64 (W.ofNat (W.len b)))))))))) (W.app (W.take (W.nmin (W.len (Sp.enc (W.wrap IntKind.u64 (W.ofNat (W.len b))))) (W.len (W.rep (W.toNat (W.sub IntKind.i64 (W.mul IntKind.i64 (Sp.psz (W.ofNat (W.len b))) (64 : Int)) (4 : Int))) (0 : Int)))) (Sp.enc (W.wrap IntKind.u64 (W.ofNat (W.len b))))) (W.drop (W.nmin (W.len (Sp.enc (W.wrap IntKind.u64 (W.ofNat (W.len b))))) (W.len (W.rep (W.toNat (W.sub IntKind.i64 (W.mul IntKind.i64 (Sp.psz (W.ofNat (W.len b))) (64 : Int)) (4 : Int))) (0 : Int)))) (W.rep (W.toNat (W.sub IntKind.i64 (W.mul IntKind.i64 (Sp.psz (W.ofNat (W.len b))) (64 : Int)) (4 : Int))) (0 : Int))))))))) (W.app (W.take (W.toNat (W.ofNat (W.len (Sp.enc (W.wrap IntKind.u64 (W.ofNat (W.len b))))))) (W.app (W.take (W.nmin (W.len (Sp.enc (W.wrap IntKind.u64 (W.ofNat (W.len b))))) (W.len (W.rep (W.toNat (W.sub IntKind.i64 (W.mul IntKind.i64 (Sp.psz (W.ofNat (W.len b))) (64 : Int)) (4 : Int))) (0 : Int)))) (Sp.enc (W.wrap IntKind.u64 (W.ofNat (W.len b))))) (W.drop (W.nmin (W.len (Sp.enc (W.wrap IntKind.u64 (W.ofNat (W.len b))))) (W.len (W.rep (W.toNat (W.sub IntKind.i64 (W.mul IntKind.i64 (Sp.psz (W.ofNat (W.len b))) (64 : Int)) (4 : Int))) (0 : Int)))) (W.rep (W.toNat (W.sub IntKind.i64 (W.mul IntKind.i64 (Sp.psz (W.ofNat (W.len b))) (64 : Int)) (4 : Int))) (0 : Int))))) (W.app (W.take (W.nmin (W.len b) (W.nsub (W.len (W.app (W.take (W.nmin (W.len (Sp.enc (W.wrap IntKind.u64 (W.ofNat (W.len b))))) (W.len (W.rep (W.toNat (W.sub IntKind.i64 (W.mul IntKind.i64 (Sp.psz (W.ofNat (W.len b))) (64 : Int)) (4 : Int))) (0 : Int)))) (Sp.enc (W.wrap IntKind.u64 (W.ofNat (W.len b))))) (W.drop (W.nmin (W.len (Sp.enc (W.wrap IntKind.u64 (W.ofNat (W.len b))))) (W.len (W.rep (W.toNat (W.sub IntKind.i64 (W.mul IntKind.i64 (Sp.psz (W.ofNat (W.len b))) (64 : Int)) (4 : Int))) (0 : Int)))) (W.rep (W.toNat (W.sub IntKind.i64 (W.mul IntKind.i64 (Sp.psz (W.ofNat (W.len b))) (64 : Int)) (4 : Int))) (0 : Int))))) (W.toNat (W.ofNat (W.len (Sp.enc (W.wrap IntKind.u64 (W.ofNat (W.len b))))))))) b) (W.drop (W.nadd (W.toNat (W.ofNat (W.len (Sp.enc (W.wrap IntKind.u64 (W.ofNat (W.len b))))))) (W.nmin (W.len b) (W.nsub (W.len (W.app (W.take (W.nmin (W.len (Sp.enc (W.wrap IntKind.u64 (W.ofNat (W.len b))))) (W.len (W.rep (W.toNat (W.sub IntKind.i64 (W.mul IntKind.i64 (Sp.psz (W.ofNat (W.len b))) (64 : Int)) (4 : Int))) (0 : Int)))) (Sp.enc (W.wrap IntKind.u64 (W.ofNat (W.len b))))) (W.drop (W.nmin (W.len (Sp.enc (W.wrap IntKind.u64 (W.ofNat (W.len b))))) (W.len (W.rep (W.toNat (W.sub IntKind.i64 (W.mul IntKind.i64 (Sp.psz (W.ofNat (W.len b))) (64 : Int)) (4 : Int))) (0 : Int)))) (W.rep (W.toNat (W.sub IntKind.i64 (W.mul IntKind.i64 (Sp.psz (W.ofNat (W.len b))) (64 : Int)) (4 : Int))) (0 : Int))))) (W.toNat (W.ofNat (W.len (Sp.enc (W.wrap IntKind.u64 (W.ofNat (W.len b)))))))))) (W.app (W.take (W.nmin (W.len (Sp.enc (W.wrap IntKind.u64 (W.ofNat (W.len b))))) (W.len (W.rep (W.toNat (W.sub IntKind.i64 (W.mul IntKind.i64 (Sp.psz (W.ofNat (W.len b))) (64 : Int)) (4 : Int))) (0 : Int)))) (Sp.enc (W.wrap IntKind.u64 (W.ofNat (W.len b))))) (W.drop (W.nmin (W.len (Sp.enc (W.wrap IntKind.u64 (W.ofNat (W.len b))))) (W.len (W.rep (W.toNat (W.sub IntKind.i64 (W.mul IntKind.i64 (Sp.psz (W.ofNat (W.len b))) (64 : Int)) (4 : Int))) (0 : Int)))) (W.rep (W.toNat (W.sub IntKind.i64 (W.mul IntKind.i64 (Sp.psz (W.ofNat (W.len b))) (64 : Int)) (4 : Int))) (0 : Int))))))))), T1.c (TC.a (AV.x (Value.int IntKind.i64 (0 : Int))))]))))))))))) := by kernel_rfl
theorem nf47 (b : List Int) (Q : TV → Prop) : wpFn Try.prog (knownL rwrapL blk47 noneK) Try.f47 [.c (.sl 5 (.int .u8) (.mk b))] Q = (
  brc (W.igt (W.ofNat (W.len b)) (8192 : Int)) (Q (TV.tup [T1.c (TC.a AV.nils), T1.c (TC.a (AV.x (Value.int IntKind.i64 (4 : Int))))])) (((0 : Int) ≤ W.wrap IntKind.u64 (W.ofNat (W.len b)) ∧ W.wrap IntKind.u64 (W.ofNat (W.len b)) < (18446744073709551616 : Int) ∧ (0 : Nat) < (100000 : Nat)) ∧ grd (W.nle (W.nmul (W.nadd (W.len (Sp.enc (W.wrap IntKind.u64 (W.ofNat (W.len b))))) (W.len b)) (1 : Nat)) (140737488355328 : Nat)) (∃ i, mkS (27 : Nat) [((4 : Nat), TV.h (11 : Nat))] [((11 : Nat), TOb.arr false (5 : Nat) (VT.int IntKind.u8) (asT (List Int) (W.app (Sp.enc (W.wrap IntKind.u64 (W.ofNat (W.len b)))) b)))] = mkS (27 : Nat) [((4 : Nat), TV.h (11 : Nat))] [((11 : Nat), TOb.arr false (5 : Nat) (VT.int IntKind.u8) (asT (List Int) i))] ∧ List.length i + Sp.padn (List.length i) < (100000 : Nat) ∧ (Sp.bytes (Sp.padd i) ∧ List.length (Sp.padd i) < (1000000 : Nat)) ∧ ((0 : Nat) < (1000000 : Nat) ∧ (0 : Int) ≤ Sp.sum (Sp.padd i) ∧ Sp.sum (Sp.padd i) < (4294967296 : Int)) ∧ grd (W.nle (W.nmul (W.nadd (W.len (Sp.four (Sp.sum (Sp.padd i)))) (W.len (Sp.padd i))) (1 : Nat)) (140737488355328 : Nat)) (Q (TV.tup [T1.own (5 : Nat) (VT.int IntKind.u8) (asT (List Int) (W.app (Sp.four (Sp.sum (Sp.padd i))) (Sp.padd i))), T1.c (TC.a (AV.x (Value.int IntKind.i64 (0 : Int))))]))))) := by kernel_rfl
theorem nf47s (mk : List Int → TSt) (ψ : List Int → Post → Prop) (μ : List Int → Nat) (x : List Int) (Φ : Post) (m : Nat) : wpT Try.prog (knownL rwrapL blk47 noneK) (loopOf (blkC (bodyOf Try.f47) 0)) (mk47 x) (stepK 27 [4] [11] [4] [11] 0 mk μ ψ m Φ) = (
  brc (W.ine (W.rem (W.add IntKind.i64 (4 : Int) (W.ofNat (W.len x))) (64 : Int)) (0 : Int)) (grd (W.nle (W.nmul (W.nadd (W.len x) (1 : Nat)) (1 : Nat)) (140737488355328 : Nat)) (∃ j, mkS (27 : Nat) [((4 : Nat), TV.h (11 : Nat))] [((11 : Nat), TOb.arr false (5 : Nat) (VT.int IntKind.u8) (asT (List Int) (W.app x [(0 : Int)])))] = mk j ∧ μ j < m ∧ ψ j Φ)) (Φ AExit.normal (mkS (27 : Nat) [((4 : Nat), TV.h (11 : Nat))] [((11 : Nat), TOb.arr false (5 : Nat) (VT.int IntKind.u8) x)]))) := by kernel_rfl
end Go.Proofs.Ytcmjccjbgidinaa
end

section
set_option maxRecDepth 100000
namespace Go.Proofs.Ytcmjccjbgidinaa
open Go.AbsM
theorem good56 : GoodC Try.prog ctr56 := by
  refine good_plain (fn := Try.f56) wide .nil ⟨by kernel_rfl, by kernel_rfl, by kernel_rfl, by kernel_rfl⟩ (by kernel_rfl) fun d hd => Blk.un ?_
  obtain ⟨b, n, x⟩ : List Int × Int × Unit := d
  obtain ⟨hl, h0, h1⟩ : b.length < 1000000 ∧ 0 ≤ n ∧ n < 4294967296 := hd
  refine Blk.nf (nf56 b n _) ?_
  have e0 : W.app [] b = b := rfl
  simp only [e0, Sp.four_prog h0]
  exact grd_nle (by simp only [W.nmul, W.nadd, W.len]; omega) (grd_nle (by simp [W.nmul, W.nadd, W.len, Sp.four]; omega) rfl)
theorem size_fin {n : Int} (h0 : ¬ (n < 0 ∨ 8192 < n)) : TV.int .i64 (W.quo .i64 (W.sub .i64 (W.add .i64 (W.add .i64 (W.add .i64 4 (W.ofNat (W.len (Sp.enc (W.wrap .u64 n))))) n) 64) 1) 64) = TV.int .i64 (Sp.psz n) := by
  have e1 : W.wrap .u64 n = n := W.wu64_in (by omega) (by omega)
  have hl := Sp.enc_len (u := n) (by omega) (by omega)
  have e2 : W.ofNat (W.len (Sp.enc n)) = ((Sp.enc n).length : Int) := rfl
  rw [e1, e2, W.add_i64 (a := 4) (by omega) (by omega), W.add_i64 (b := n) (by omega) (by omega), W.add_i64 (b := 64) (by omega) (by omega), W.sub_i64 (by omega) (by omega), W.quo_i64 (by omega) (by omega) (by omega), Sp.psz_in h0]
  congr 2
  omega
theorem good35 : GoodC Try.prog ctr35 := by
  refine good_plain (fn := Try.f35) wide (.cons (good50 .nil) .nil) ⟨by kernel_rfl, by kernel_rfl, by kernel_rfl, by kernel_rfl⟩ (by kernel_rfl) fun d hd => Blk.un ?_
  obtain ⟨n, x⟩ : Int × Unit := d
  have hd : -9223372036854775808 ≤ n ∧ n < 9223372036854775808 := hd
  refine Blk.nf (nf35 n _) ?_
  refine brc_ilt (fun h => ?_) fun h => brc_igt (fun h' => ?_) fun h' => ⟨⟨?_, ?_, by omega⟩, size_fin (by omega)⟩
  · show TV.int .i64 0 = TV.int .i64 (Sp.psz n); rw [Sp.psz_out (.inl h)]
  · show TV.int .i64 0 = TV.int .i64 (Sp.psz n); rw [Sp.psz_out (.inr h')]
  · rw [W.wu64_in h (by omega)]; exact h
  · rw [W.wu64_in h (by omega)]; omega
theorem good60 : GoodC Try.prog ctr60 := by
  refine good_plain (fn := Try.f60) wide (.cons (good55 .nil) .nil) ⟨by kernel_rfl, by kernel_rfl, by kernel_rfl, by kernel_rfl⟩ (by kernel_rfl) fun d hd => Blk.un ?_
  obtain ⟨n, x⟩ : Int × Unit := d
  have hd : -9223372036854775808 ≤ n ∧ n < 9223372036854775808 := hd
  refine Blk.nf (nf60 n _) ?_
  refine brc_ilt (fun h => ?_) fun h => brc_igt (fun h' => ?_) fun h' => ⟨⟨?_, ?_, by omega⟩, size_fin (by omega)⟩
  · show TV.int .i64 0 = TV.int .i64 (Sp.psz n); rw [Sp.psz_out (.inl h)]
  · show TV.int .i64 0 = TV.int .i64 (Sp.psz n); rw [Sp.psz_out (.inr h')]
  · rw [W.wu64_in h (by omega)]; exact h
  · rw [W.wu64_in h (by omega)]; omega
theorem outW_far {b : List Int} {x : Unit} (h : 8192 < b.length) : outW (b, x) = .tup [.c (.a .nils), .c (.a (.x (.int .i64 4)))] := if_pos h
theorem outW_in {b : List Int} {x : Unit} (h : ¬ 8192 < b.length) : outW (b, x) = .tup [.own 5 (.int .u8) (Sp.wrap b), .c (.a (.x (.int .i64 0)))] := if_neg h
theorem good44 : GoodC Try.prog ctr44 := by
  refine good_plain (fn := Try.f44) wide (.cons good35 (.cons (good50 .nil) (.cons (good51 .nil) (.cons good52 .nil)))) ⟨by kernel_rfl, by kernel_rfl, by kernel_rfl, by kernel_rfl⟩ (by kernel_rfl) fun d hd => Blk.un ?_
  obtain ⟨b, x⟩ : List Int × Unit := d
  obtain ⟨hb, hl⟩ : Sp.bytes b ∧ b.length < 1000000 := hd
  have eL : W.ofNat (W.len b) = (b.length : Int) := rfl
  have eU : W.wrap .u64 (b.length : Int) = (b.length : Int) := W.wu64_in (by omega) (by omega)
  refine Blk.nf (nf44 b _) ?_
  rw [eL, eU]
  refine brc_igt (fun h => (outW_far (by omega)).symm) fun h => ?_
  have hn : ¬ ((b.length : Int) < 0 ∨ 8192 < (b.length : Int)) := by omega
  have hE := Sp.enc_len (u := (b.length : Int)) (by omega) (by omega)
  have hP := Sp.psz_in hn
  have hM : W.sub .i64 (W.mul .i64 (Sp.psz (b.length : Int)) 64) 4 = Sp.psz (b.length : Int) * 64 - 4 := by
    rw [W.mul_i64 (by omega) (by omega), W.sub_i64 (by omega) (by omega)]
  have hR : ∀ k : Int, W.rep (W.toNat k) (0 : Int) = List.replicate k.toNat 0 := fun _ => rfl
  have hge : (Sp.enc (b.length : Int)).length + b.length ≤ (Sp.psz (b.length : Int) * 64 - 4).toNat := by omega
  rw [hM]
  simp only [hR]
  rw [Sp.lay1 (E := Sp.enc (b.length : Int)) (R := List.replicate (Sp.psz (b.length : Int) * 64 - 4).toNat 0) (by rw [List.length_replicate]; omega), List.drop_replicate]
  rw [Sp.lay2 (E := Sp.enc (b.length : Int)) (T := List.replicate ((Sp.psz (b.length : Int) * 64 - 4).toNat - (Sp.enc (b.length : Int)).length) 0) (b := b) (by rw [List.length_replicate]; omega), Sp.page_laid (by omega)]
  have hpl := Sp.page_len (b := b) (by omega)
  have hpb := Sp.page_bytes hb
  have hs := Sp.sum_in hpb
  have eZ : W.len (Sp.enc (b.length : Int) ++ List.replicate ((Sp.psz (b.length : Int) * 64 - 4).toNat - (Sp.enc (b.length : Int)).length) (0 : Int)) = (Sp.psz (b.length : Int) * 64 - 4).toNat := by
    show (Sp.enc (b.length : Int) ++ List.replicate _ (0 : Int)).length = _
    rw [List.length_append, List.length_replicate]; omega
  rw [eZ]
  have eE : W.ofNat (W.len (Sp.enc (b.length : Int))) = ((Sp.enc (b.length : Int)).length : Int) := rfl
  have eT : W.toNat ((Sp.enc (b.length : Int)).length : Int) = (Sp.enc (b.length : Int)).length := Int.toNat_natCast _
  rw [eE, eT]
  refine ⟨⟨by omega, by omega⟩, grd_ile (by omega) (grd_ile (by omega) (grd_ile (by omega) (grd_ile (by simp only [W.bys]; omega) ⟨⟨by omega, by omega, by omega⟩, grd_ile (by simp only [W.ofNat]; omega) (grd_neq rfl (grd_nle (by simp only [W.nadd, W.nsub]; omega) ⟨⟨hpb, by omega⟩, ⟨by omega, hs.1, hs.2⟩, grd_nle ?_ ?_⟩))⟩)))⟩
  · simp only [W.nmul, W.nadd, W.len, Sp.four, List.length_cons, List.length_nil]; omega
  · show TV.tup [T1.own 5 (VT.int .u8) (Sp.wrap b), T1.c (TC.a (AV.x (Value.int .i64 0)))] = outW (b, x)
    rw [outW_in (by omega)]
theorem good47 : GoodC Try.prog ctr47 := by
  refine good_loop (fn := Try.f47) [4] [11] (fun i : List Int => Sp.padn i.length) wide (.cons (good55 .nil) (.cons good56 (.cons (good57 .nil) .nil))) ⟨by kernel_rfl, by kernel_rfl, by kernel_rfl, by kernel_rfl⟩ (by kernel_rfl) (by kernel_rfl) (by kernel_rfl) (by kernel_rfl) (n := 27) (ls := [4]) (ks := [11]) (mk := mk47) (ψ := psi47) (id := 0) ?_ ?_
  · rintro y Φ ⟨hl, hΦ⟩
    refine Eq.mpr (nf47s _ _ _ y Φ _) ?_
    have e1 : W.ofNat (W.len y) = (y.length : Int) := rfl
    rw [e1, W.add_i64 (by omega) (by omega), W.rem_pos (by omega)]
    refine brc_ine (fun h => ?_) fun h => ?_
    · have hp : Sp.padn y.length = Sp.padn (y.length + 1) + 1 := by unfold Sp.padn; omega
      have hpd : Sp.padd y = Sp.padd (y ++ [0]) := by
        unfold Sp.padd
        rw [List.length_append, hp, List.append_assoc]
        congr 1
      refine grd_nle (by simp only [W.nmul, W.nadd, W.len]; omega) ⟨y ++ [0], rfl, ?_, ?_, ?_⟩
      · rw [List.length_append, hp]; exact Nat.lt_succ_self _
      · show (y ++ [0]).length + Sp.padn (y ++ [0]).length < 100000
        rw [List.length_append]
        show y.length + 1 + Sp.padn (y.length + 1) < 100000
        omega
      · rw [← hpd]; exact hΦ
    · have hp : Sp.padn y.length = 0 := by unfold Sp.padn; omega
      have hpd : Sp.padd y = y := by unfold Sp.padd; rw [hp]; simp
      rw [hpd] at hΦ
      exact hΦ
  · intro d hd
    obtain ⟨b, x⟩ : List Int × Unit := d
    obtain ⟨hb, hl⟩ : Sp.bytes b ∧ b.length < 1000000 := hd
    have eL : W.ofNat (W.len b) = (b.length : Int) := rfl
    have eU : W.wrap .u64 (b.length : Int) = (b.length : Int) := W.wu64_in (by omega) (by omega)
    refine Eq.mpr (nf47 b _) ?_
    rw [eL, eU]
    refine brc_igt (fun h => (outW_far (by omega)).symm) fun h => ?_
    have hE := Sp.enc_len (u := (b.length : Int)) (by omega) (by omega)
    have hpb := Sp.page_bytes hb
    have hs := Sp.sum_in hpb
    have hpl := Sp.page_len (b := b) (by omega)
    have hle := Sp.psz_le (n := (b.length : Int)) (by omega) (by omega)
    refine ⟨⟨by omega, by omega, by omega⟩, grd_nle (by simp only [W.nmul, W.nadd, W.len]; omega) ⟨Sp.enc (b.length : Int) ++ b, rfl, ?_, ⟨hpb, ?_⟩, ⟨by omega, hs.1, hs.2⟩, grd_nle ?_ ?_⟩⟩
    · show (Sp.enc (b.length : Int) ++ b).length + Sp.padn (Sp.enc (b.length : Int) ++ b).length < 100000
      have : Sp.padn (Sp.enc (b.length : Int) ++ b).length < 64 := Nat.mod_lt _ (by omega)
      rw [List.length_append] at this ⊢; omega
    · show (Sp.page b).length < 1000000; omega
    · show (4 + (Sp.page b).length) * 1 ≤ _; omega
    · show TV.tup [T1.own 5 (VT.int .u8) (Sp.wrap b), T1.c (TC.a (AV.x (Value.int .i64 0)))] = outW (b, x)
      rw [outW_in (by omega)]
end Go.Proofs.Ytcmjccjbgidinaa
end

section
namespace Go.Proofs.Ytcmjccjbgidinaa
open Go.AbsM
def errU : TV := .tup [.c (.a .nils), .c (.a (.x (.int .i64 12)))]
def okE (b : List Int) : TV := .tup [.c (.sl 5 (.int .u8) (.mk (Sp.unwD b))), .c (.a (.x (.int .i64 0)))]
def okU (b : List Int) : TV := .tup [.own 5 (.int .u8) (Sp.unwD b), .c (.a (.x (.int .i64 0)))]
def ctr45 : TCtr where
  f := 45
  sig := [.l 5 (.int .u8)]
  pre := fun (d : List Int × Unit) => Sp.bytes d.1 ∧ d.1.length < 1000000
  out := fun (d : List Int × Unit) => if Sp.unwB d.1 = true then (if (Sp.unwD d.1).length = 0 then okE d.1 else okU d.1) else errU
  outK := fun (d : List Int × Unit) K => (Sp.unwB d.1 = false → K errU) ∧ (Sp.unwB d.1 = true → (Sp.unwD d.1).length = 0 → K (okE d.1)) ∧ (Sp.unwB d.1 = true → (Sp.unwD d.1).length ≠ 0 → K (okU d.1))
  outK_ok := fun (d : List Int × Unit) K h => by
    show K (if Sp.unwB d.1 = true then _ else _)
    split
    · split
      · exact h.2.1 (by assumption) (by assumption)
      · exact h.2.2 (by assumption) (by assumption)
    · exact h.1 (by simp_all)
  outOk := fun (d : List Int × Unit) => by
    show TV.outOk (if Sp.unwB d.1 = true then _ else _) = true
    split
    · split <;> rfl
    · rfl
def ctr49 : TCtr where
  f := 49
  sig := [.l 5 (.int .u8)]
  pre := fun (d : List Int × Unit) => Sp.bytes d.1 ∧ d.1.length < 1000000
  out := fun (d : List Int × Unit) => if Sp.unwB d.1 = true then okU d.1 else errU
  outK := fun (d : List Int × Unit) K => (Sp.unwB d.1 = false → K errU) ∧ (Sp.unwB d.1 = true → K (okU d.1))
  outK_ok := fun (d : List Int × Unit) K h => by
    show K (if Sp.unwB d.1 = true then _ else _)
    split
    · exact h.2 (by assumption)
    · exact h.1 (by simp_all)
  outOk := fun (d : List Int × Unit) => by
    show TV.outOk (if Sp.unwB d.1 = true then _ else _) = true
    split <;> rfl
def mk45 (i : List Int × Int × Int × List Int × Int) : TSt := mkS 76 [(2, .a .nils), (3, TV.int .i64 0), (5, TV.int .i64 i.2.1), (7, TV.l 5 (.int .u8) i.1), (10, TV.int .i64 i.2.2.1), (62, TV.l 5 (.int .u8) i.2.2.2.1), (63, TV.int .i64 (W.ofNat (W.len i.2.2.2.1))), (64, TV.int .i64 i.2.2.2.2)] []
def psi45 (i : List Int × Int × Int × List Int × Int) (Φ : Post) : Prop := (i.2.2.2.1.length < 1000000 ∧ 0 ≤ i.2.2.2.2 ∧ i.2.2.2.2 ≤ i.2.2.2.1.length) ∧ (Sp.zeros (i.2.2.2.1.drop i.2.2.2.2.toNat) = true → Φ .normal (mkS 76 [(2, .a .nils), (3, TV.int .i64 0), (5, TV.int .i64 i.2.1), (7, TV.l 5 (.int .u8) i.1), (10, TV.int .i64 i.2.2.1)] [])) ∧ (Sp.zeros (i.2.2.2.1.drop i.2.2.2.2.toNat) = false → Φ .ret (mkS 76 [(2, .a .nils), (3, TV.int .i64 12), (5, TV.int .i64 i.2.1), (7, TV.l 5 (.int .u8) i.1), (10, TV.int .i64 i.2.2.1)] []))
def blk45 : Nat → Option Piece := one 0 (loopP 76 [2, 3, 5, 7, 10, 62, 63, 64] [] mk45 psi45)
def unwL : List TCtr := [ctr35, ctr52, ctr53, ctr54, ctr39]
def mk49 (i : List Int × Int × Int × Int) : TSt := mkS 79 [(0, TV.l 5 (.int .u8) i.1), (2, .a .nils), (3, TV.int .i64 0), (7, TV.int .u64 i.2.1), (10, TV.int .i64 i.2.2.1), (11, TV.int .i64 i.2.2.2)] []
def psi49 (i : List Int × Int × Int × Int) (Φ : Post) : Prop := (i.1.length < 1000000 ∧ 0 ≤ i.2.2.2 ∧ i.2.2.2 ≤ i.1.length) ∧ (Sp.zeros (i.1.drop i.2.2.2.toNat) = true → Φ .normal (mkS 79 [(0, TV.l 5 (.int .u8) i.1), (2, .a .nils), (3, TV.int .i64 0), (7, TV.int .u64 i.2.1), (10, TV.int .i64 i.2.2.1)] [])) ∧ (Sp.zeros (i.1.drop i.2.2.2.toNat) = false → Φ .ret (mkS 79 [(0, TV.l 5 (.int .u8) i.1), (2, .a .nils), (3, TV.int .i64 12), (7, TV.int .u64 i.2.1), (10, TV.int .i64 i.2.2.1)] []))
def blk49 : Nat → Option Piece := one 0 (loopP 79 [0, 2, 3, 7, 10, 11] [] mk49 psi49)
def runwL : List TCtr := [ctr60, ctr57, ctr58, ctr59]
theorem nf45 (b : List Int) (Q : TV → Prop) : wpFn Try.prog (knownL unwL blk45 noneK) Try.f45 [.c (.sl 5 (.int .u8) (.mk b))] Q = (
  brc (W.ieq (W.ofNat (W.len b)) (0 : Int)) (Q (TV.tup [T1.c (TC.a AV.nils), T1.c (TC.a (AV.x (Value.int IntKind.i64 (12 : Int))))])) (brc (W.ine (W.rem (W.ofNat (W.len b)) (64 : Int)) (0 : Int)) (Q (TV.tup [T1.c (TC.a AV.nils), T1.c (TC.a (AV.x (Value.int IntKind.i64 (12 : Int))))])) ((Sp.bytes b ∧ List.length b < (4611686018427387904 : Nat) ∧ (-9223372036854775808 : Int) ≤ Int.ofNat (0 : Nat) ∧ Int.ofNat (0 : Nat) < (9223372036854775808 : Int)) ∧ grd (W.ile (0 : Int) (Prod.fst (Prod.snd (Sp.get4 b (Int.ofNat (0 : Nat)))))) (grd (W.ile (Prod.fst (Prod.snd (Sp.get4 b (Int.ofNat (0 : Nat))))) (W.ofNat (W.len b))) ((Sp.bytes (W.drop (W.toNat (Prod.fst (Prod.snd (Sp.get4 b (Int.ofNat (0 : Nat)))))) (W.take (W.len b) b)) ∧ List.length (W.drop (W.toNat (Prod.fst (Prod.snd (Sp.get4 b (Int.ofNat (0 : Nat)))))) (W.take (W.len b) b)) < (1000000 : Nat)) ∧ brc (W.ine (Sp.sum (W.drop (W.toNat (Prod.fst (Prod.snd (Sp.get4 b (Int.ofNat (0 : Nat)))))) (W.take (W.len b) b))) (Prod.fst (Sp.get4 b (Int.ofNat (0 : Nat))))) (Q (TV.tup [T1.c (TC.a AV.nils), T1.c (TC.a (AV.x (Value.int IntKind.i64 (12 : Int))))])) ((Sp.bytes (W.drop (W.toNat (Prod.fst (Prod.snd (Sp.get4 b (Int.ofNat (0 : Nat)))))) (W.take (W.len b) b)) ∧ List.length (W.drop (W.toNat (Prod.fst (Prod.snd (Sp.get4 b (Int.ofNat (0 : Nat)))))) (W.take (W.len b) b)) < (4611686018427387904 : Nat) ∧ (-9223372036854775808 : Int) ≤ Int.ofNat (0 : Nat) ∧ Int.ofNat (0 : Nat) < (9223372036854775808 : Int)) ∧ brc (W.ine (Prod.snd (Prod.snd (Sp.get (W.drop (W.toNat (Prod.fst (Prod.snd (Sp.get4 b (Int.ofNat (0 : Nat)))))) (W.take (W.len b) b)) (Int.ofNat (0 : Nat))))) (0 : Int)) (Q (TV.tup [T1.c (TC.a AV.nils), T1.c (TC.a (AV.x (Value.int IntKind.i64 (12 : Int))))])) (brc (W.igt (Prod.fst (Sp.get (W.drop (W.toNat (Prod.fst (Prod.snd (Sp.get4 b (Int.ofNat (0 : Nat)))))) (W.take (W.len b) b)) (Int.ofNat (0 : Nat)))) (8192 : Int)) (Q (TV.tup [T1.c (TC.a AV.nils), T1.c (TC.a (AV.x (Value.int IntKind.i64 (12 : Int))))])) (((-9223372036854775808 : Int) ≤ W.wrap IntKind.i64 (Prod.fst (Sp.get (W.drop (W.toNat (Prod.fst (Prod.snd (Sp.get4 b (Int.ofNat (0 : Nat)))))) (W.take (W.len b) b)) (Int.ofNat (0 : Nat)))) ∧ W.wrap IntKind.i64 (Prod.fst (Sp.get (W.drop (W.toNat (Prod.fst (Prod.snd (Sp.get4 b (Int.ofNat (0 : Nat)))))) (W.take (W.len b) b)) (Int.ofNat (0 : Nat)))) < (9223372036854775808 : Int)) ∧ brc (W.ine (W.mul IntKind.i64 (Sp.psz (W.wrap IntKind.i64 (Prod.fst (Sp.get (W.drop (W.toNat (Prod.fst (Prod.snd (Sp.get4 b (Int.ofNat (0 : Nat)))))) (W.take (W.len b) b)) (Int.ofNat (0 : Nat)))))) (64 : Int)) (W.ofNat (W.len b))) (Q (TV.tup [T1.c (TC.a AV.nils), T1.c (TC.a (AV.x (Value.int IntKind.i64 (12 : Int))))])) (grd (W.ile (0 : Int) (W.add IntKind.i64 (Prod.fst (Prod.snd (Sp.get (W.drop (W.toNat (Prod.fst (Prod.snd (Sp.get4 b (Int.ofNat (0 : Nat)))))) (W.take (W.len b) b)) (Int.ofNat (0 : Nat))))) (W.wrap IntKind.i64 (Prod.fst (Sp.get (W.drop (W.toNat (Prod.fst (Prod.snd (Sp.get4 b (Int.ofNat (0 : Nat)))))) (W.take (W.len b) b)) (Int.ofNat (0 : Nat))))))) (grd (W.ile (W.add IntKind.i64 (Prod.fst (Prod.snd (Sp.get (W.drop (W.toNat (Prod.fst (Prod.snd (Sp.get4 b (Int.ofNat (0 : Nat)))))) (W.take (W.len b) b)) (Int.ofNat (0 : Nat))))) (W.wrap IntKind.i64 (Prod.fst (Sp.get (W.drop (W.toNat (Prod.fst (Prod.snd (Sp.get4 b (Int.ofNat (0 : Nat)))))) (W.take (W.len b) b)) (Int.ofNat (0 : Nat)))))) (W.ofNat (W.len (W.drop (W.toNat (Prod.fst (Prod.snd (Sp.get4 b (Int.ofNat (0 : Nat)))))) (W.take (W.len b) b))))) (∃ i, mkS (76 : Nat) [((2 : Nat), TV.o (T1.c (TC.a AV.nils))), ((3 : Nat), TV.int IntKind.i64 (0 : Int)), ((5 : Nat), TV.int IntKind.i64 (Prod.fst (Prod.snd (Sp.get (W.drop (W.toNat (Prod.fst (Prod.snd (Sp.get4 b (Int.ofNat (0 : Nat)))))) (W.take (W.len b) b)) (Int.ofNat (0 : Nat)))))), ((7 : Nat), TV.l (5 : Nat) (VT.int IntKind.u8) (asT (List Int) (W.drop (W.toNat (Prod.fst (Prod.snd (Sp.get4 b (Int.ofNat (0 : Nat)))))) (W.take (W.len b) b)))), ((10 : Nat), TV.int IntKind.i64 (W.add IntKind.i64 (Prod.fst (Prod.snd (Sp.get (W.drop (W.toNat (Prod.fst (Prod.snd (Sp.get4 b (Int.ofNat (0 : Nat)))))) (W.take (W.len b) b)) (Int.ofNat (0 : Nat))))) (W.wrap IntKind.i64 (Prod.fst (Sp.get (W.drop (W.toNat (Prod.fst (Prod.snd (Sp.get4 b (Int.ofNat (0 : Nat)))))) (W.take (W.len b) b)) (Int.ofNat (0 : Nat))))))), ((62 : Nat), TV.l (5 : Nat) (VT.int IntKind.u8) (asT (List Int) (W.drop (W.toNat (W.add IntKind.i64 (Prod.fst (Prod.snd (Sp.get (W.drop (W.toNat (Prod.fst (Prod.snd (Sp.get4 b (Int.ofNat (0 : Nat)))))) (W.take (W.len b) b)) (Int.ofNat (0 : Nat))))) (W.wrap IntKind.i64 (Prod.fst (Sp.get (W.drop (W.toNat (Prod.fst (Prod.snd (Sp.get4 b (Int.ofNat (0 : Nat)))))) (W.take (W.len b) b)) (Int.ofNat (0 : Nat))))))) (W.take (W.len (W.drop (W.toNat (Prod.fst (Prod.snd (Sp.get4 b (Int.ofNat (0 : Nat)))))) (W.take (W.len b) b))) (W.drop (W.toNat (Prod.fst (Prod.snd (Sp.get4 b (Int.ofNat (0 : Nat)))))) (W.take (W.len b) b)))))), ((63 : Nat), TV.int IntKind.i64 (W.ofNat (W.len (W.drop (W.toNat (W.add IntKind.i64 (Prod.fst (Prod.snd (Sp.get (W.drop (W.toNat (Prod.fst (Prod.snd (Sp.get4 b (Int.ofNat (0 : Nat)))))) (W.take (W.len b) b)) (Int.ofNat (0 : Nat))))) (W.wrap IntKind.i64 (Prod.fst (Sp.get (W.drop (W.toNat (Prod.fst (Prod.snd (Sp.get4 b (Int.ofNat (0 : Nat)))))) (W.take (W.len b) b)) (Int.ofNat (0 : Nat))))))) (W.take (W.len (W.drop (W.toNat (Prod.fst (Prod.snd (Sp.get4 b (Int.ofNat (0 : Nat)))))) (W.take (W.len b) b))) (W.drop (W.toNat (Prod.fst (Prod.snd (Sp.get4 b (Int.ofNat (0 : Nat)))))) (W.take (W.len b) b))))))), ((64 : Nat), TV.int IntKind.i64 (0 : Int))] [] = mkS (76 : Nat) [((2 : Nat), TV.o (T1.c (TC.a AV.nils))), ((3 : Nat), TV.int IntKind.i64 (0 : Int)), ((5 : Nat), TV.int IntKind.i64 (Prod.fst (Prod.snd i))), ((7 : Nat), TV.l (5 : Nat) (VT.int IntKind.u8) (asT (List Int) (Prod.fst i))), ((10 : Nat), TV.int IntKind.i64 (Prod.fst (Prod.snd (Prod.snd i)))), ((62 : Nat), TV.l (5 : Nat) (VT.int IntKind.u8) (asT (List Int) (Prod.fst (Prod.snd (Prod.snd (Prod.snd i)))))), ((63 : Nat), TV.int IntKind.i64 (W.ofNat (W.len (Prod.fst (Prod.snd (Prod.snd (Prod.snd i))))))), ((64 : Nat), TV.int IntKind.i64 (Prod.snd (Prod.snd (Prod.snd (Prod.snd i)))))] [] ∧ (List.length (Prod.fst (Prod.snd (Prod.snd (Prod.snd i)))) < (1000000 : Nat) ∧ (0 : Int) ≤ Prod.snd (Prod.snd (Prod.snd (Prod.snd i))) ∧ Prod.snd (Prod.snd (Prod.snd (Prod.snd i))) ≤ Int.ofNat (List.length (Prod.fst (Prod.snd (Prod.snd (Prod.snd i)))))) ∧ (Sp.zeros (List.drop (Int.toNat (Prod.snd (Prod.snd (Prod.snd (Prod.snd i))))) (Prod.fst (Prod.snd (Prod.snd (Prod.snd i))))) = true → grd (W.ile (0 : Int) (Prod.fst (Prod.snd (Prod.snd i)))) (grd (W.ile (Prod.fst (Prod.snd (Prod.snd i))) (W.ofNat (W.len (Prod.fst i)))) (grd (W.ile (0 : Int) (Prod.fst (Prod.snd i))) (grd (W.ile (Prod.fst (Prod.snd i)) (W.ofNat (W.toNat (Prod.fst (Prod.snd (Prod.snd i)))))) (List.length (W.drop (W.toNat (Prod.fst (Prod.snd i))) (W.take (W.toNat (Prod.fst (Prod.snd (Prod.snd i)))) (Prod.fst i))) < (1000000 : Nat) ∧ (List.length (W.drop (W.toNat (Prod.fst (Prod.snd i))) (W.take (W.toNat (Prod.fst (Prod.snd (Prod.snd i)))) (Prod.fst i))) = (0 : Nat) → Q (TV.tup [T1.c (TC.sl (5 : Nat) (VT.int IntKind.u8) (NL.mk [])), T1.c (TC.a (AV.x (Value.int IntKind.i64 (0 : Int))))])) ∧ (List.length (W.drop (W.toNat (Prod.fst (Prod.snd i))) (W.take (W.toNat (Prod.fst (Prod.snd (Prod.snd i)))) (Prod.fst i))) ≠ (0 : Nat) → Q (TV.tup [T1.own (5 : Nat) (VT.int IntKind.u8) (asT (List Int) (W.drop (W.toNat (Prod.fst (Prod.snd i))) (W.take (W.toNat (Prod.fst (Prod.snd (Prod.snd i)))) (Prod.fst i)))), T1.c (TC.a (AV.x (Value.int IntKind.i64 (0 : Int))))]))))))) ∧ (Sp.zeros (List.drop (Int.toNat (Prod.snd (Prod.snd (Prod.snd (Prod.snd i))))) (Prod.fst (Prod.snd (Prod.snd (Prod.snd i))))) = false → Q (TV.tup [T1.c (TC.a AV.nils), T1.c (TC.a (AV.x (Value.int IntKind.i64 (12 : Int))))]))))))))))))) := by kernel_rfl
theorem nf45s (mk : List Int × Int × Int × List Int × Int → TSt) (ψ : List Int × Int × Int × List Int × Int → Post → Prop) (μ : List Int × Int × Int × List Int × Int → Nat) (r : List Int) (n e : Int) (t : List Int) (k : Int) (Φ : Post) (m : Nat) : wpT Try.prog (knownL unwL blk45 noneK) (loopOf (blkC (bodyOf Try.f45) 0)) (mk45 (r, n, e, t, k)) (stepK 76 [2, 3, 5, 7, 10, 62, 63, 64] [] [2, 3, 5, 7, 10] [] 0 mk μ ψ m Φ) = (
  brc (W.ilt k (W.ofNat (W.len t))) (grd (W.ile (0 : Int) k) (grd (W.nlt (W.toNat k) (W.len t)) (brc (W.ine (W.nth t (W.toNat k) (0 : Int)) (0 : Int)) (Φ AExit.ret (mkS (76 : Nat) [((2 : Nat), TV.o (T1.c (TC.a AV.nils))), ((3 : Nat), TV.int IntKind.i64 (12 : Int)), ((5 : Nat), TV.int IntKind.i64 n), ((7 : Nat), TV.l (5 : Nat) (VT.int IntKind.u8) r), ((10 : Nat), TV.int IntKind.i64 e)] [])) (∃ j, mkS (76 : Nat) [((2 : Nat), TV.o (T1.c (TC.a AV.nils))), ((3 : Nat), TV.int IntKind.i64 (0 : Int)), ((5 : Nat), TV.int IntKind.i64 n), ((7 : Nat), TV.l (5 : Nat) (VT.int IntKind.u8) r), ((10 : Nat), TV.int IntKind.i64 e), ((62 : Nat), TV.l (5 : Nat) (VT.int IntKind.u8) t), ((63 : Nat), TV.int IntKind.i64 (W.ofNat (W.len t))), ((64 : Nat), TV.int IntKind.i64 (W.add IntKind.i64 k (1 : Int)))] [] = mk j ∧ μ j < m ∧ ψ j Φ)))) (Φ AExit.normal (mkS (76 : Nat) [((2 : Nat), TV.o (T1.c (TC.a AV.nils))), ((3 : Nat), TV.int IntKind.i64 (0 : Int)), ((5 : Nat), TV.int IntKind.i64 n), ((7 : Nat), TV.l (5 : Nat) (VT.int IntKind.u8) r), ((10 : Nat), TV.int IntKind.i64 e)] []))) := by kernel_rfl
theorem nf49 (b : List Int) (Q : TV → Prop) : wpFn Try.prog (knownL runwL blk49 noneK) Try.f49 [.c (.sl 5 (.int .u8) (.mk b))] Q = (
  brc (W.ieq (W.ofNat (W.len b)) (0 : Int)) (Q (TV.tup [T1.c (TC.a AV.nils), T1.c (TC.a (AV.x (Value.int IntKind.i64 (12 : Int))))])) (brc (W.ine (W.rem (W.ofNat (W.len b)) (64 : Int)) (0 : Int)) (Q (TV.tup [T1.c (TC.a AV.nils), T1.c (TC.a (AV.x (Value.int IntKind.i64 (12 : Int))))])) ((Sp.bytes b ∧ List.length b < (4611686018427387904 : Nat) ∧ (-9223372036854775808 : Int) ≤ Int.ofNat (0 : Nat) ∧ Int.ofNat (0 : Nat) < (9223372036854775808 : Int)) ∧ grd (W.ile (4 : Int) (W.ofNat (W.len b))) ((Sp.bytes (W.drop (4 : Nat) (W.take (W.len b) b)) ∧ List.length (W.drop (4 : Nat) (W.take (W.len b) b)) < (1000000 : Nat)) ∧ brc (W.ine (Prod.fst (Sp.get4 b (Int.ofNat (0 : Nat)))) (Sp.sum (W.drop (4 : Nat) (W.take (W.len b) b)))) (Q (TV.tup [T1.c (TC.a AV.nils), T1.c (TC.a (AV.x (Value.int IntKind.i64 (12 : Int))))])) ((Sp.bytes b ∧ List.length b < (4611686018427387904 : Nat) ∧ (-9223372036854775808 : Int) ≤ Int.ofNat (4 : Nat) ∧ Int.ofNat (4 : Nat) < (9223372036854775808 : Int)) ∧ brc (W.ine (Prod.snd (Prod.snd (Sp.get b (Int.ofNat (4 : Nat))))) (0 : Int)) (Q (TV.tup [T1.c (TC.a AV.nils), T1.c (TC.a (AV.x (Value.int IntKind.i64 (12 : Int))))])) (brc (W.igt (Prod.fst (Sp.get b (Int.ofNat (4 : Nat)))) (8192 : Int)) (Q (TV.tup [T1.c (TC.a AV.nils), T1.c (TC.a (AV.x (Value.int IntKind.i64 (12 : Int))))])) (((-9223372036854775808 : Int) ≤ W.wrap IntKind.i64 (Prod.fst (Sp.get b (Int.ofNat (4 : Nat)))) ∧ W.wrap IntKind.i64 (Prod.fst (Sp.get b (Int.ofNat (4 : Nat)))) < (9223372036854775808 : Int)) ∧ brc (W.ine (Sp.psz (W.wrap IntKind.i64 (Prod.fst (Sp.get b (Int.ofNat (4 : Nat)))))) (W.quo IntKind.i64 (W.ofNat (W.len b)) (64 : Int))) (Q (TV.tup [T1.c (TC.a AV.nils), T1.c (TC.a (AV.x (Value.int IntKind.i64 (12 : Int))))])) (∃ i, mkS (79 : Nat) [((0 : Nat), TV.l (5 : Nat) (VT.int IntKind.u8) b), ((2 : Nat), TV.o (T1.c (TC.a AV.nils))), ((3 : Nat), TV.int IntKind.i64 (0 : Int)), ((7 : Nat), TV.int IntKind.u64 (Prod.fst (Sp.get b (Int.ofNat (4 : Nat))))), ((10 : Nat), TV.int IntKind.i64 (W.add IntKind.i64 (4 : Int) (Prod.fst (Prod.snd (Sp.get b (Int.ofNat (4 : Nat))))))), ((11 : Nat), TV.int IntKind.i64 (W.add IntKind.i64 (W.add IntKind.i64 (4 : Int) (Prod.fst (Prod.snd (Sp.get b (Int.ofNat (4 : Nat)))))) (W.wrap IntKind.i64 (Prod.fst (Sp.get b (Int.ofNat (4 : Nat)))))))] [] = mkS (79 : Nat) [((0 : Nat), TV.l (5 : Nat) (VT.int IntKind.u8) (asT (List Int) (Prod.fst i))), ((2 : Nat), TV.o (T1.c (TC.a AV.nils))), ((3 : Nat), TV.int IntKind.i64 (0 : Int)), ((7 : Nat), TV.int IntKind.u64 (Prod.fst (Prod.snd i))), ((10 : Nat), TV.int IntKind.i64 (Prod.fst (Prod.snd (Prod.snd i)))), ((11 : Nat), TV.int IntKind.i64 (Prod.snd (Prod.snd (Prod.snd i))))] [] ∧ (List.length (Prod.fst i) < (1000000 : Nat) ∧ (0 : Int) ≤ Prod.snd (Prod.snd (Prod.snd i)) ∧ Prod.snd (Prod.snd (Prod.snd i)) ≤ Int.ofNat (List.length (Prod.fst i))) ∧ (Sp.zeros (List.drop (Int.toNat (Prod.snd (Prod.snd (Prod.snd i)))) (Prod.fst i)) = true → grd (W.ile (0 : Int) (W.add IntKind.i64 (Prod.fst (Prod.snd (Prod.snd i))) (W.wrap IntKind.i64 (Prod.fst (Prod.snd i))))) (grd (W.ile (W.add IntKind.i64 (Prod.fst (Prod.snd (Prod.snd i))) (W.wrap IntKind.i64 (Prod.fst (Prod.snd i)))) (W.ofNat (W.len (Prod.fst i)))) (grd (W.ile (0 : Int) (Prod.fst (Prod.snd (Prod.snd i)))) (grd (W.ile (Prod.fst (Prod.snd (Prod.snd i))) (W.ofNat (W.toNat (W.add IntKind.i64 (Prod.fst (Prod.snd (Prod.snd i))) (W.wrap IntKind.i64 (Prod.fst (Prod.snd i))))))) (grd (W.nle (W.nmul (W.nadd (0 : Nat) (W.len (W.drop (W.toNat (Prod.fst (Prod.snd (Prod.snd i)))) (W.take (W.toNat (W.add IntKind.i64 (Prod.fst (Prod.snd (Prod.snd i))) (W.wrap IntKind.i64 (Prod.fst (Prod.snd i))))) (Prod.fst i))))) (1 : Nat)) (140737488355328 : Nat)) (Q (TV.tup [T1.own (5 : Nat) (VT.int IntKind.u8) (asT (List Int) (W.app [] (W.drop (W.toNat (Prod.fst (Prod.snd (Prod.snd i)))) (W.take (W.toNat (W.add IntKind.i64 (Prod.fst (Prod.snd (Prod.snd i))) (W.wrap IntKind.i64 (Prod.fst (Prod.snd i))))) (Prod.fst i))))), T1.c (TC.a (AV.x (Value.int IntKind.i64 (0 : Int))))]))))))) ∧ (Sp.zeros (List.drop (Int.toNat (Prod.snd (Prod.snd (Prod.snd i)))) (Prod.fst i)) = false → Q (TV.tup [T1.c (TC.a AV.nils), T1.c (TC.a (AV.x (Value.int IntKind.i64 (12 : Int))))])))))))))) := by kernel_rfl
theorem nf49s (mk : List Int × Int × Int × Int → TSt) (ψ : List Int × Int × Int × Int → Post → Prop) (μ : List Int × Int × Int × Int → Nat) (b : List Int) (n f k : Int) (Φ : Post) (m : Nat) : wpT Try.prog (knownL runwL blk49 noneK) (loopOf (blkC (bodyOf Try.f49) 0)) (mk49 (b, n, f, k)) (stepK 79 [0, 2, 3, 7, 10, 11] [] [0, 2, 3, 7, 10] [] 0 mk μ ψ m Φ) = (
  brc (W.ilt k (W.ofNat (W.len b))) (grd (W.ile (0 : Int) k) (grd (W.nlt (W.toNat k) (W.len b)) (brc (W.ine (W.nth b (W.toNat k) (0 : Int)) (0 : Int)) (Φ AExit.ret (mkS (79 : Nat) [((0 : Nat), TV.l (5 : Nat) (VT.int IntKind.u8) b), ((2 : Nat), TV.o (T1.c (TC.a AV.nils))), ((3 : Nat), TV.int IntKind.i64 (12 : Int)), ((7 : Nat), TV.int IntKind.u64 n), ((10 : Nat), TV.int IntKind.i64 f)] [])) (∃ j, mkS (79 : Nat) [((0 : Nat), TV.l (5 : Nat) (VT.int IntKind.u8) b), ((2 : Nat), TV.o (T1.c (TC.a AV.nils))), ((3 : Nat), TV.int IntKind.i64 (0 : Int)), ((7 : Nat), TV.int IntKind.u64 n), ((10 : Nat), TV.int IntKind.i64 f), ((11 : Nat), TV.int IntKind.i64 (W.add IntKind.i64 k (1 : Int)))] [] = mk j ∧ μ j < m ∧ ψ j Φ)))) (Φ AExit.normal (mkS (79 : Nat) [((0 : Nat), TV.l (5 : Nat) (VT.int IntKind.u8) b), ((2 : Nat), TV.o (T1.c (TC.a AV.nils))), ((3 : Nat), TV.int IntKind.i64 (0 : Int)), ((7 : Nat), TV.int IntKind.u64 n), ((10 : Nat), TV.int IntKind.i64 f)] []))) := by kernel_rfl
end Go.Proofs.Ytcmjccjbgidinaa
end

section
set_option maxRecDepth 100000
namespace Go.Proofs.Ytcmjccjbgidinaa
open Go.AbsM
theorem errU_14 {b : List Int} {x : Unit} (h : Sp.unwB b = false) : errU = ctr45.out (b, x) := (if_neg (by rw [h]; decide)).symm
theorem okE_14 {b : List Int} {x : Unit} (h : Sp.unwB b = true) (k : (Sp.unwD b).length = 0) : TV.tup [T1.c (TC.sl 5 (VT.int .u8) (NL.mk ([] : List Int))), T1.c (TC.a (AV.x (Value.int .i64 0)))] = ctr45.out (b, x) := by
  show _ = if Sp.unwB b = true then (if (Sp.unwD b).length = 0 then okE b else okU b) else errU
  rw [if_pos h, if_pos k]
  have : Sp.unwD b = [] := List.length_eq_zero_iff.1 k
  show _ = TV.tup [T1.c (TC.sl 5 (VT.int .u8) (NL.mk (Sp.unwD b))), T1.c (TC.a (AV.x (Value.int .i64 0)))]
  exact congrArg (fun z : List Int => TV.tup [T1.c (TC.sl 5 (VT.int .u8) (NL.mk z)), T1.c (TC.a (AV.x (Value.int .i64 0)))]) this.symm
theorem okU_14 {b : List Int} {x : Unit} (h : Sp.unwB b = true) (k : (Sp.unwD b).length ≠ 0) : okU b = ctr45.out (b, x) := by
  show _ = if Sp.unwB b = true then (if (Sp.unwD b).length = 0 then okE b else okU b) else errU
  rw [if_pos h, if_neg k]
theorem errU_15 {b : List Int} {x : Unit} (h : Sp.unwB b = false) : errU = ctr49.out (b, x) := (if_neg (by rw [h]; decide)).symm
theorem okU_15 {b : List Int} {x : Unit} (h : Sp.unwB b = true) : okU b = ctr49.out (b, x) := by
  show _ = if Sp.unwB b = true then okU b else errU
  rw [if_pos h]
theorem goodsU : Goods Try.prog unwL := .cons good35 (.cons good52 (.cons (good53 .nil) (.cons (good54 .nil) (.cons good39 .nil))))
theorem good45 : GoodC Try.prog ctr45 := by
  refine good_loop (fn := Try.f45) [2, 3, 5, 7, 10] [] (fun i : List Int × Int × Int × List Int × Int => ((i.2.2.2.1.length : Int) - i.2.2.2.2).toNat) wide goodsU ⟨by kernel_rfl, by kernel_rfl, by kernel_rfl, by kernel_rfl⟩ (by kernel_rfl) (by kernel_rfl) (by kernel_rfl) (by kernel_rfl) (n := 76) (ls := [2, 3, 5, 7, 10, 62, 63, 64]) (ks := []) (mk := mk45) (ψ := psi45) (id := 0) ?_ ?_
  · rintro ⟨r, n, e, t, k⟩ Φ ⟨⟨hl, h0, h1⟩, hT, hF⟩
    refine Eq.mpr (nf45s _ _ _ r n e t k Φ _) ?_
    simp only at hl h0 h1 hT hF
    have eL : W.ofNat (W.len t) = (t.length : Int) := rfl
    have eN : W.toNat k = k.toNat := rfl
    have eG : W.nth t k.toNat 0 = t.getD k.toNat 0 := rfl
    rw [eN, eG]
    refine brc_ilt (fun h => ?_) fun h => ?_
    · rw [eL] at h
      have hz := Sp.zeros_step (t := t) (k := k.toNat) (by omega)
      rw [hz] at hT hF
      refine grd_ile h0 (grd_nlt (by simp only [W.len]; omega) (brc_ine (fun hne => ?_) fun heq => ?_))
      · rw [decide_eq_false hne] at hF
        exact hF rfl
      · rw [decide_eq_true heq, Bool.true_and] at hT hF
        rw [W.add_i64 (by omega) (by omega)]
        have e2 : (k + 1).toNat = k.toNat + 1 := by omega
        refine ⟨(r, n, e, t, k + 1), rfl, ?_, ⟨hl, ?_, ?_⟩, ?_, ?_⟩
        · show ((t.length : Int) - (k + 1)).toNat < ((t.length : Int) - k).toNat; omega
        · show 0 ≤ k + 1; omega
        · show k + 1 ≤ t.length; omega
        · show Sp.zeros (t.drop (k + 1).toNat) = true → _
          rw [e2]; exact hT
        · show Sp.zeros (t.drop (k + 1).toNat) = false → _
          rw [e2]; exact hF
    · rw [eL] at h
      exact hT (Sp.zeros_end (by omega))
  · intro d hd
    obtain ⟨b, x⟩ : List Int × Unit := d
    obtain ⟨hb, hl⟩ : Sp.bytes b ∧ b.length < 1000000 := hd
    refine Eq.mpr (nf45 b _) ?_
    have eL : W.ofNat (W.len b) = (b.length : Int) := rfl
    have eR : W.rem (b.length : Int) 64 = (b.length : Int) % 64 := W.rem_pos (by omega)
    have eZ : Int.ofNat 0 = 0 := rfl
    rw [eL, eR, eZ]
    refine brc_ieq (fun h => errU_14 (Sp.unwB_no (by omega))) fun h => brc_ine (fun h' => errU_14 (Sp.unwB_no (by omega))) fun h' => ?_
    have h4 : Sp.get4 b 0 = (Sp.e4 b 0, 4, 0) := Sp.get4_in (by omega) (by omega)
    have hR : W.drop (W.toNat 4) (W.take (W.len b) b) = b.drop 4 := by
      show (b.take b.length).drop 4 = _
      rw [List.take_length]
    simp only [h4, hR]
    have hbR : Sp.bytes (b.drop 4) := fun x hx => hb x (List.mem_of_mem_drop hx)
    have hlR : (b.drop 4).length = b.length - 4 := List.length_drop
    refine ⟨⟨hb, by omega, by omega, by omega⟩, grd_ile (by omega) (grd_ile (by omega) ⟨⟨hbR, by omega⟩, brc_ine (fun hne => errU_14 (Sp.unwB_no fun hh => hne (by rw [hh.2.2.1, h4]))) fun heq => ⟨⟨hbR, by omega, by omega, by omega⟩, ?_⟩⟩)⟩
    rcases hg : Sp.get (b.drop 4) 0 with ⟨u, n, e⟩
    simp only
    have hno : ¬ (e = 0 ∧ u ≤ 8192 ∧ Sp.psz u * 64 = b.length) → Sp.unwB b = false := fun h => by
      rw [Sp.unwB_eq hg, decide_eq_false fun hh => h hh.2.2.2]; rfl
    refine brc_ine (fun he => errU_14 (hno fun hh => he hh.1)) fun he => brc_igt (fun hu => errU_14 (hno fun hh => by omega)) fun hu => ?_
    subst he
    have hu0 := (Sp.get_ok hbR hg).1
    have eW : W.wrap .i64 u = u := W.wi64_in (by omega) (by omega)
    have hps := Sp.psz_le (n := u) (by omega) (by omega)
    rw [eW, W.mul_i64 (by omega) (by omega)]
    refine ⟨⟨by omega, by omega⟩, brc_ine (fun hp => errU_14 (hno fun hh => hp hh.2.2)) fun hp => ?_⟩
    obtain ⟨_, hn0, hf, _, _⟩ := Sp.unw_fit hb hg hu hp (by omega)
    have hB : Sp.unwB b = Sp.zeros ((b.drop 4).drop (n + u).toNat) := by
      rw [Sp.unwB_eq hg, decide_eq_true ⟨by omega, by omega, by rw [h4]; exact heq, rfl, hu, hp⟩, Bool.true_and]
    have hD := Sp.unwD_eq hg
    have hT : W.take (W.len (b.drop 4)) (b.drop 4) = b.drop 4 := List.take_length
    rw [W.add_i64 (by omega) (by omega), hT]
    have eRl : W.ofNat (W.len (b.drop 4)) = ((b.drop 4).length : Int) := rfl
    refine grd_ile (by omega) (grd_ile (by rw [eRl]; omega) ⟨(b.drop 4, n, n + u, (b.drop 4).drop (n + u).toNat, 0), rfl, ⟨?_, ?_, ?_⟩, fun hz => ?_, fun hz => errU_14 ?_⟩)
    · show ((b.drop 4).drop (n + u).toNat).length < 1000000
      rw [List.length_drop]; omega
    · show (0 : Int) ≤ 0; omega
    · show (0 : Int) ≤ (((b.drop 4).drop (n + u).toNat).length : Int); omega
    · have hz : Sp.zeros ((b.drop 4).drop (n + u).toNat) = true := by
        have : ((b.drop 4).drop (n + u).toNat).drop (Int.toNat 0) = (b.drop 4).drop (n + u).toNat := List.drop_zero
        rw [← this]; exact hz
      have hBt : Sp.unwB b = true := by rw [hB]; exact hz
      have eD : W.drop (W.toNat n) (W.take (W.toNat (n + u)) (b.drop 4)) = Sp.unwD b := by rw [hD]; rfl
      show grd (W.ile 0 (n + u)) (grd (W.ile (n + u) (W.ofNat (W.len (b.drop 4)))) (grd (W.ile 0 n) (grd (W.ile n (W.ofNat (W.toNat (n + u)))) ((W.drop (W.toNat n) (W.take (W.toNat (n + u)) (b.drop 4))).length < 1000000 ∧ ((W.drop (W.toNat n) (W.take (W.toNat (n + u)) (b.drop 4))).length = 0 → TV.tup [T1.c (TC.sl 5 (VT.int .u8) (NL.mk ([] : List Int))), T1.c (TC.a (AV.x (Value.int .i64 0)))] = ctr45.out (b, x)) ∧ ((W.drop (W.toNat n) (W.take (W.toNat (n + u)) (b.drop 4))).length ≠ 0 → TV.tup [T1.own 5 (VT.int .u8) (W.drop (W.toNat n) (W.take (W.toNat (n + u)) (b.drop 4))), T1.c (TC.a (AV.x (Value.int .i64 0)))] = ctr45.out (b, x))))))
      rw [eD]
      refine grd_ile (by omega) (grd_ile (by rw [eRl]; omega) (grd_ile hn0 (grd_ile (by simp only [W.ofNat, W.toNat]; omega) ⟨?_, fun h => okE_14 hBt h, fun h => (congrArg (fun z : List Int => TV.tup [T1.own 5 (VT.int .u8) z, T1.c (TC.a (AV.x (Value.int .i64 0)))]) eD).trans (okU_14 hBt h)⟩)))
      rw [hD, List.length_drop, List.length_take]; omega
    · have : ((b.drop 4).drop (n + u).toNat).drop (Int.toNat 0) = (b.drop 4).drop (n + u).toNat := List.drop_zero
      rw [hB, ← this]; exact hz
theorem goodsR : Goods Try.prog runwL := .cons good60 (.cons (good57 .nil) (.cons (good58 .nil) (.cons (good59 .nil) .nil)))
theorem good49 : GoodC Try.prog ctr49 := by
  refine good_loop (fn := Try.f49) [0, 2, 3, 7, 10] [] (fun i : List Int × Int × Int × Int => ((i.1.length : Int) - i.2.2.2).toNat) wide goodsR ⟨by kernel_rfl, by kernel_rfl, by kernel_rfl, by kernel_rfl⟩ (by kernel_rfl) (by kernel_rfl) (by kernel_rfl) (by kernel_rfl) (n := 79) (ls := [0, 2, 3, 7, 10, 11]) (ks := []) (mk := mk49) (ψ := psi49) (id := 0) ?_ ?_
  · rintro ⟨t, n, f, k⟩ Φ ⟨⟨hl, h0, h1⟩, hT, hF⟩
    refine Eq.mpr (nf49s _ _ _ t n f k Φ _) ?_
    simp only at hl h0 h1 hT hF
    have eL : W.ofNat (W.len t) = (t.length : Int) := rfl
    have eN : W.toNat k = k.toNat := rfl
    have eG : W.nth t k.toNat 0 = t.getD k.toNat 0 := rfl
    rw [eN, eG]
    refine brc_ilt (fun h => ?_) fun h => ?_
    · rw [eL] at h
      have hz := Sp.zeros_step (t := t) (k := k.toNat) (by omega)
      rw [hz] at hT hF
      refine grd_ile h0 (grd_nlt (by simp only [W.len]; omega) (brc_ine (fun hne => ?_) fun heq => ?_))
      · rw [decide_eq_false hne] at hF
        exact hF rfl
      · rw [decide_eq_true heq, Bool.true_and] at hT hF
        rw [W.add_i64 (by omega) (by omega)]
        have e2 : (k + 1).toNat = k.toNat + 1 := by omega
        refine ⟨(t, n, f, k + 1), rfl, ?_, ⟨hl, ?_, ?_⟩, ?_, ?_⟩
        · show ((t.length : Int) - (k + 1)).toNat < ((t.length : Int) - k).toNat; omega
        · show 0 ≤ k + 1; omega
        · show k + 1 ≤ t.length; omega
        · show Sp.zeros (t.drop (k + 1).toNat) = true → _
          rw [e2]; exact hT
        · show Sp.zeros (t.drop (k + 1).toNat) = false → _
          rw [e2]; exact hF
    · rw [eL] at h
      exact hT (Sp.zeros_end (by omega))
  · intro d hd
    obtain ⟨b, x⟩ : List Int × Unit := d
    obtain ⟨hb, hl⟩ : Sp.bytes b ∧ b.length < 1000000 := hd
    refine Eq.mpr (nf49 b _) ?_
    have eL : W.ofNat (W.len b) = (b.length : Int) := rfl
    have eR : W.rem (b.length : Int) 64 = (b.length : Int) % 64 := W.rem_pos (by omega)
    have eZ : Int.ofNat 0 = 0 := rfl
    have eF : Int.ofNat 4 = 4 := rfl
    rw [eL, eR, eZ, eF]
    refine brc_ieq (fun h => errU_15 (Sp.unwB_no (by omega))) fun h => brc_ine (fun h' => errU_15 (Sp.unwB_no (by omega))) fun h' => ?_
    have h4 : Sp.get4 b 0 = (Sp.e4 b 0, 4, 0) := Sp.get4_in (by omega) (by omega)
    have hR : W.drop 4 (W.take (W.len b) b) = b.drop 4 := by
      show (b.take b.length).drop 4 = _
      rw [List.take_length]
    simp only [h4, hR]
    have hbR : Sp.bytes (b.drop 4) := fun x hx => hb x (List.mem_of_mem_drop hx)
    have hlR : (b.drop 4).length = b.length - 4 := List.length_drop
    refine ⟨⟨hb, by omega, by omega, by omega⟩, grd_ile (by omega) ⟨⟨hbR, by omega⟩, brc_ine (fun hne => errU_15 (Sp.unwB_no fun hh => hne (by rw [hh.2.2.1, h4]))) fun heq => ⟨⟨hb, by omega, by omega, by omega⟩, ?_⟩⟩⟩
    rw [Sp.get_drop (by omega)]
    rcases hg : Sp.get (b.drop 4) 0 with ⟨u, n, e⟩
    simp only
    have hno : ¬ (e = 0 ∧ u ≤ 8192 ∧ Sp.psz u * 64 = b.length) → Sp.unwB b = false := fun h => by
      rw [Sp.unwB_eq hg, decide_eq_false fun hh => h hh.2.2.2]; rfl
    refine brc_ine (fun he => errU_15 (hno fun hh => he hh.1)) fun he => brc_igt (fun hu => errU_15 (hno fun hh => by omega)) fun hu => ?_
    subst he
    have hu0 := (Sp.get_ok hbR hg).1
    have eW : W.wrap .i64 u = u := W.wi64_in (by omega) (by omega)
    have hps := Sp.psz_le (n := u) (by omega) (by omega)
    rw [eW, W.quo_i64 (by omega) (by omega) (by omega)]
    refine ⟨⟨by omega, by omega⟩, brc_ine (fun hp => errU_15 (hno fun hh => hp (by omega))) fun hp => ?_⟩
    have hp : Sp.psz u * 64 = b.length := by omega
    obtain ⟨_, hn0, hf, _, _⟩ := Sp.unw_fit hb hg hu hp (by omega)
    have hB : Sp.unwB b = Sp.zeros ((b.drop 4).drop (n + u).toNat) := by
      rw [Sp.unwB_eq hg, decide_eq_true ⟨by omega, by omega, by rw [h4]; exact heq.symm, rfl, hu, hp⟩, Bool.true_and]
    have hD := Sp.unwD_eq hg
    have e1 : (4 + n + u).toNat = 4 + (n + u).toNat := by omega
    have e2 : (4 + n).toNat = 4 + n.toNat := by omega
    rw [W.add_i64 (a := 4) (by omega) (by omega), W.add_i64 (by omega) (by omega)]
    have eDr : b.drop (4 + n + u).toNat = (b.drop 4).drop (n + u).toNat := by rw [e1, Sp.drop4]
    refine ⟨(b, u, 4 + n, 4 + n + u), rfl, ⟨hl, ?_, ?_⟩, fun hz => ?_, fun hz => errU_15 ?_⟩
    · show 0 ≤ 4 + n + u; omega
    · show 4 + n + u ≤ (b.length : Int); omega
    · have hz : Sp.zeros ((b.drop 4).drop (n + u).toNat) = true := by rw [← eDr]; exact hz
      have hBt : Sp.unwB b = true := by rw [hB]; exact hz
      have eD : W.drop (W.toNat (4 + n)) (W.take (W.toNat (4 + n + u)) b) = Sp.unwD b := by
        show (b.take (4 + n + u).toNat).drop (4 + n).toNat = _
        rw [hD, e1, e2, Sp.take_drop4]
      show grd (W.ile 0 (W.add .i64 (4 + n) (W.wrap .i64 u))) (grd (W.ile (W.add .i64 (4 + n) (W.wrap .i64 u)) (W.ofNat (W.len b))) (grd (W.ile 0 (4 + n)) (grd (W.ile (4 + n) (W.ofNat (W.toNat (W.add .i64 (4 + n) (W.wrap .i64 u))))) (grd (W.nle (W.nmul (W.nadd 0 (W.len (W.drop (W.toNat (4 + n)) (W.take (W.toNat (W.add .i64 (4 + n) (W.wrap .i64 u))) b)))) 1) 140737488355328) (TV.tup [T1.own 5 (VT.int .u8) (W.app [] (W.drop (W.toNat (4 + n)) (W.take (W.toNat (W.add .i64 (4 + n) (W.wrap .i64 u))) b))), T1.c (TC.a (AV.x (Value.int .i64 0)))] = ctr49.out (b, x))))))
      rw [eW, W.add_i64 (by omega) (by omega), eD]
      refine grd_ile (by omega) (grd_ile (by rw [eL]; omega) (grd_ile (by omega) (grd_ile (by simp only [W.ofNat, W.toNat]; omega) (grd_nle ?_ ?_))))
      · rw [hD]
        simp only [W.nmul, W.nadd, W.len, List.length_drop, List.length_take]; omega
      · exact (congrArg (fun z : List Int => TV.tup [T1.own 5 (VT.int .u8) z, T1.c (TC.a (AV.x (Value.int .i64 0)))]) eD).trans (okU_15 hBt)
    · rw [hB, ← eDr]; exact hz
end Go.Proofs.Ytcmjccjbgidinaa
end

section
namespace Sp
open Go Go.AbsM
def c1 (s : Nat) : Nat := Nat.xor (Nat.div s 2) (Nat.mul kc (Nat.mod s 2))
def c8 (s : Nat) : Nat := c1 (c1 (c1 (c1 (c1 (c1 (c1 (c1 s)))))))
def crcK : List Int → Nat → Nat
  | [], s => s
  | x :: r, s => match x with
    | .ofNat m => match c8 (Nat.xor s m) with
      | 0 => crcK r 0
      | n + 1 => crcK r (n + 1)
    | .negSucc _ => crcN s (x :: r)
def sumK (l : List Int) : Int := match Nat.sub 4294967295 (crcK l 4294967295) with
  | 0 => .ofNat 0
  | n + 1 => .ofNat (n + 1)
theorem c1_eq (s : Nat) : c1 s = cstepN s := by
  have e : c1 s = (s / 2) ^^^ (kc * (s % 2)) := rfl
  rw [e]
  unfold cstepN
  by_cases h : s % 2 = 1
  · rw [if_pos h, h, Nat.mul_one]
  · rw [if_neg h]
    have : s % 2 = 0 := by omega
    rw [this, Nat.mul_zero, Nat.xor_zero]
theorem crcK_eq : ∀ (l : List Int) (s : Nat), crcK l s = crcN s l
  | [], s => rfl
  | x :: r, s => by
    cases x with
    | ofNat m =>
      have e : crcK (Int.ofNat m :: r) s = crcK r (c8 (Nat.xor s m)) := by
        show (match c8 (Nat.xor s m) with
          | 0 => crcK r 0
          | n + 1 => crcK r (n + 1)) = _
        cases c8 (Nat.xor s m) <;> rfl
      rw [e, crcK_eq r]
      have e2 : c8 (Nat.xor s m) = citerN 8 (s ^^^ m) := by
        simp only [c8, c1_eq, citerN]
        rfl
      rw [e2]
      rfl
    | negSucc m => rfl
theorem sumK_eq {l : List Int} (hb : bytes l) : sumK l = sum l := by
  have h1 := crcN_lt l 4294967295 hb (by decide)
  have e : sumK l = ((4294967295 - crcK l 4294967295 : Nat) : Int) := by
    show (match Nat.sub 4294967295 (crcK l 4294967295) with
      | 0 => Int.ofNat 0
      | n + 1 => Int.ofNat (n + 1)) = _
    have : Nat.sub 4294967295 (crcK l 4294967295) = 4294967295 - crcK l 4294967295 := rfl
    rw [this]
    cases 4294967295 - crcK l 4294967295 <;> rfl
  rw [e, crcK_eq]
  show _ = 4294967295 - ((crcN (4294967295 : Int).toNat l : Nat) : Int)
  have : (4294967295 : Int).toNat = 4294967295 := rfl
  rw [this]
  omega
end Sp
end

section
set_option maxRecDepth 100000
namespace Go.Proofs.Ytcmjccjbgidinaa
open Go.AbsM
def gamma (f : FuncId) (args : List AV) : Option AV := match Nat.beq f 52 with
  | true => match args with
    | [.sl e xs] => match Nat.beq e 5 with
      | true => match u8sOf xs with
        | some l => match Nat.blt l.length 1000000 with
          | true => some (.x (.int .u32 (Sp.sumK l)))
          | false => none
        | none => none
      | false => none
    | _ => none
  | false => none
theorem gamma_ok : GamOk Try.prog gamma := by
  intro f args r h
  unfold gamma at h
  split at h
  · rename_i hf
    have hf := Nat.eq_of_beq_eq_true hf
    subst hf
    split at h
    · rename_i e xs
      split at h
      · rename_i he
        have he := Nat.eq_of_beq_eq_true he
        subst he
        split at h
        · rename_i l hl
          split at h
          · rename_i hlen
            simp only [Option.some.injEq] at h; subst h
            obtain ⟨rfl, hb⟩ := u8sOf_ok hl
            rw [Sp.sumK_eq hb]
            have hlen : l.length < 1000000 := Nat.le_of_ble_eq_true hlen
            exact ⟨good52.there, fun S => good52.call (l, ()) ⟨hb, hlen⟩ S⟩
          · cases h
        · cases h
      · cases h
    · cases h
  · cases h
set_option maxRecDepth 100000 in
theorem good29 : GoodC Try.prog (trueC 29) := good_closedH (fn := Try.f29) (heapy := fun _ => false) (gam := fun f => Nat.beq f 52) (Γ := gamma) (q := 2000) (n := 2000) wide ⟨by kernel_rfl, by kernel_rfl, by kernel_rfl, by kernel_rfl⟩ gamma_ok (by kernel_rfl)
end Go.Proofs.Ytcmjccjbgidinaa
end
