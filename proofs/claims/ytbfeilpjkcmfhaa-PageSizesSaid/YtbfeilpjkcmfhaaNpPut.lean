/-
  Texts of a proof over the translated program: NpPut.
-/
import Derived.Test.YtbfeilpjkcmfhaaNpBase
import Derived.Test.YtbfeilpjkcmfhaaN1Sp
set_option linter.unusedVariables false
namespace Go.Proofs.Ytbfeilpjkcmfhaa
open Go.AbsM
/-- num.Put -/
def mk26 (i : Int × List Int) : TSt := mkS 30 [(1, TV.int .u64 i.1), (4, .a .nils), (5, TV.h 11)] [(11, .arr false 5 (.int .u8) i.2)]
def psi26 (i : Int × List Int) (Φ : Post) : Prop := (0 ≤ i.1 ∧ i.1 < 18446744073709551616 ∧ i.2.length + (Sp.enc i.1).length < 1000000) ∧ Φ .ret (mkS 30 [(4, TV.h 11)] [(11, .arr false 5 (.int .u8) (i.2 ++ Sp.enc i.1))])
def lab26 : Nat → Option Piece := one 0 (loopP 30 [1, 4, 5] [11] mk26 psi26)
theorem put_head (L : List TCtr) (b : List Int) (u : Int) (Q : TV → Prop) : wpFn Try.prog (knownL L noneK lab26) Try.f26 [.c (.sl 5 (.int .u8) (.mk b)), .c (.a (.x (.int .u64 u)))] Q = (
  grd (W.ile (W.ofNat (W.len b)) (W.add IntKind.i64 (W.ofNat (W.len b)) (10 : Int))) (grd (W.ile (W.add IntKind.i64 (W.ofNat (W.len b)) (10 : Int)) (9223372036854775807 : Int)) (grd (W.ile (W.bys (1 : Nat) (W.add IntKind.i64 (W.ofNat (W.len b)) (10 : Int))) (281474976710656 : Int)) (brc (W.ilt u (128 : Int)) (grd (W.nle (W.nmul (W.nadd (W.len (W.app (W.take (W.nmin (W.len b) (W.len (W.rep (W.toNat (W.ofNat (W.len b))) (0 : Int)))) b) (W.drop (W.nmin (W.len b) (W.len (W.rep (W.toNat (W.ofNat (W.len b))) (0 : Int)))) (W.rep (W.toNat (W.ofNat (W.len b))) (0 : Int))))) (W.len [W.wrap IntKind.u8 u])) (1 : Nat)) (140737488355328 : Nat)) (Q (TV.o (T1.own (5 : Nat) (VT.int IntKind.u8) (asT (List Int) (W.app (W.app (W.take (W.nmin (W.len b) (W.len (W.rep (W.toNat (W.ofNat (W.len b))) (0 : Int)))) b) (W.drop (W.nmin (W.len b) (W.len (W.rep (W.toNat (W.ofNat (W.len b))) (0 : Int)))) (W.rep (W.toNat (W.ofNat (W.len b))) (0 : Int)))) [W.wrap IntKind.u8 u])))))) (grd (W.nle (W.nmul (W.nadd (W.len (W.app (W.take (W.nmin (W.len b) (W.len (W.rep (W.toNat (W.ofNat (W.len b))) (0 : Int)))) b) (W.drop (W.nmin (W.len b) (W.len (W.rep (W.toNat (W.ofNat (W.len b))) (0 : Int)))) (W.rep (W.toNat (W.ofNat (W.len b))) (0 : Int))))) (W.len [W.or IntKind.u8 (W.wrap IntKind.u8 u) (128 : Int)])) (1 : Nat)) (140737488355328 : Nat)) (∃ i, mkS (30 : Nat) [((1 : Nat), TV.int IntKind.u64 (W.shr IntKind.u64 u (7 : Int))), ((4 : Nat), TV.o (T1.c (TC.a AV.nils))), ((5 : Nat), TV.h (11 : Nat))] [((11 : Nat), TOb.arr false (5 : Nat) (VT.int IntKind.u8) (asT (List Int) (W.app (W.app (W.take (W.nmin (W.len b) (W.len (W.rep (W.toNat (W.ofNat (W.len b))) (0 : Int)))) b) (W.drop (W.nmin (W.len b) (W.len (W.rep (W.toNat (W.ofNat (W.len b))) (0 : Int)))) (W.rep (W.toNat (W.ofNat (W.len b))) (0 : Int)))) [W.or IntKind.u8 (W.wrap IntKind.u8 u) (128 : Int)])))] = mkS (30 : Nat) [((1 : Nat), TV.int IntKind.u64 (Prod.fst i)), ((4 : Nat), TV.o (T1.c (TC.a AV.nils))), ((5 : Nat), TV.h (11 : Nat))] [((11 : Nat), TOb.arr false (5 : Nat) (VT.int IntKind.u8) (asT (List Int) (Prod.snd i)))] ∧ ((0 : Int) ≤ Prod.fst i ∧ Prod.fst i < (18446744073709551616 : Int) ∧ List.length (Prod.snd i) + List.length (Sp.enc (Prod.fst i)) < (1000000 : Nat)) ∧ Q (TV.o (T1.own (5 : Nat) (VT.int IntKind.u8) (asT (List Int) (List.append (Prod.snd i) (Sp.enc (Prod.fst i)))))))))))) := by kernel_rfl
theorem put_step (L : List TCtr) (μ : Int × List Int → Nat) (u : Int) (xs : List Int) (Φ : Post) (m : Nat) : wpT Try.prog (knownL L noneK lab26) (restC (bodyOf Try.f26) 0) (mk26 (u, xs)) (jumpK (knownL L noneK lab26) 30 [1, 4, 5] [11] [4] [11] (scC (bodyOf Try.f26)) 0 mk26 μ psi26 m Φ) = (
  brc (W.ilt u (128 : Int)) (grd (W.nle (W.nmul (W.nadd (W.len xs) (W.len [W.wrap IntKind.u8 u])) (1 : Nat)) (140737488355328 : Nat)) (Φ AExit.ret (mkS (30 : Nat) [((4 : Nat), TV.h (11 : Nat))] [((11 : Nat), TOb.arr false (5 : Nat) (VT.int IntKind.u8) (asT (List Int) (W.app xs [W.wrap IntKind.u8 u])))]))) (grd (W.nle (W.nmul (W.nadd (W.len xs) (W.len [W.or IntKind.u8 (W.wrap IntKind.u8 u) (128 : Int)])) (1 : Nat)) (140737488355328 : Nat)) (∃ j, mkS (30 : Nat) [((1 : Nat), TV.int IntKind.u64 (W.shr IntKind.u64 u (7 : Int))), ((4 : Nat), TV.o (T1.c (TC.a AV.nils))), ((5 : Nat), TV.h (11 : Nat))] [((11 : Nat), TOb.arr false (5 : Nat) (VT.int IntKind.u8) (asT (List Int) (W.app xs [W.or IntKind.u8 (W.wrap IntKind.u8 u) (128 : Int)])))] = mkS (30 : Nat) [((1 : Nat), TV.int IntKind.u64 (Prod.fst j)), ((4 : Nat), TV.o (T1.c (TC.a AV.nils))), ((5 : Nat), TV.h (11 : Nat))] [((11 : Nat), TOb.arr false (5 : Nat) (VT.int IntKind.u8) (asT (List Int) (Prod.snd j)))] ∧ μ j < m ∧ ((0 : Int) ≤ Prod.fst j ∧ Prod.fst j < (18446744073709551616 : Int) ∧ List.length (Prod.snd j) + List.length (Sp.enc (Prod.fst j)) < (1000000 : Nat)) ∧ Φ AExit.ret (mkS (30 : Nat) [((4 : Nat), TV.h (11 : Nat))] [((11 : Nat), TOb.arr false (5 : Nat) (VT.int IntKind.u8) (asT (List Int) (List.append (Prod.snd j) (Sp.enc (Prod.fst j)))))])))) := by kernel_rfl
def ctr26 : TCtr := .det 26 [.l 5 (.int .u8), .v (.int .u64)] (fun (d : List Int × Int × Unit) => 0 ≤ d.2.1 ∧ d.2.1 < 18446744073709551616 ∧ d.1.length < 100000) (fun (d : List Int × Int × Unit) => .o (.own 5 (.int .u8) (d.1 ++ Sp.enc d.2.1))) fun _ => rfl

theorem fits26 : Fits Try.prog ctr26.f ctr26.sig Try.f26 := ⟨by kernel_rfl, by kernel_rfl, by kernel_rfl, by kernel_rfl⟩
theorem good26 {L : List TCtr} (hL : Goods Try.prog L) : GoodC Try.prog ctr26 := by
  refine good_jump (fn := Try.f26) [4] [11] (fun i : Int × List Int => i.1.toNat) wide hL fits26 (by kernel_rfl) (by kernel_rfl) (by kernel_rfl) (by kernel_rfl) (n := 30) (ls := [1, 4, 5]) (ks := [11]) (mk := mk26) (ψ := psi26) (l := 0) ?_ ?_
  · rintro ⟨u, xs⟩ Φ ⟨⟨h0, h1, h2⟩, hΦ⟩
    refine Eq.mpr (put_step L _ u xs Φ _) ?_
    simp only at h0 h1 h2 hΦ ⊢
    refine brc_ilt (fun h => ?_) fun h => ?_
    · refine grd_nle (by simp [W.nmul, W.nadd, W.len]; omega) ?_
      rw [Sp.wrap_low h0 h]
      rw [Sp.enc_low h0 h] at hΦ
      exact hΦ
    · have hl : (Sp.enc u).length = 1 + (Sp.enc (u / 128)).length := by rw [Sp.enc_high h0 h]; simp; omega
      refine grd_nle (by simp [W.nmul, W.nadd, W.len]; omega) ?_
      rw [Sp.or_u8 h0, Sp.shr7]
      rw [Sp.enc_high h0 h] at hΦ
      refine ⟨(u / 128, xs ++ [u % 128 + 128]), rfl, ?_, ⟨?_, ?_, ?_⟩, ?_⟩
      · show (u / 128).toNat < u.toNat; omega
      · show 0 ≤ u / 128; omega
      · show u / 128 < _; omega
      · show (xs ++ [u % 128 + 128]).length + (Sp.enc (u / 128)).length < 1000000; simp; omega
      · show Φ .ret (mkS 30 [(4, TV.h 11)] [(11, .arr false 5 (.int .u8) ((xs ++ [u % 128 + 128]) ++ Sp.enc (u / 128)))])
        rw [List.append_assoc]; exact hΦ
  · intro d hd
    obtain ⟨b, u, x⟩ : List Int × Int × Unit := d
    obtain ⟨h0, h1, h2⟩ : 0 ≤ u ∧ u < 18446744073709551616 ∧ b.length < 100000 := hd
    refine Eq.mpr (put_head L b u _) ?_
    have e1 : W.ofNat (W.len b) = (b.length : Int) := rfl
    simp only [asT, W.copied]
    rw [e1, W.add_i64 (by omega) (by omega)]
    refine grd_ile (by omega) (grd_ile (by omega) (grd_ile (by simp only [W.bys]; omega) (brc_ilt (fun h => ?_) fun h => ?_)))
    · refine grd_nle (by simp [W.nmul, W.nadd, W.len]; omega) ?_
      rw [Sp.wrap_low h0 h]
      show _ = TV.o (T1.own 5 (VT.int .u8) (b ++ Sp.enc u))
      rw [Sp.enc_low h0 h]; rfl
    · refine grd_nle (by simp [W.nmul, W.nadd, W.len]; omega) ?_
      rw [Sp.or_u8 h0, Sp.shr7]
      have hl : (Sp.enc u).length = 1 + (Sp.enc (u / 128)).length := by rw [Sp.enc_high h0 h]; simp; omega
      have := (Sp.enc_len h0 h1).2
      refine ⟨(u / 128, b ++ [u % 128 + 128]), rfl, ⟨?_, ?_, ?_⟩, ?_⟩
      · show 0 ≤ u / 128; omega
      · show u / 128 < _; omega
      · show (b ++ [u % 128 + 128]).length + (Sp.enc (u / 128)).length < 1000000
        simp; omega
      · show TV.o (T1.own 5 (VT.int .u8) ((b ++ [u % 128 + 128]) ++ Sp.enc (u / 128))) = TV.o (T1.own 5 (VT.int .u8) (b ++ Sp.enc u))
        rw [Sp.enc_high h0 h, List.append_assoc]; rfl
end Go.Proofs.Ytbfeilpjkcmfhaa
