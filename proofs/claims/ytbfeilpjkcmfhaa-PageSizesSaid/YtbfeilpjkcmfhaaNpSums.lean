/-
  Texts of a proof over the translated program: NpSums.
-/
import Derived.Test.YtbfeilpjkcmfhaaNpBase
import Derived.Test.YtbfeilpjkcmfhaaN1Sp5
import Derived.Test.YtbfeilpjkcmfhaaLib5
set_option linter.unusedVariables false
namespace Go.Proofs.Ytbfeilpjkcmfhaa
open Go.AbsM
/-- num.eight -/
def mk46 (i : Int × Int) : TSt := mkS 14 [(0, TV.int .u32 i.1), (2, TV.int .u32 0), (3, TV.int .i64 i.2)] []
def psi46 (i : Int × Int) (Φ : Post) : Prop := (0 ≤ i.1 ∧ i.1 < 4294967296 ∧ 0 ≤ i.2 ∧ i.2 ≤ 8) ∧ Φ .normal (mk46 (Sp.citer (8 - i.2.toNat) i.1, 8))
def blk46 : Nat → Option Piece := one 0 (loopP 14 [0, 2, 3] [] mk46 psi46)
theorem nf46 (L : List TCtr) (s : Int) (Q : TV → Prop) : wpFn Try.prog (knownL L blk46 noneK) Try.f46 [.c (.a (.x (.int .u32 s)))] Q = (
  ∃ i, mkS (14 : Nat) [((0 : Nat), TV.int IntKind.u32 s), ((2 : Nat), TV.int IntKind.u32 (0 : Int)), ((3 : Nat), TV.int IntKind.i64 (0 : Int))] [] = mkS (14 : Nat) [((0 : Nat), TV.int IntKind.u32 (Prod.fst i)), ((2 : Nat), TV.int IntKind.u32 (0 : Int)), ((3 : Nat), TV.int IntKind.i64 (Prod.snd i))] [] ∧ ((0 : Int) ≤ Prod.fst i ∧ Prod.fst i < (4294967296 : Int) ∧ (0 : Int) ≤ Prod.snd i ∧ Prod.snd i ≤ (8 : Int)) ∧ Q (TV.int IntKind.u32 (Sp.citer ((8 : Nat) - Int.toNat (Prod.snd i)) (Prod.fst i)))) := by kernel_rfl
theorem nf46s (L : List TCtr) (mk : Int × Int → TSt) (ψ : Int × Int → Post → Prop) (μ : Int × Int → Nat) (s k : Int) (Φ : Post) (m : Nat) : wpT Try.prog (knownL L blk46 noneK) (loopOf (blkC (bodyOf Try.f46) 0)) (mk46 (s, k)) (stepK 14 [0, 2, 3] [] [0, 2, 3] [] 0 mk μ ψ m Φ) = (
  brc (W.ilt k (8 : Int)) (∃ j, mkS (14 : Nat) [((0 : Nat), TV.int IntKind.u32 (W.xor IntKind.u32 (W.shr IntKind.u32 s (1 : Int)) (W.and IntKind.u32 (3988292384 : Int) (W.neg IntKind.u32 (W.and IntKind.u32 s (1 : Int)))))), ((2 : Nat), TV.int IntKind.u32 (0 : Int)), ((3 : Nat), TV.int IntKind.i64 (W.add IntKind.i64 k (1 : Int)))] [] = mk j ∧ μ j < m ∧ ψ j Φ) (Φ AExit.normal (mkS (14 : Nat) [((0 : Nat), TV.int IntKind.u32 s), ((2 : Nat), TV.int IntKind.u32 (0 : Int)), ((3 : Nat), TV.int IntKind.i64 k)] []))) := by kernel_rfl
def ctr46 : TCtr := .det 46 [.v (.int .u32)] (fun (d : Int × Unit) => 0 ≤ d.1 ∧ d.1 < 4294967296) (fun (d : Int × Unit) => TV.int .u32 (Sp.citer 8 d.1)) fun _ => rfl
/-- num.Sum -/
def mk28 (i : List Int × Int × Int) : TSt := mkS 21 [(0, TV.l 5 (.int .u8) i.1), (2, TV.int .u32 0), (3, TV.int .u32 i.2.1), (4, TV.int .i64 i.2.2)] []
def psi28 (i : List Int × Int × Int) (Φ : Post) : Prop := (Sp.bytes i.1 ∧ i.1.length < 1000000 ∧ 0 ≤ i.2.1 ∧ i.2.1 < 4294967296 ∧ 0 ≤ i.2.2 ∧ i.2.2 ≤ i.1.length) ∧ Φ .ret (mkS 21 [(2, TV.int .u32 (4294967295 - Sp.crc i.2.1 (i.1.drop i.2.2.toNat)))] [])
def lab28 : Nat → Option Piece := one 0 (loopP 21 [0, 2, 3, 4] [] mk28 psi28)
theorem nf28 (b : List Int) (Q : TV → Prop) : wpFn Try.prog (knownL [ctr46] noneK lab28) Try.f28 [.c (.sl 5 (.int .u8) (.mk b))] Q = (
  brc (W.ieq (0 : Int) (W.ofNat (W.len b))) (Q (TV.int IntKind.u32 (0 : Int))) (grd (W.nlt (0 : Nat) (W.len b)) (((0 : Int) ≤ W.xor IntKind.u32 (4294967295 : Int) (W.wrap IntKind.u32 (W.nth b (0 : Nat) (0 : Int))) ∧ W.xor IntKind.u32 (4294967295 : Int) (W.wrap IntKind.u32 (W.nth b (0 : Nat) (0 : Int))) < (4294967296 : Int)) ∧ ∃ i, mkS (21 : Nat) [((0 : Nat), TV.l (5 : Nat) (VT.int IntKind.u8) b), ((2 : Nat), TV.int IntKind.u32 (0 : Int)), ((3 : Nat), TV.int IntKind.u32 (Sp.citer (8 : Nat) (W.xor IntKind.u32 (4294967295 : Int) (W.wrap IntKind.u32 (W.nth b (0 : Nat) (0 : Int)))))), ((4 : Nat), TV.int IntKind.i64 (1 : Int))] [] = mkS (21 : Nat) [((0 : Nat), TV.l (5 : Nat) (VT.int IntKind.u8) (asT (List Int) (Prod.fst i))), ((2 : Nat), TV.int IntKind.u32 (0 : Int)), ((3 : Nat), TV.int IntKind.u32 (Prod.fst (Prod.snd i))), ((4 : Nat), TV.int IntKind.i64 (Prod.snd (Prod.snd i)))] [] ∧ (Sp.bytes (Prod.fst i) ∧ List.length (Prod.fst i) < (1000000 : Nat) ∧ (0 : Int) ≤ Prod.fst (Prod.snd i) ∧ Prod.fst (Prod.snd i) < (4294967296 : Int) ∧ (0 : Int) ≤ Prod.snd (Prod.snd i) ∧ Prod.snd (Prod.snd i) ≤ Int.ofNat (List.length (Prod.fst i))) ∧ Q (TV.int IntKind.u32 ((4294967295 : Int) - Sp.crc (Prod.fst (Prod.snd i)) (List.drop (Int.toNat (Prod.snd (Prod.snd i))) (Prod.fst i))))))) := by kernel_rfl
theorem nf28s (mk : List Int × Int × Int → TSt) (ψ : List Int × Int × Int → Post → Prop) (μ : List Int × Int × Int → Nat) (b : List Int) (s i : Int) (Φ : Post) (m : Nat) : wpT Try.prog (knownL [ctr46] noneK lab28) (restC (bodyOf Try.f28) 0) (mk28 (b, s, i)) (jumpK (knownL [ctr46] noneK lab28) 21 [0, 2, 3, 4] [] [2] [] (scC (bodyOf Try.f28)) 0 mk μ ψ m Φ) = (
  brc (W.ieq i (W.ofNat (W.len b))) (Φ AExit.ret (mkS (21 : Nat) [((2 : Nat), TV.int IntKind.u32 (W.inv IntKind.u32 s))] [])) (grd (W.ile (0 : Int) i) (grd (W.nlt (W.toNat i) (W.len b)) (((0 : Int) ≤ W.xor IntKind.u32 s (W.wrap IntKind.u32 (W.nth b (W.toNat i) (0 : Int))) ∧ W.xor IntKind.u32 s (W.wrap IntKind.u32 (W.nth b (W.toNat i) (0 : Int))) < (4294967296 : Int)) ∧ ∃ j, mkS (21 : Nat) [((0 : Nat), TV.l (5 : Nat) (VT.int IntKind.u8) b), ((2 : Nat), TV.int IntKind.u32 (0 : Int)), ((3 : Nat), TV.int IntKind.u32 (Sp.citer (8 : Nat) (W.xor IntKind.u32 s (W.wrap IntKind.u32 (W.nth b (W.toNat i) (0 : Int)))))), ((4 : Nat), TV.int IntKind.i64 (W.add IntKind.i64 i (1 : Int)))] [] = mk j ∧ μ j < m ∧ ψ j Φ)))) := by kernel_rfl
/-- noriaref11.Sum -/
def mk31i (i : List Int × Int × Int × Int) : TSt := mkS 33 [(0, TV.l 5 (.int .u8) i.1), (2, TV.int .u32 0), (3, TV.int .u32 i.2.1), (4, TV.int .i64 i.2.2.1), (5, TV.int .i64 i.2.2.2)] []
def psi31i (i : List Int × Int × Int × Int) (Φ : Post) : Prop := (0 ≤ i.2.1 ∧ i.2.1 < 4294967296 ∧ 0 ≤ i.2.2.2 ∧ i.2.2.2 ≤ 8) ∧ Φ .normal (mk31i (i.1, Sp.citer (8 - i.2.2.2.toNat) i.2.1, i.2.2.1, 8))
def mk31 (i : List Int × Int × Int) : TSt := mkS 33 [(0, TV.l 5 (.int .u8) i.1), (2, TV.int .u32 0), (3, TV.int .u32 i.2.1), (4, TV.int .i64 i.2.2)] []
def psi31 (i : List Int × Int × Int) (Φ : Post) : Prop := (Sp.bytes i.1 ∧ i.1.length < 1000000 ∧ 0 ≤ i.2.1 ∧ i.2.1 < 4294967296 ∧ 0 ≤ i.2.2 ∧ i.2.2 ≤ i.1.length) ∧ ∀ n : Int, Φ .normal (mk31 (i.1, Sp.crc i.2.1 (i.1.drop i.2.2.toNat), n))
def blk31 (l : Nat) : Option Piece := match l.beq 0 with
  | true => some (loopP 33 [0, 2, 3, 4] [] mk31 psi31)
  | false => one 2 (loopP 33 [0, 2, 3, 4, 5] [] mk31i psi31i) l
theorem nf31 (L : List TCtr) (b : List Int) (Q : TV → Prop) : wpFn Try.prog (knownL L blk31 noneK) Try.f31 [.c (.sl 5 (.int .u8) (.mk b))] Q = (
  ∃ i, mkS (33 : Nat) [((0 : Nat), TV.l (5 : Nat) (VT.int IntKind.u8) b), ((2 : Nat), TV.int IntKind.u32 (0 : Int)), ((3 : Nat), TV.int IntKind.u32 (4294967295 : Int)), ((4 : Nat), TV.int IntKind.i64 (0 : Int))] [] = mkS (33 : Nat) [((0 : Nat), TV.l (5 : Nat) (VT.int IntKind.u8) (asT (List Int) (Prod.fst i))), ((2 : Nat), TV.int IntKind.u32 (0 : Int)), ((3 : Nat), TV.int IntKind.u32 (Prod.fst (Prod.snd i))), ((4 : Nat), TV.int IntKind.i64 (Prod.snd (Prod.snd i)))] [] ∧ (Sp.bytes (Prod.fst i) ∧ List.length (Prod.fst i) < (1000000 : Nat) ∧ (0 : Int) ≤ Prod.fst (Prod.snd i) ∧ Prod.fst (Prod.snd i) < (4294967296 : Int) ∧ (0 : Int) ≤ Prod.snd (Prod.snd i) ∧ Prod.snd (Prod.snd i) ≤ Int.ofNat (List.length (Prod.fst i))) ∧ ∀ (n : Int), Q (TV.int IntKind.u32 (W.inv IntKind.u32 (Sp.crc (Prod.fst (Prod.snd i)) (List.drop (Int.toNat (Prod.snd (Prod.snd i))) (Prod.fst i)))))) := by kernel_rfl
theorem nf31s (L : List TCtr) (mk : List Int × Int × Int → TSt) (ψ : List Int × Int × Int → Post → Prop) (μ : List Int × Int × Int → Nat) (b : List Int) (s i : Int) (Φ : Post) (m : Nat) : wpT Try.prog (knownL L blk31 noneK) (loopOf (blkC (bodyOf Try.f31) 0)) (mk31 (b, s, i)) (stepK 33 [0, 2, 3, 4] [] [0, 2, 3, 4] [] 0 mk μ ψ m Φ) = (
  brc (W.ilt i (W.ofNat (W.len b))) (grd (W.ile (0 : Int) i) (grd (W.nlt (W.toNat i) (W.len b)) (∃ i_1, mkS (33 : Nat) [((0 : Nat), TV.l (5 : Nat) (VT.int IntKind.u8) b), ((2 : Nat), TV.int IntKind.u32 (0 : Int)), ((3 : Nat), TV.int IntKind.u32 (W.xor IntKind.u32 s (W.wrap IntKind.u32 (W.nth b (W.toNat i) (0 : Int))))), ((4 : Nat), TV.int IntKind.i64 i), ((5 : Nat), TV.int IntKind.i64 (0 : Int))] [] = mkS (33 : Nat) [((0 : Nat), TV.l (5 : Nat) (VT.int IntKind.u8) (asT (List Int) (Prod.fst i_1))), ((2 : Nat), TV.int IntKind.u32 (0 : Int)), ((3 : Nat), TV.int IntKind.u32 (Prod.fst (Prod.snd i_1))), ((4 : Nat), TV.int IntKind.i64 (Prod.fst (Prod.snd (Prod.snd i_1)))), ((5 : Nat), TV.int IntKind.i64 (Prod.snd (Prod.snd (Prod.snd i_1))))] [] ∧ ((0 : Int) ≤ Prod.fst (Prod.snd i_1) ∧ Prod.fst (Prod.snd i_1) < (4294967296 : Int) ∧ (0 : Int) ≤ Prod.snd (Prod.snd (Prod.snd i_1)) ∧ Prod.snd (Prod.snd (Prod.snd i_1)) ≤ (8 : Int)) ∧ ∃ j, mkS (33 : Nat) [((0 : Nat), TV.l (5 : Nat) (VT.int IntKind.u8) (asT (List Int) (Prod.fst i_1))), ((2 : Nat), TV.int IntKind.u32 (0 : Int)), ((3 : Nat), TV.int IntKind.u32 (Sp.citer ((8 : Nat) - Int.toNat (Prod.snd (Prod.snd (Prod.snd i_1)))) (Prod.fst (Prod.snd i_1)))), ((4 : Nat), TV.int IntKind.i64 (W.add IntKind.i64 (Prod.fst (Prod.snd (Prod.snd i_1))) (1 : Int)))] [] = mk j ∧ μ j < m ∧ ψ j Φ))) (Φ AExit.normal (mkS (33 : Nat) [((0 : Nat), TV.l (5 : Nat) (VT.int IntKind.u8) b), ((2 : Nat), TV.int IntKind.u32 (0 : Int)), ((3 : Nat), TV.int IntKind.u32 s), ((4 : Nat), TV.int IntKind.i64 i)] []))) := by kernel_rfl
theorem nf31i (L : List TCtr) (mk : List Int × Int × Int × Int → TSt) (ψ : List Int × Int × Int × Int → Post → Prop) (μ : List Int × Int × Int × Int → Nat) (b : List Int) (s i k : Int) (Φ : Post) (m : Nat) : wpT Try.prog (knownL L blk31 noneK) (loopOf (blkC (bodyOf Try.f31) 2)) (mk31i (b, s, i, k)) (stepK 33 [0, 2, 3, 4, 5] [] [0, 2, 3, 4, 5] [] 2 mk μ ψ m Φ) = (
  brc (W.ilt k (8 : Int)) (brc (W.ieq (W.and IntKind.u32 s (1 : Int)) (1 : Int)) (∃ j, mkS (33 : Nat) [((0 : Nat), TV.l (5 : Nat) (VT.int IntKind.u8) b), ((2 : Nat), TV.int IntKind.u32 (0 : Int)), ((3 : Nat), TV.int IntKind.u32 (W.xor IntKind.u32 (W.shr IntKind.u32 s (1 : Int)) (3988292384 : Int))), ((4 : Nat), TV.int IntKind.i64 i), ((5 : Nat), TV.int IntKind.i64 (W.add IntKind.i64 k (1 : Int)))] [] = mk j ∧ μ j < m ∧ ψ j Φ) (∃ j, mkS (33 : Nat) [((0 : Nat), TV.l (5 : Nat) (VT.int IntKind.u8) b), ((2 : Nat), TV.int IntKind.u32 (0 : Int)), ((3 : Nat), TV.int IntKind.u32 (W.shr IntKind.u32 s (1 : Int))), ((4 : Nat), TV.int IntKind.i64 i), ((5 : Nat), TV.int IntKind.i64 (W.add IntKind.i64 k (1 : Int)))] [] = mk j ∧ μ j < m ∧ ψ j Φ)) (Φ AExit.normal (mkS (33 : Nat) [((0 : Nat), TV.l (5 : Nat) (VT.int IntKind.u8) b), ((2 : Nat), TV.int IntKind.u32 (0 : Int)), ((3 : Nat), TV.int IntKind.u32 s), ((4 : Nat), TV.int IntKind.i64 i), ((5 : Nat), TV.int IntKind.i64 k)] []))) := by kernel_rfl
theorem good46 {L : List TCtr} (hL : Goods Try.prog L) : GoodC Try.prog ctr46 := by
  refine good_loop (fn := Try.f46) [0, 2, 3] [] (fun i : Int × Int => (8 - i.2).toNat) wide hL ⟨by kernel_rfl, by kernel_rfl, by kernel_rfl, by kernel_rfl⟩ (by kernel_rfl) (by kernel_rfl) (by kernel_rfl) (by kernel_rfl) (n := 14) (ls := [0, 2, 3]) (ks := []) (mk := mk46) (ψ := psi46) (id := 0) ?_ ?_
  · rintro ⟨s, k⟩ Φ ⟨⟨h0, h1, h2, h3⟩, hΦ⟩
    refine Eq.mpr (nf46s L _ _ _ s k Φ _) ?_
    simp only at h0 h1 h2 h3 hΦ
    refine brc_ilt (fun h => ?_) fun h => ?_
    · rw [Sp.cstep_prog h0 h1, W.add_i64 (by omega) (by omega)]
      have hc := Sp.cstep_in h0 h1
      have e : 8 - k.toNat = (8 - (k + 1).toNat) + 1 := by omega
      rw [e, Sp.citer_succ h0] at hΦ
      refine ⟨(Sp.cstep s, k + 1), rfl, ?_, ⟨hc.1, hc.2, ?_, ?_⟩, hΦ⟩
      · show (8 - (k + 1)).toNat < (8 - k).toNat; omega
      · show 0 ≤ k + 1; omega
      · show k + 1 ≤ 8; omega
    · have hk : k = 8 := by omega
      subst hk
      have e : Sp.citer (8 - (8 : Int).toNat) s = s := by
        show ((s.toNat : Nat) : Int) = s; omega
      rw [e] at hΦ; exact hΦ
  · intro d hd
    obtain ⟨s, x⟩ : Int × Unit := d
    obtain ⟨h0, h1⟩ : 0 ≤ s ∧ s < 4294967296 := hd
    refine Eq.mpr (nf46 L s _) ⟨(s, 0), rfl, ⟨h0, h1, ?_, ?_⟩, rfl⟩
    · show (0 : Int) ≤ 0; omega
    · show (0 : Int) ≤ 8; omega
theorem good23L : Goods Try.prog [ctr46] := .cons (good46 .nil) .nil

def preB (d : List Int × Unit) : Prop := Sp.bytes d.1 ∧ d.1.length < 1000000
def ctr28 : TCtr := .det 28 [.l 5 (.int .u8)] preB (fun (d : List Int × Unit) => TV.int .u32 (Sp.sum d.1)) fun _ => rfl
def ctr31 : TCtr := .det 31 [.l 5 (.int .u8)] preB (fun (d : List Int × Unit) => TV.int .u32 (Sp.sum d.1)) fun _ => rfl
theorem good28 : GoodC Try.prog ctr28 := by
  refine good_jump (fn := Try.f28) [2] [] (fun i : List Int × Int × Int => (i.1.length - i.2.2).toNat) wide good23L ⟨by kernel_rfl, by kernel_rfl, by kernel_rfl, by kernel_rfl⟩ (by kernel_rfl) (by kernel_rfl) (by kernel_rfl) (by kernel_rfl) (n := 21) (ls := [0, 2, 3, 4]) (ks := []) (mk := mk28) (ψ := psi28) (l := 0) ?_ ?_
  · rintro ⟨b, s, i⟩ Φ ⟨⟨hb, hl, h0, h1, h2, h3⟩, hΦ⟩
    refine Eq.mpr (nf28s _ _ _ b s i Φ _) ?_
    simp only at hb hl h0 h1 h2 h3 hΦ
    have e1 : W.ofNat (W.len b) = (b.length : Int) := rfl
    have e2 : W.toNat i = i.toNat := rfl
    have e3 : W.nth b i.toNat 0 = b.getD i.toNat 0 := rfl
    rw [e1, e2, e3]
    refine brc_ieq (fun h => ?_) fun h => ?_
    · rw [Sp.inv_u32 h0 h1]
      have : b.drop i.toNat = [] := List.drop_eq_nil_of_le (by omega)
      rw [this] at hΦ
      have e : Sp.crc s [] = s := by show ((s.toNat : Nat) : Int) = s; omega
      rw [e] at hΦ; exact hΦ
    · obtain ⟨x0, x1⟩ := Sp.bytes_get hb i.toNat
      have hx := Sp.xor_in h0 h1 x0 x1
      have hc := Sp.citer_in (n := 8) hx.1 hx.2
      rw [W.add_i64 (by omega) (by omega)]
      rw [Sp.crc_drop hb h0 h1 (by omega)] at hΦ
      refine grd_ile h2 (grd_nlt (by simp only [W.len]; omega) ⟨hx, (b, _, i + 1), rfl, ?_, ⟨hb, hl, hc.1, hc.2, ?_, ?_⟩, ?_⟩)
      · show ((b.length : Int) - (i + 1)).toNat < ((b.length : Int) - i).toNat; omega
      · show 0 ≤ i + 1; omega
      · show i + 1 ≤ b.length; omega
      · have e : (i + 1).toNat = i.toNat + 1 := by omega
        show Φ .ret (mkS 21 [(2, TV.int .u32 (4294967295 - Sp.crc _ (b.drop (i + 1).toNat)))] [])
        rw [e]; exact hΦ
  · intro d hd
    obtain ⟨b, x⟩ : List Int × Unit := d
    obtain ⟨hb, hl⟩ : Sp.bytes b ∧ b.length < 1000000 := hd
    refine Eq.mpr (nf28 b _) ?_
    have e1 : W.ofNat (W.len b) = (b.length : Int) := rfl
    have e3 : W.nth b 0 0 = b.getD 0 0 := rfl
    rw [e1, e3]
    refine brc_ieq (fun h => ?_) fun h => ?_
    · have : b = [] := List.length_eq_zero_iff.1 (by omega)
      subst this; rfl
    · obtain ⟨x0, x1⟩ := Sp.bytes_get hb 0
      have hx := Sp.xor_in (s := 4294967295) (by omega) (by omega) x0 x1
      have hc := Sp.citer_in (n := 8) hx.1 hx.2
      refine grd_nlt (by simp only [W.len]; omega) ⟨hx, (b, _, 1), rfl, ⟨hb, hl, hc.1, hc.2, ?_, ?_⟩, ?_⟩
      · show (0 : Int) ≤ 1; omega
      · show (1 : Int) ≤ b.length; omega
      · have := Sp.crc_drop (i := 0) (s := 4294967295) hb (by omega) (by omega) (by omega)
        rw [List.drop_zero] at this
        show _ = TV.int .u32 (4294967295 - Sp.crc 4294967295 b)
        rw [this]; rfl

theorem good31 {L : List TCtr} (hL : Goods Try.prog L) : GoodC Try.prog ctr31 := by
  have hK := knownL_ok wide hL blk31 noneK
  have inner : ∀ s Φ, loopP 33 [0, 2, 3, 4, 5] [] mk31i psi31i s Φ → Run Try.prog (.code (.block 2 (blkC (bodyOf Try.f31) 2))) s Φ := by
    refine run_loopB (lx := [0, 2, 3, 4, 5]) (kx := []) hK (fun i : List Int × Int × Int × Int => (8 - i.2.2.2).toNat) (by kernel_rfl) (lamOk_free (by kernel_rfl)) ?_
    rintro ⟨b, s, i, k⟩ Φ ⟨⟨h0, h1, h2, h3⟩, hΦ⟩
    refine Eq.mpr (nf31i L _ _ _ b s i k Φ _) ?_
    simp only at h0 h1 h2 h3 hΦ
    refine brc_ilt (fun h => ?_) fun h => ?_
    · have hc := Sp.cstep_in h0 h1
      have e : 8 - k.toNat = (8 - (k + 1).toNat) + 1 := by omega
      rw [e, Sp.citer_succ h0] at hΦ
      rw [Sp.and1_u32 h0 h1, W.add_i64 (by omega) (by omega)]
      refine brc_ieq (fun h' => ?_) fun h' => ?_
      · rw [Sp.cstep_ref h0 h1 h']
        refine ⟨(b, Sp.cstep s, i, k + 1), rfl, ?_, ⟨hc.1, hc.2, ?_, ?_⟩, hΦ⟩
        · show (8 - (k + 1)).toNat < (8 - k).toNat; omega
        · show 0 ≤ k + 1; omega
        · show k + 1 ≤ 8; omega
      · rw [Sp.cstep_ref0 h0 h']
        refine ⟨(b, Sp.cstep s, i, k + 1), rfl, ?_, ⟨hc.1, hc.2, ?_, ?_⟩, hΦ⟩
        · show (8 - (k + 1)).toNat < (8 - k).toNat; omega
        · show 0 ≤ k + 1; omega
        · show k + 1 ≤ 8; omega
    · have hk : k = 8 := by omega
      subst hk
      have e : Sp.citer (8 - (8 : Int).toNat) s = s := by
        show ((s.toNat : Nat) : Int) = s; omega
      rw [e] at hΦ; exact hΦ
  have outer : ∀ s Φ, loopP 33 [0, 2, 3, 4] [] mk31 psi31 s Φ → Run Try.prog (.code (.block 0 (blkC (bodyOf Try.f31) 0))) s Φ := by
    refine run_loopB (lx := [0, 2, 3, 4]) (kx := []) hK (fun i : List Int × Int × Int => (i.1.length - i.2.2).toNat) (by kernel_rfl) ?_ ?_
    · refine lamOk_of (fun id c' hm ψ hψ => ?_) (fun c' hm => ?_)
      · have hids : (blocksOf (loopOf (blkC (bodyOf Try.f31) 0))).map (·.1) = [1, 2, 3] := by kernel_rfl
        have hc : c' = blkC (loopOf (blkC (bodyOf Try.f31) 0)) id := findB_mem (by rw [hids]; rfl) hm
        have hid : id ∈ [1, 2, 3] := by rw [← hids]; exact List.mem_map.2 ⟨_, hm, rfl⟩
        simp only [List.mem_cons, List.not_mem_nil, or_false] at hid
        rcases hid with rfl | rfl | rfl
        · cases hψ
        · cases hψ
          rw [hc]
          have : blkC (loopOf (blkC (bodyOf Try.f31) 0)) 2 = blkC (bodyOf Try.f31) 2 := by kernel_rfl
          rw [this]; exact inner
        · cases hψ
      · have : scopesOf (loopOf (blkC (bodyOf Try.f31) 0)) = [] := by kernel_rfl
        rw [this] at hm; cases hm
    rintro ⟨b, s, i⟩ Φ ⟨⟨hb, hl, h0, h1, h2, h3⟩, hΦ⟩
    refine Eq.mpr (nf31s L _ _ _ b s i Φ _) ?_
    simp only at hb hl h0 h1 h2 h3 hΦ
    have e1 : W.ofNat (W.len b) = (b.length : Int) := rfl
    have e2 : W.toNat i = i.toNat := rfl
    have e3 : W.nth b i.toNat 0 = b.getD i.toNat 0 := rfl
    rw [e1, e2, e3]
    refine brc_ilt (fun h => ?_) fun h => ?_
    · obtain ⟨x0, x1⟩ := Sp.bytes_get hb i.toNat
      have hx := Sp.xor_in h0 h1 x0 x1
      have hc := Sp.citer_in (n := 8) hx.1 hx.2
      rw [Sp.crc_drop hb h0 h1 (by omega)] at hΦ
      refine grd_ile h2 (grd_nlt (by simp only [W.len]; omega) ⟨(b, _, i, 0), rfl, ⟨hx.1, hx.2, ?_, ?_⟩, (b, Sp.citer 8 (W.xor .u32 s (W.wrap .u32 (b.getD i.toNat 0))), i + 1), ?_, ?_, ⟨hb, hl, hc.1, hc.2, ?_, ?_⟩, ?_⟩)
      · show (0 : Int) ≤ 0; omega
      · show (0 : Int) ≤ 8; omega
      · show mkS 33 [(0, TV.l 5 (.int .u8) b), (2, TV.int .u32 0), (3, TV.int .u32 (Sp.citer (8 - (0 : Int).toNat) _)), (4, TV.int .i64 (W.add .i64 i 1))] [] = _
        rw [W.add_i64 (by omega) (by omega)]; rfl
      · show ((b.length : Int) - (i + 1)).toNat < ((b.length : Int) - i).toNat; omega
      · show 0 ≤ i + 1; omega
      · show i + 1 ≤ b.length; omega
      · intro n
        have e : (i + 1).toNat = i.toNat + 1 := by omega
        have := hΦ n
        show Φ .normal (mk31 (b, Sp.crc _ (b.drop (i + 1).toNat), n))
        rw [e]; exact this
    · have : b.drop i.toNat = [] := List.drop_eq_nil_of_le (by omega)
      rw [this] at hΦ
      have e : Sp.crc s [] = s := by show ((s.toNat : Nat) : Int) = s; omega
      rw [e] at hΦ; exact hΦ i
  refine good_by (blk := blk31) (lab := noneK) (fn := Try.f31) wide hL ⟨by kernel_rfl, by kernel_rfl, by kernel_rfl, by kernel_rfl⟩ (lamOk_body (by kernel_rfl) (by kernel_rfl) (fun id ψ h => ?_) (fun l rest ψ _ hl => by cases hl)) fun d hd => ?_
  · have h : blk31 id = some ψ := h
    unfold blk31 at h
    split at h
    · rename_i hb
      have := Nat.eq_of_beq_eq_true hb
      subst this
      cases h; exact outer
    · obtain ⟨rfl, rfl⟩ := one_some h
      exact inner
  · obtain ⟨b, x⟩ : List Int × Unit := d
    obtain ⟨hb, hl⟩ : Sp.bytes b ∧ b.length < 1000000 := hd
    refine Eq.mpr (nf31 L b _) ⟨(b, 4294967295, 0), rfl, ⟨hb, hl, ?_, ?_, ?_, ?_⟩, fun n => ?_⟩
    · show (0 : Int) ≤ 4294967295; omega
    · show (4294967295 : Int) < 4294967296; omega
    · show (0 : Int) ≤ 0; omega
    · show (0 : Int) ≤ b.length; omega
    · have hc := Sp.crc_in (l := b) (s := 4294967295) hb (by omega) (by omega)
      show TV.int .u32 (W.inv .u32 (Sp.crc 4294967295 b)) = TV.int .u32 (4294967295 - Sp.crc 4294967295 b)
      rw [Sp.inv_u32 hc.1 hc.2]
end Go.Proofs.Ytbfeilpjkcmfhaa
