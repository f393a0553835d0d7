/-
  Texts of a proof over the translated program: NqXSum.
-/
import Derived.Test.YtignlmfaoagolaaGreatNqXBase
import Derived.Test.YtignlmfaoagolaaGreatN1Sp5
import Derived.Test.YtignlmfaoagolaaGreatLib7
set_option linter.unusedVariables false
set_option linter.unusedSimpArgs false
set_option linter.unusedSectionVars false
namespace Go.Proofs.YtignlmfaoagolaaGreat
open Go.AbsM
def mk249 (i : Int × Int) : TSt := mkS 14 [(0, TV.int .u32 i.1), (2, TV.int .u32 0), (3, TV.int .i64 i.2)] []
def psi249 (i : Int × Int) (Φ : Post) : Prop := (0 ≤ i.1 ∧ i.1 < 4294967296 ∧ 0 ≤ i.2 ∧ i.2 ≤ 8) ∧ Φ .normal (mk249 (Sp.citer (8 - i.2.toNat) i.1, 8))
def blk249 : Nat → Option Piece := one 0 (loopP 14 [0, 2, 3] [] mk249 psi249)
theorem nf249 (L : List TCtr) (s : Int) (Q : TV → Prop) : wpFn Tryz.prog (knownL L blk249 noneK) Tryz.f249 [.c (.a (.x (.int .u32 s)))] Q = (
  ∃ i, mkS (14 : Nat) [((0 : Nat), TV.int IntKind.u32 s), ((2 : Nat), TV.int IntKind.u32 (0 : Int)), ((3 : Nat), TV.int IntKind.i64 (0 : Int))] [] = mkS (14 : Nat) [((0 : Nat), TV.int IntKind.u32 (Prod.fst i)), ((2 : Nat), TV.int IntKind.u32 (0 : Int)), ((3 : Nat), TV.int IntKind.i64 (Prod.snd i))] [] ∧ ((0 : Int) ≤ Prod.fst i ∧ Prod.fst i < (4294967296 : Int) ∧ (0 : Int) ≤ Prod.snd i ∧ Prod.snd i ≤ (8 : Int)) ∧ Q (TV.int IntKind.u32 (Sp.citer ((8 : Nat) - Int.toNat (Prod.snd i)) (Prod.fst i)))) := by kernel_rfl
theorem nf249s (L : List TCtr) (mk : Int × Int → TSt) (ψ : Int × Int → Post → Prop) (μ : Int × Int → Nat) (s k : Int) (Φ : Post) (m : Nat) : wpT Tryz.prog (knownL L blk249 noneK) (loopOf (blkC (bodyOf Tryz.f249) 0)) (mk249 (s, k)) (stepK 14 [0, 2, 3] [] [0, 2, 3] [] 0 mk μ ψ m Φ) = (
  brc (W.ilt k (8 : Int)) (∃ j, mkS (14 : Nat) [((0 : Nat), TV.int IntKind.u32 (W.xor IntKind.u32 (W.shr IntKind.u32 s (1 : Int)) (W.and IntKind.u32 (3988292384 : Int) (W.neg IntKind.u32 (W.and IntKind.u32 s (1 : Int)))))), ((2 : Nat), TV.int IntKind.u32 (0 : Int)), ((3 : Nat), TV.int IntKind.i64 (W.add IntKind.i64 k (1 : Int)))] [] = mk j ∧ μ j < m ∧ ψ j Φ) (Φ AExit.normal (mkS (14 : Nat) [((0 : Nat), TV.int IntKind.u32 s), ((2 : Nat), TV.int IntKind.u32 (0 : Int)), ((3 : Nat), TV.int IntKind.i64 k)] []))) := by kernel_rfl
def ctr249 : TCtr := .det 249 [.v (.int .u32)] (fun (d : Int × Unit) => 0 ≤ d.1 ∧ d.1 < 4294967296) (fun (d : Int × Unit) => TV.int .u32 (Sp.citer 8 d.1)) fun _ => rfl
def mk193 (i : List Int × Int × Int) : TSt := mkS 21 [(0, TV.l 5 (.int .u8) i.1), (2, TV.int .u32 0), (3, TV.int .u32 i.2.1), (4, TV.int .i64 i.2.2)] []
def psi193 (i : List Int × Int × Int) (Φ : Post) : Prop := (Sp.bytes i.1 ∧ i.1.length < 1000000 ∧ 0 ≤ i.2.1 ∧ i.2.1 < 4294967296 ∧ 0 ≤ i.2.2 ∧ i.2.2 ≤ i.1.length) ∧ Φ .ret (mkS 21 [(2, TV.int .u32 (4294967295 - Sp.crc i.2.1 (i.1.drop i.2.2.toNat)))] [])
def lab193 : Nat → Option Piece := one 0 (loopP 21 [0, 2, 3, 4] [] mk193 psi193)
theorem nf193 (b : List Int) (Q : TV → Prop) : wpFn Tryz.prog (knownL [ctr249] noneK lab193) Tryz.f193 [.c (.sl 5 (.int .u8) (.mk b))] Q = (
  brc (W.ieq (0 : Int) (W.ofNat (W.len b))) (Q (TV.int IntKind.u32 (0 : Int))) (grd (W.nlt (0 : Nat) (W.len b)) (((0 : Int) ≤ W.xor IntKind.u32 (4294967295 : Int) (W.wrap IntKind.u32 (W.nth b (0 : Nat) (0 : Int))) ∧ W.xor IntKind.u32 (4294967295 : Int) (W.wrap IntKind.u32 (W.nth b (0 : Nat) (0 : Int))) < (4294967296 : Int)) ∧ ∃ i, mkS (21 : Nat) [((0 : Nat), TV.l (5 : Nat) (VT.int IntKind.u8) b), ((2 : Nat), TV.int IntKind.u32 (0 : Int)), ((3 : Nat), TV.int IntKind.u32 (Sp.citer (8 : Nat) (W.xor IntKind.u32 (4294967295 : Int) (W.wrap IntKind.u32 (W.nth b (0 : Nat) (0 : Int)))))), ((4 : Nat), TV.int IntKind.i64 (1 : Int))] [] = mkS (21 : Nat) [((0 : Nat), TV.l (5 : Nat) (VT.int IntKind.u8) (asT (List Int) (Prod.fst i))), ((2 : Nat), TV.int IntKind.u32 (0 : Int)), ((3 : Nat), TV.int IntKind.u32 (Prod.fst (Prod.snd i))), ((4 : Nat), TV.int IntKind.i64 (Prod.snd (Prod.snd i)))] [] ∧ (Sp.bytes (Prod.fst i) ∧ List.length (Prod.fst i) < (1000000 : Nat) ∧ (0 : Int) ≤ Prod.fst (Prod.snd i) ∧ Prod.fst (Prod.snd i) < (4294967296 : Int) ∧ (0 : Int) ≤ Prod.snd (Prod.snd i) ∧ Prod.snd (Prod.snd i) ≤ Int.ofNat (List.length (Prod.fst i))) ∧ Q (TV.int IntKind.u32 ((4294967295 : Int) - Sp.crc (Prod.fst (Prod.snd i)) (List.drop (Int.toNat (Prod.snd (Prod.snd i))) (Prod.fst i))))))) := by kernel_rfl
theorem nf193s (mk : List Int × Int × Int → TSt) (ψ : List Int × Int × Int → Post → Prop) (μ : List Int × Int × Int → Nat) (b : List Int) (s i : Int) (Φ : Post) (m : Nat) : wpT Tryz.prog (knownL [ctr249] noneK lab193) (restC (bodyOf Tryz.f193) 0) (mk193 (b, s, i)) (jumpK (knownL [ctr249] noneK lab193) 21 [0, 2, 3, 4] [] [2] [] (scC (bodyOf Tryz.f193)) 0 mk μ ψ m Φ) = (
  brc (W.ieq i (W.ofNat (W.len b))) (Φ AExit.ret (mkS (21 : Nat) [((2 : Nat), TV.int IntKind.u32 (W.inv IntKind.u32 s))] [])) (grd (W.ile (0 : Int) i) (grd (W.nlt (W.toNat i) (W.len b)) (((0 : Int) ≤ W.xor IntKind.u32 s (W.wrap IntKind.u32 (W.nth b (W.toNat i) (0 : Int))) ∧ W.xor IntKind.u32 s (W.wrap IntKind.u32 (W.nth b (W.toNat i) (0 : Int))) < (4294967296 : Int)) ∧ ∃ j, mkS (21 : Nat) [((0 : Nat), TV.l (5 : Nat) (VT.int IntKind.u8) b), ((2 : Nat), TV.int IntKind.u32 (0 : Int)), ((3 : Nat), TV.int IntKind.u32 (Sp.citer (8 : Nat) (W.xor IntKind.u32 s (W.wrap IntKind.u32 (W.nth b (W.toNat i) (0 : Int)))))), ((4 : Nat), TV.int IntKind.i64 (W.add IntKind.i64 i (1 : Int)))] [] = mk j ∧ μ j < m ∧ ψ j Φ)))) := by kernel_rfl
theorem good249 {L : List TCtr} (hL : Goods Tryz.prog L) : GoodC Tryz.prog ctr249 := by
  refine good_loop (fn := Tryz.f249) [0, 2, 3] [] (fun i : Int × Int => (8 - i.2).toNat) wide hL ⟨by kernel_rfl, by kernel_rfl, by kernel_rfl, by kernel_rfl⟩ (by kernel_rfl) (by kernel_rfl) (by kernel_rfl) (by kernel_rfl) (n := 14) (ls := [0, 2, 3]) (ks := []) (mk := mk249) (ψ := psi249) (id := 0) ?_ ?_
  · rintro ⟨s, k⟩ Φ ⟨⟨h0, h1, h2, h3⟩, hΦ⟩
    refine Eq.mpr (nf249s L _ _ _ s k Φ _) ?_
    simp only at h0 h1 h2 h3 hΦ
    refine brc_ilt (fun h => ?_) fun h => ?_
    · rw [Sp.cstep_prog h0 h1, W.add_i64 (by omega) (by omega)]
      have hc := Sp.cstep_in h0 h1
      have e : 8 - k.toNat = (8 - (k + 1).toNat) + 1 := by omega
      rw [e, Sp.citer_succ h0] at hΦ
      refine ⟨(Sp.cstep s, k + 1), rfl, ?_, ⟨hc.1, hc.2, ?_, ?_⟩, hΦ⟩
      · show (8 - (k + 1)).toNat < (8 - k).toNat; omega
      · show 0 ≤ k + 1; omega
      · show k + 1 ≤ 8; omega
    · have hk : k = 8 := by omega
      subst hk
      have e : Sp.citer (8 - (8 : Int).toNat) s = s := by
        show ((s.toNat : Nat) : Int) = s; omega
      rw [e] at hΦ; exact hΦ
  · intro d hd
    obtain ⟨s, x⟩ : Int × Unit := d
    obtain ⟨h0, h1⟩ : 0 ≤ s ∧ s < 4294967296 := hd
    refine Eq.mpr (nf249 L s _) ⟨(s, 0), rfl, ⟨h0, h1, ?_, ?_⟩, rfl⟩
    · show (0 : Int) ≤ 0; omega
    · show (0 : Int) ≤ 8; omega
theorem good23L : Goods Tryz.prog [ctr249] := .cons (good249 .nil) .nil
def preB (d : List Int × Unit) : Prop := Sp.bytes d.1 ∧ d.1.length < 1000000
def ctr193 : TCtr := .det 193 [.l 5 (.int .u8)] preB (fun (d : List Int × Unit) => TV.int .u32 (Sp.sum d.1)) fun _ => rfl
set_option maxRecDepth 100000 in
theorem good193 : GoodC Tryz.prog ctr193 := by
  refine good_jump (fn := Tryz.f193) [2] [] (fun i : List Int × Int × Int => (i.1.length - i.2.2).toNat) wide good23L ⟨by kernel_rfl, by kernel_rfl, by kernel_rfl, by kernel_rfl⟩ (by kernel_rfl) (by kernel_rfl) (by kernel_rfl) (by kernel_rfl) (n := 21) (ls := [0, 2, 3, 4]) (ks := []) (mk := mk193) (ψ := psi193) (l := 0) ?_ ?_
  · rintro ⟨b, s, i⟩ Φ ⟨⟨hb, hl, h0, h1, h2, h3⟩, hΦ⟩
    refine Eq.mpr (nf193s _ _ _ b s i Φ _) ?_
    simp only at hb hl h0 h1 h2 h3 hΦ
    have e1 : W.ofNat (W.len b) = (b.length : Int) := rfl
    have e2 : W.toNat i = i.toNat := rfl
    have e3 : W.nth b i.toNat 0 = b.getD i.toNat 0 := rfl
    rw [e1, e2, e3]
    refine brc_ieq (fun h => ?_) fun h => ?_
    · rw [Sp.inv_u32 h0 h1]
      have : b.drop i.toNat = [] := List.drop_eq_nil_of_le (by omega)
      rw [this] at hΦ
      have e : Sp.crc s [] = s := by show ((s.toNat : Nat) : Int) = s; omega
      rw [e] at hΦ; exact hΦ
    · obtain ⟨x0, x1⟩ := Sp.bytes_get hb i.toNat
      have hx := Sp.xor_in h0 h1 x0 x1
      have hc := Sp.citer_in (n := 8) hx.1 hx.2
      rw [W.add_i64 (by omega) (by omega)]
      rw [Sp.crc_drop hb h0 h1 (by omega)] at hΦ
      refine grd_ile h2 (grd_nlt (by simp only [W.len]; omega) ⟨hx, (b, _, i + 1), rfl, ?_, ⟨hb, hl, hc.1, hc.2, ?_, ?_⟩, ?_⟩)
      · show ((b.length : Int) - (i + 1)).toNat < ((b.length : Int) - i).toNat; omega
      · show 0 ≤ i + 1; omega
      · show i + 1 ≤ b.length; omega
      · have e : (i + 1).toNat = i.toNat + 1 := by omega
        show Φ .ret (mkS 21 [(2, TV.int .u32 (4294967295 - Sp.crc _ (b.drop (i + 1).toNat)))] [])
        rw [e]; exact hΦ
  · intro d hd
    obtain ⟨b, x⟩ : List Int × Unit := d
    obtain ⟨hb, hl⟩ : Sp.bytes b ∧ b.length < 1000000 := hd
    refine Eq.mpr (nf193 b _) ?_
    have e1 : W.ofNat (W.len b) = (b.length : Int) := rfl
    have e3 : W.nth b 0 0 = b.getD 0 0 := rfl
    rw [e1, e3]
    refine brc_ieq (fun h => ?_) fun h => ?_
    · have : b = [] := List.length_eq_zero_iff.1 (by omega)
      subst this; rfl
    · obtain ⟨x0, x1⟩ := Sp.bytes_get hb 0
      have hx := Sp.xor_in (s := 4294967295) (by omega) (by omega) x0 x1
      have hc := Sp.citer_in (n := 8) hx.1 hx.2
      refine grd_nlt (by simp only [W.len]; omega) ⟨hx, (b, _, 1), rfl, ⟨hb, hl, hc.1, hc.2, ?_, ?_⟩, ?_⟩
      · show (0 : Int) ≤ 1; omega
      · show (1 : Int) ≤ b.length; omega
      · have := Sp.crc_drop (i := 0) (s := 4294967295) hb (by omega) (by omega) (by omega)
        rw [List.drop_zero] at this
        show _ = TV.int .u32 (4294967295 - Sp.crc 4294967295 b)
        rw [this]; rfl
end Go.Proofs.YtignlmfaoagolaaGreat
