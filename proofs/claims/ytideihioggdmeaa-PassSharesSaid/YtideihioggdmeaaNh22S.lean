/-
  Texts of a proof over the translated program: Nh22S.
-/
import Derived.Test.YtideihioggdmeaaNh22SNf
import Derived.Test.YtideihioggdmeaaNh22E
set_option linter.unusedVariables false
namespace Sp
open Go Go.AbsM
theorem pmax_pos {n : Int} (h : 0 ≤ n) : pmax n = n := if_pos h
theorem imax_p (n : Int) : W.imax n 0 = pmax n := by
  unfold W.imax pmax
  by_cases h : 0 ≤ n
  · rw [if_pos h]; split <;> omega
  · rw [if_neg h, if_pos (by omega)]
theorem pfrom_yes {s : Bool} {l n : Int} (hs : s = true) (h0 : 0 ≤ l) (h : l < n) : pfrom s l n = l := if_pos ⟨hs, h0, h⟩
theorem pfrom_no {s : Bool} {l n : Int} (h : ¬ (s = true ∧ 0 ≤ l ∧ l < n)) : pfrom s l n = 0 := if_neg h
theorem plast_pos {g l : Int} (h : 0 ≤ g) : plast g l = g := if_pos h
theorem plast_neg {g l : Int} (h : ¬ 0 ≤ g) : plast g l = l := if_neg h
theorem byts_nth {l : List Int} (h : byts l) {i : Nat} (hi : i < l.length) : 0 ≤ W.nth l i (0 : Int) ∧ W.nth l i (0 : Int) < 256 := by
  unfold W.nth
  rw [List.getD_eq_getElem?_getD, List.getElem?_eq_getElem hi]; exact h _ (List.getElem_mem hi)
end Sp
namespace Go.Proofs.Ytideihioggdmeaa
open Go.AbsM
theorem good14 : GoodC Try.prog ctr14 := by
  refine good_plain (fn := Try.f14) wide .nil ⟨by kernel_rfl, by kernel_rfl, by kernel_rfl, by kernel_rfl⟩ (by kernel_rfl) ?_
  intro d _
  obtain ⟨s, x⟩ : Bool × Unit := d
  exact Eq.mpr (nf14 s _) rfl
set_option maxHeartbeats 1000000 in
theorem good15 : GoodL Try.prog lctr15 := by
  refine goodL_plain (c := lctr15) (fn := Try.f15) wide .nil .nil ⟨by kernel_rfl, by kernel_rfl, by kernel_rfl, by kernel_rfl⟩ (by kernel_rfl) (fun d _ => Blk.un ?_)
  obtain ⟨⟨s, l, x⟩, n, y⟩ : DOb × Int × Unit := d
  refine Blk.nf (nf15 s l n _) ?_
  have fin : ∀ q : Int, q = Sp.pfrom s l n → (((s, l, PUnit.unit), PUnit.unit) : DOb × Unit) = lctr15.eff (((s, l, x), n, y) : DOb × Int × Unit) ∧ TV.o (T1.agg [TC.a (AV.x (Value.int IntKind.i64 q)), TC.a (AV.x (Value.int IntKind.i64 (W.imax n 0))), TC.a (AV.x (Value.int IntKind.i64 0))]) = lctr15.out (((s, l, x), n, y) : DOb × Int × Unit) := by
    intro q hq
    subst hq
    rw [Sp.imax_p]
    exact ⟨rfl, rfl⟩
  cases s with
  | false => exact brc_no rfl (fin 0 (Sp.pfrom_no (by simp)).symm)
  | true =>
    refine brc_yes rfl ?_
    refine brc_ige (fun h => brc_ilt (fun h2 => fin l (Sp.pfrom_yes rfl h h2).symm) fun h2 => fin 0 (Sp.pfrom_no (by omega)).symm) fun h => fin 0 (Sp.pfrom_no (by omega)).symm
theorem good16 : GoodL Try.prog lctr16 := by
  refine goodL_plain (c := lctr16) (fn := Try.f16) wide .nil .nil ⟨by kernel_rfl, by kernel_rfl, by kernel_rfl, by kernel_rfl⟩ (by kernel_rfl) (fun d _ => Blk.un ?_)
  obtain ⟨⟨s, l, x⟩, n, y⟩ : DOb × Int × Unit := d
  refine Blk.nf (nf16 s l n _) ?_
  have fin : ∀ q : Int, q = Sp.plast n l → (((s, q, PUnit.unit), PUnit.unit) : DOb × Unit) = lctr16.eff (((s, l, x), n, y) : DOb × Int × Unit) ∧ TV.tup [] = lctr16.out (((s, l, x), n, y) : DOb × Int × Unit) := by
    intro q hq
    subst hq
    exact ⟨rfl, rfl⟩
  exact brc_ige (fun h => fin n (Sp.plast_pos h).symm) fun h => fin l (Sp.plast_neg (by omega)).symm
def pre4 (d : List Int × List Int × Unit) : Prop := Sp.byts d.1 ∧ Sp.byts d.2.1
def law4 : TCtr := lawC 4 [.l 5 (.int .u8), .l 5 (.int .u8)] (fun (d : List Int × List Int × Unit) => pre4 d)
theorem goodS : Goods Try.prog [trueC 6, ctr14] := .cons good6 (.cons good14 .nil)
theorem goodSD : GoodDs Try.prog [lctr15, lctr16] := .cons good15 (.cons good16 .nil)
theorem good4 : GoodC Try.prog law4 := by
  refine good_loopD (fn := Try.f4) [] [] (fun i : I4 => i.1.length - i.2.2.2.toNat) wide goodS goodSD ⟨by kernel_rfl, by kernel_rfl, by kernel_rfl, by kernel_rfl⟩ (by kernel_rfl) (by kernel_rfl) (by kernel_rfl) (by kernel_rfl) (n := 100) (ls := [0, 1, 5, 6, 7, 8]) (ks := [25, 26]) (mk := mk4) (ψ := psi4) (id := 0) ?_ ?_
  · rintro ⟨a, b, l, i⟩ Φ ⟨⟨⟨ha, hb⟩, ⟨h40, hab⟩, ⟨l0, l1⟩, i0, i1⟩, hΦ⟩
    simp only at ha hb h40 hab l0 l1 i0 i1 hΦ
    refine Eq.mpr (nf4s _ _ _ _ a b l i Φ _) ?_
    refine brc_ilt (fun h => ?_) fun h => hΦ
    have h : i < (a.length : Int) := h
    have ea : i.toNat < a.length := by omega
    have eb : i.toNat < b.length := by omega
    obtain ⟨p0, p1⟩ := Sp.byts_nth ha ea
    obtain ⟨q0, q1⟩ := Sp.byts_nth hb eb
    have e1 : W.wrap .i64 (W.rem (W.nth b (W.toNat i) 0) 30) = W.nth b i.toNat 0 % 30 := by
      show W.wrap .i64 (W.rem (W.nth b i.toNat 0) 30) = _
      rw [W.rem_pos q0, W.wi64_in (by omega) (by omega)]
    have e2 : W.wrap .i64 (W.rem (W.nth a (W.toNat i) 0) 20) = W.nth a i.toNat 0 % 20 := by
      show W.wrap .i64 (W.rem (W.nth a i.toNat 0) 20) = _
      rw [W.rem_pos p0, W.wi64_in (by omega) (by omega)]
    rw [e1, e2, W.add_i64 (a := i) (b := 1) (by omega) (by omega)]
    clear e1 e2
    generalize W.nth b i.toNat 0 = u at q0 q1 ⊢
    generalize W.nth a i.toNat 0 = v at p0 p1 ⊢
    have hk : 0 ≤ u % 30 ∧ u % 30 < 30 := by omega
    have hg : 0 ≤ v % 20 ∧ v % 20 < 20 := by omega
    generalize u % 30 = k at hk ⊢
    generalize v % 20 = g at hg ⊢
    have hp : Sp.plast g l = g := Sp.plast_pos hg.1
    have hm : Sp.pmax k = k := Sp.pmax_pos hk.1
    rw [hp, hm]
    have fin : ∀ {m : Nat}, m = a.length - i.toNat → ∃ j, mkS 100 [(0, TV.l 5 (VT.int .u8) a), (1, TV.l 5 (VT.int .u8) b), (5, TV.o (T1.c (TC.a (AV.ref 0 25 0)))), (6, TV.o (T1.c (TC.a (AV.ref 0 26 0)))), (7, TV.int .i64 g), (8, TV.int .i64 (i + 1))] [(25, TOb.box [TC.a (AV.x (Value.bool true)), TC.a (AV.x (Value.int .i64 g))]), (26, TOb.box [TC.a (AV.x (Value.bool false)), TC.a (AV.x (Value.int .i64 g))])] = mk4 j ∧ j.1.length - j.2.2.2.toNat < m ∧ psi4 j Φ := by
      intro m hmm
      subst hmm
      refine ⟨(a, b, g, i + 1), rfl, ?_, ⟨⟨ha, hb⟩, ⟨h40, hab⟩, ⟨?_, ?_⟩, ?_, ?_⟩, hΦ⟩
      · show a.length - (i + 1).toNat < a.length - i.toNat; omega
      · show -1 ≤ g; omega
      · exact hg.2
      · show 0 ≤ i + 1; omega
      · show i + 1 ≤ (a.length : Int); omega
    refine grd_ile i0 (grd_nlt eb ⟨trivial, trivial, ?_⟩)
    have rest : ∀ {A B C : Prop}, brc (W.ine k k) A (brc (W.ine k k) B (grd (W.ile 0 i) (grd (W.nlt (W.toNat i) (W.len a)) (True ∧ True ∧ C)))) ↔ C := by
      intro A B C
      have e : W.ine k k = false := by simp [W.ine]
      exact ⟨fun h => (grd_iff.1 (grd_iff.1 ((brc_iff.1 ((brc_iff.1 h).2 e)).2 e)).2).2.2.2, fun h => brc_no e <| brc_no e <| grd_ile i0 (grd_nlt ea ⟨trivial, trivial, h⟩)⟩
    refine brc_ige (fun hl => brc_ilt (fun hlk => ?_) fun hlk => ?_) fun hl => ?_
    · rw [Sp.pfrom_yes rfl hl hlk]
      exact brc_ine (fun h => absurd rfl h) fun _ => rest.2 (fin rfl)
    · rw [Sp.pfrom_no (by omega)]
      exact brc_ine (fun h => absurd rfl h) fun _ => rest.2 (fin rfl)
    · rw [Sp.pfrom_no (by omega)]
      exact brc_ine (fun h => absurd rfl h) fun _ => rest.2 (fin rfl)
  · intro d hd
    obtain ⟨a, b, x⟩ : List Int × List Int × Unit := d
    obtain ⟨ha, hb⟩ : Sp.byts a ∧ Sp.byts b := hd
    refine Eq.mpr (nf4 a b _) ⟨trivial, brc_igt (fun h => rfl) fun h => brc_ilt (fun h => rfl) fun h2 => ⟨trivial, trivial, (a, b, -1, 0), rfl, ⟨⟨ha, hb⟩, ⟨?_, ?_⟩, ⟨?_, ?_⟩, ?_, ?_⟩, rfl⟩⟩
    · show a.length ≤ 40
      have h : (a.length : Int) ≤ 40 := h
      omega
    · show a.length ≤ b.length
      have h2 : (a.length : Int) ≤ (b.length : Int) := h2
      omega
    · show (-1 : Int) ≤ -1; omega
    · show (-1 : Int) < 20; omega
    · show (0 : Int) ≤ 0; omega
    · show (0 : Int) ≤ (a.length : Int); omega
end Go.Proofs.Ytideihioggdmeaa
