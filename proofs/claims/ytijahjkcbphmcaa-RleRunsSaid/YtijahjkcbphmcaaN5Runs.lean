/-
  Texts of a proof over the translated program: N5Runs.
-/
import Derived.Test.YtijahjkcbphmcaaN5RunsNf
set_option linter.unusedVariables false
namespace Go.Proofs.Ytijahjkcbphmcaa
open Go.AbsM
abbrev Rn := Int × Int × Unit
theorem last_nat (zs : List Rn) (p : Rn) (h : zs.length < 10000000) : W.toNat (W.sub .i64 (W.ofNat (W.len (zs ++ [p]))) 1) = zs.length := by
  have e : W.ofNat (W.len (zs ++ [p])) = (zs.length : Int) + 1 := by
    show ((zs ++ [p]).length : Int) = _; rw [List.length_append]; rfl
  rw [e, Sp.sub_i64' (by omega) (by omega)]
  show Int.toNat _ = _; omega
theorem last_ge (zs : List Rn) (p : Rn) (h : zs.length < 10000000) : W.ile 0 (W.sub .i64 (W.ofNat (W.len (zs ++ [p]))) 1) = true := by
  have e : W.ofNat (W.len (zs ++ [p])) = (zs.length : Int) + 1 := by
    show ((zs ++ [p]).length : Int) = _; rw [List.length_append]; rfl
  rw [e, Sp.sub_i64' (by omega) (by omega)]
  exact decide_eq_true (by omega)
theorem last_lt (zs : List Rn) (p : Rn) : W.nlt zs.length (W.len (zs ++ [p])) = true := decide_eq_true (by
  show zs.length < (zs ++ [p]).length
  rw [List.length_append]; exact Nat.lt_succ_self _)
def ctr45 : TCtr := .det 45 [.l 39 (.int .u64)] (fun (d : List Int × Unit) => d.1.length < 1000000 ∧ d.1.length ≠ 0) (fun (d : List Int × Unit) => .o (.own 71 (.pair (.int .u64) (.pair (.int .u64) .unit)) (Sp.runs d.1))) fun _ => rfl
def ctr45n : TCtr := .det 45 [.l 39 (.int .u64)] (fun (d : List Int × Unit) => d.1.length = 0) (fun (d : List Int × Unit) => .a .nils) fun _ => rfl
def mu45 (i : List Int × Int × List Rn × Int × Int) : Nat := i.1.length - i.2.1.toNat
theorem step45 : ∀ i Φ, psi45 i Φ → wpT Try.prog (knownL [] noneK lab45) (restC (bodyOf Try.f45) 0) (mk45r i) (jumpK (knownL [] noneK lab45) 44 [0, 3, 4] [31] [2] [31] (scC (bodyOf Try.f45)) 0 mk45r mu45 psi45 (mu45 i) Φ) := by
  rintro ⟨l, i, ys, c, x⟩ Φ ⟨⟨hl, h1, h2, hp, hc1, hc2, hy⟩, hΦ⟩
  simp only at hl h1 h2 hp hc1 hc2 hy hΦ
  obtain ⟨n, rfl⟩ : ∃ n : Nat, i = n := ⟨i.toNat, by omega⟩
  have e4 : ((n : Int)).toNat = n := rfl
  rw [e4] at hy hΦ
  have hp : l.getD (n - 1) 0 = x := hp
  refine Eq.mpr (nf45s _ _ _ _ l n (ys ++ [(c, x, ())]) Φ _) ?_
  have e1 : W.ofNat (W.len l) = (l.length : Int) := rfl
  have e2 : W.toNat (n : Int) = n := rfl
  have e3 : W.nth l n 0 = l.getD n 0 := rfl
  have e5 : W.sub .i64 (n : Int) 1 = (n : Int) - 1 := Sp.sub_i64' (by omega) (by omega)
  have e6 : W.toNat ((n : Int) - 1) = n - 1 := by show Int.toNat _ = _; omega
  have e7 : W.nth l (n - 1) 0 = x := hp
  have hya : ys.length < 10000000 := by omega
  have hyb : (ys ++ [(c, x, ())]).length < 10000000 := by rw [List.length_append]; simp only [List.length_cons, List.length_nil]; omega
  have ea : W.app (ys ++ [(c, x, ())]) [(0, l.getD n 0, PUnit.unit)] = (ys ++ [(c, x, ())]) ++ [((0 : Int), l.getD n 0, ())] := rfl
  simp only [e1, e2, e3, e5, e6, e7, ea, last_nat _ _ hya, last_nat _ _ hyb, Sp.nth_last, Sp.set_last]
  refine brc_ieq (fun h => ?_) fun h => brc_ieq (fun h0 => by omega) fun h0 => ?_
  · have : l.drop n = [] := List.drop_eq_nil_of_le (by omega)
    rw [this] at hΦ
    exact hΦ
  · have hlt : n < l.length := by omega
    have g1 : W.ile 0 (n : Int) = true := decide_eq_true (by omega)
    have g2 : W.nlt n (W.len l) = true := decide_eq_true hlt
    rw [Sp.runsG_drop c x hlt] at hΦ
    have e8 : ((n : Int) + 1).toNat = n + 1 := by omega
    have e9 : W.add .i64 (n : Int) 1 = (n : Int) + 1 := W.add_i64 (by omega) (by omega)
    refine grd_true g1 (grd_true g2 (grd_ile (by omega) (grd_nlt (by simp only [W.len]; omega) ?_)))
    refine brc_ine (fun hne => ?_) fun heq => ?_
    · rw [if_neg hne] at hΦ
      have q1 := last_ge (ys ++ [(c, x, ())]) (0, l.getD n 0, ()) hyb
      have q2 := last_lt (ys ++ [(c, x, ())]) (0, l.getD n 0, ())
      refine grd_true g1 (grd_true g2 (grd_nle (by simp only [W.nmul, W.nadd, W.len, List.length_cons, List.length_nil]; omega) (grd_true q1 (grd_true q2 (grd_true q2 (grd_true q1 (grd_true q2 (grd_true q2 ⟨(l, (n : Int) + 1, ys ++ [(c, x, ())], 1, l.getD n 0), ?_, ?_, ⟨hl, ?_, ?_, ?_, ?_, ?_, ?_⟩, ?_⟩))))))))
      · rw [e9]; rfl
      · show l.length - ((n : Int) + 1).toNat < l.length - n; omega
      · show 1 ≤ (n : Int) + 1; omega
      · show (n : Int) + 1 ≤ l.length; omega
      · show l.getD (((n : Int) + 1).toNat - 1) 0 = l.getD n 0; rw [e8]; rfl
      · show (1 : Int) ≤ 1; omega
      · show (1 : Int) ≤ (n : Int) + 1; omega
      · show (ys ++ [(c, x, ())]).length ≤ ((n : Int) + 1).toNat
        rw [List.length_append]; simp only [List.length_cons, List.length_nil]; omega
      · show Φ .ret (mkS 44 [(2, TV.h 31)] [(31, .arr false 71 (.pair (.int .u64) (.pair (.int .u64) .unit)) ((ys ++ [(c, x, ())]) ++ Sp.runsG 1 (l.getD n 0) (l.drop ((n : Int) + 1).toNat)))])
        rw [e8]
        exact Eq.mpr (congrArg (fun y : List Rn => Φ .ret (mkS 44 [(2, TV.h 31)] [(31, .arr false 71 (.pair (.int .u64) (.pair (.int .u64) .unit)) y)])) (List.append_assoc ys [(c, x, ())] _)) hΦ
    · rw [if_pos heq] at hΦ
      have q1 := last_ge ys (c, x, ()) hya
      have q2 := last_lt ys (c, x, ())
      have e10 : W.add .u64 c 1 = c + 1 := add_u64 (by omega) (by omega)
      refine grd_true q1 (grd_true q2 (grd_true q2 (grd_true q1 (grd_true q2 (grd_true q2 ⟨(l, (n : Int) + 1, ys, c + 1, x), ?_, ?_, ⟨hl, ?_, ?_, ?_, ?_, ?_, ?_⟩, ?_⟩)))))
      · rw [e9, e10]; rfl
      · show l.length - ((n : Int) + 1).toNat < l.length - n; omega
      · show 1 ≤ (n : Int) + 1; omega
      · show (n : Int) + 1 ≤ l.length; omega
      · show l.getD (((n : Int) + 1).toNat - 1) 0 = x; rw [e8]; exact heq
      · show 1 ≤ c + 1; omega
      · show c + 1 ≤ (n : Int) + 1; omega
      · show ys.length ≤ ((n : Int) + 1).toNat; omega
      · show Φ .ret (mkS 44 [(2, TV.h 31)] [(31, .arr false 71 (.pair (.int .u64) (.pair (.int .u64) .unit)) (ys ++ Sp.runsG (c + 1) x (l.drop ((n : Int) + 1).toNat)))])
        rw [e8]; exact hΦ
theorem good45 : GoodC Try.prog ctr45 := by
  refine good_jump (fn := Try.f45) [2] [31] mu45 wide .nil ⟨by kernel_rfl, by kernel_rfl, by kernel_rfl, by kernel_rfl⟩ (by kernel_rfl) (by kernel_rfl) (by kernel_rfl) (by kernel_rfl) (n := 44) (ls := [0, 3, 4]) (ks := [31]) (mk := mk45r) (ψ := psi45) (l := 0) step45 fun d hd => ?_
  obtain ⟨l, x⟩ : List Int × Unit := d
  obtain ⟨hl, hne⟩ : l.length < 1000000 ∧ l.length ≠ 0 := hd
  refine Eq.mpr (nf45 l _) ?_
  have e1 : W.ofNat (W.len l) = (l.length : Int) := rfl
  have e3 : W.nth l 0 0 = l.getD 0 0 := rfl
  rw [e1, e3]
  refine brc_ieq (fun h => by omega) fun h => grd_nlt (by simp only [W.len]; omega) ⟨(l, 1, [], 1, l.getD 0 0), rfl, ⟨hl, ?_, ?_, rfl, ?_, ?_, ?_⟩, ?_⟩
  · show (1 : Int) ≤ 1; omega
  · show (1 : Int) ≤ l.length; omega
  · show (1 : Int) ≤ 1; omega
  · show (1 : Int) ≤ 1; omega
  · exact Nat.zero_le _
  · show TV.o (.own 71 (.pair (.int .u64) (.pair (.int .u64) .unit)) ([] ++ Sp.runsG 1 (l.getD 0 0) (l.drop 1))) = TV.o (.own 71 (.pair (.int .u64) (.pair (.int .u64) .unit)) (Sp.runs l))
    rw [Sp.runs_pos (by omega)]; rfl
theorem good45n : GoodC Try.prog ctr45n := by
  refine good_jump (fn := Try.f45) [2] [31] mu45 wide .nil ⟨by kernel_rfl, by kernel_rfl, by kernel_rfl, by kernel_rfl⟩ (by kernel_rfl) (by kernel_rfl) (by kernel_rfl) (by kernel_rfl) (n := 44) (ls := [0, 3, 4]) (ks := [31]) (mk := mk45r) (ψ := psi45) (l := 0) step45 fun d hd => ?_
  obtain ⟨l, x⟩ : List Int × Unit := d
  have hl : l.length = 0 := hd
  refine Eq.mpr (nf45 l _) ?_
  have e1 : W.ofNat (W.len l) = (l.length : Int) := rfl
  rw [e1]
  exact brc_ieq (fun h => rfl) fun h => absurd (by omega) h
end Go.Proofs.Ytijahjkcbphmcaa
