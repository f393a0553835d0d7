/-
  Texts of a proof over the translated program: proved evaluators and walks, part 11 of 13.
-/
import Derived.Test.YtlgabpcjhhihdaaDoorPartR10
import Derived.Below
import Derived.Deep.Cut
import Derived.Deep.RegionHeld3
import Derived.Deep.RegionWith
import Derived.Handy
import Derived.IntWalk
import Derived.Laws.Cells
import Derived.Laws.Concat
import Derived.Laws.CopyRow
import Derived.Laws.Cover2
import Derived.Laws.Externs
import Derived.Laws.FloatArith
import Derived.Laws.Strings
import Derived.Laws.Strings2
import Derived.Laws.Strings3
import Derived.Laws.StructEq
import Derived.Lib.AppendIntMem
import Derived.Lib.Builder
import Derived.Lib.Hide
import Derived.Lib.ItoaLen
import Derived.LoopTactic
import Derived.Outline
import Derived.OwnWalk
import Derived.ProofKit
import Derived.Scope
import Derived.ScopeJumps
import Derived.Shelf.LaysC
import Derived.Shelf.LaysM
import Derived.Shelf.Small.Strs
import Derived.Shelf.Small.Wraps
import Derived.Shelf.Strconv.Clone
import Derived.Shelf.Strconv.ErrVarParseInt
import Derived.Shelf.Strconv.Itoa0
import Derived.Shelf.Strconv.Itoa1
import Derived.Shelf.Strconv.Itoa2
import Derived.Shelf.Strconv.Itoa3
import Derived.Shelf.Strconv.Itoa4
import Derived.Shelf.Strconv.Lower
import Derived.Shelf.Strconv.ParseInt10
import Derived.Shelf.Strconv.ParseInt10All
import Derived.Shelf.Strconv.ParseInt10At16
import Derived.Shelf.Strconv.ParseInt10At32
import Derived.Shelf.Strconv.ParseInt10At64
import Derived.Shelf.Strconv.ParseInt10At8
import Derived.Shelf.Strconv.ParseIntEmpty
import Derived.Shelf.Strconv.ParseIntPublic10
import Derived.Shelf.Strconv.ParseUint10
import Derived.Shelf.Strconv.ParseUint10Any
import Derived.Shelf.Strconv.ParseUint10At
import Derived.Shelf.Strconv.ParseUint10Empty
import Derived.Shelf.Strconv.ParseUint10b16
import Derived.Shelf.Strconv.ParseUint10b32
import Derived.Shelf.Strconv.ParseUint10b64
import Derived.Shelf.Strconv.ParseUint10b8
import Derived.Shelf.Strconv.ParseUintEmpty
import Derived.Shelf.Strconv.RangeError
import Derived.Shelf.Strconv.SyntaxError
import Derived.Shelf.Strconv.ToError
import Derived.Shelf.Strconv.ToErrorRange
import Derived.Shelf.Strings.Builder1
import Derived.Shelf.Strings.BuilderF
import Derived.Shelf.Strings.BuilderK
import Derived.Shelf.Strings.Prefix
import Derived.Shelf.Strings.Search1
import Derived.Test.YtlgabpcjhhihdaaDoorProg
import Derived.WalkKit
import Derived.WalkMore
import Derived.WalkSpells
set_option linter.unusedVariables false
set_option linter.unusedSimpArgs false
set_option linter.unusedSectionVars false
set_option linter.unnecessarySimpa false
section
namespace Go.Proofs.YtlgabpcjhhihdaaDoor
open Ieee
theorem write_small (s : Bool) (m L : Nat) (hm : m ≠ 0) (hL : m.log2 = L) (h : L ≤ 20) :
    double.write (.number s m 0) = double.word s ((L + 1022) * 2 ^ 52 + m * 2 ^ (52 - L)) := by
  have h1 : m < 2 ^ (L + 1) := by rw [← hL]; exact Nat.lt_log2_self
  have h2 : m * 2 ^ (52 - L) < 2 ^ 53 := by
    have : m * 2 ^ (52 - L) < 2 ^ (L + 1) * 2 ^ (52 - L) := Nat.mul_lt_mul_of_pos_right h1 (Nat.pow_pos (by omega))
    rw [← Nat.pow_add, show L + 1 + (52 - L) = 53 from by omega] at this
    exact this
  show double.nearest s m 0 = _
  unfold Format.nearest
  rw [if_neg hm, hL]
  have hlp : double.leastPlace = -1074 := by decide
  have hfb : (double.fractionBits : Int) = 52 := rfl
  have hlast : max ((0 : Int) + (L : Int) - (double.fractionBits : Int)) double.leastPlace = (L : Int) - 52 := by
    rw [hlp, hfb]; omega
  dsimp only
  rw [hlast, hlp]
  have e1 : ((0 : Int) - ((L : Int) - 52)).toNat = 52 - L := by omega
  have e2 : (((L : Int) - 52) - (0 : Int)).toNat = 0 := by omega
  have e3 : (((L : Int) - 52) - (-1074)).toNat = L + 1022 := by omega
  rw [e1, e2, e3]
  have hcut : Toward.even.cut s (m <<< (52 - L)) 0 = m * 2 ^ (52 - L) := by
    unfold Toward.cut
    simp [Nat.mod_one, Nat.shiftLeft_eq]
  have hb : double.binade = 2 ^ 52 := rfl
  have hi : double.infRung = 2047 * 2 ^ 52 := by decide
  rw [hcut, hb, hi]
  generalize m * 2 ^ (52 - L) = X at h2 ⊢
  rw [Nat.min_eq_left (by omega)]
theorem read_small (s : Bool) (m L : Nat) (hm : m ≠ 0) (hL : m.log2 = L) (h : L ≤ 20) :
    double.read (double.word s ((L + 1022) * 2 ^ 52 + m * 2 ^ (52 - L))) = .number s (m * 2 ^ (52 - L)) ((L : Int) - 52) := by
  have h1 : m < 2 ^ (L + 1) := by rw [← hL]; exact Nat.lt_log2_self
  have h0 : 2 ^ L ≤ m := by rw [← hL]; exact Nat.log2_self_le hm
  have h2 : m * 2 ^ (52 - L) < 2 ^ 53 := by
    have : m * 2 ^ (52 - L) < 2 ^ (L + 1) * 2 ^ (52 - L) := Nat.mul_lt_mul_of_pos_right h1 (Nat.pow_pos (by omega))
    rw [← Nat.pow_add, show L + 1 + (52 - L) = 53 from by omega] at this
    exact this
  have h3 : 2 ^ 52 ≤ m * 2 ^ (52 - L) := by
    have : 2 ^ L * 2 ^ (52 - L) ≤ m * 2 ^ (52 - L) := Nat.mul_le_mul_right _ h0
    rw [← Nat.pow_add, show L + (52 - L) = 52 from by omega] at this
    exact this
  generalize m * 2 ^ (52 - L) = X at h2 h3 ⊢
  have hb : double.binade = 2 ^ 52 := rfl
  have hi : double.infRung = 2047 * 2 ^ 52 := by decide
  have hs : double.signWeight = 2 ^ 63 := rfl
  have hlp : double.leastPlace = -1074 := by decide
  unfold Format.read
  rw [hb, hi, hs, hlp]
  have hw1 : (double.word s ((L + 1022) * 2 ^ 52 + X) / 2 ^ 63 % 2 == 1) = s := by
    unfold Format.word
    rw [hs]
    cases s
    · simp only [Bool.false_eq_true, if_false]
      rw [show ((L + 1022) * 2 ^ 52 + X) / 2 ^ 63 = 0 from by omega]; rfl
    · simp only [if_true]
      rw [show (2 ^ 63 + ((L + 1022) * 2 ^ 52 + X)) / 2 ^ 63 = 1 from by omega]; rfl
  have hw2 : double.word s ((L + 1022) * 2 ^ 52 + X) % 2 ^ 63 = (L + 1022) * 2 ^ 52 + X := by
    unfold Format.word
    rw [hs]
    cases s
    · simp only [Bool.false_eq_true, if_false]; omega
    · simp only [if_true]; omega
  rw [hw1, hw2]
  dsimp only
  rw [if_neg (by omega), if_pos (by omega)]
  congr 1
  · omega
  · omega
theorem Fl_decode {n : Int} (h : inP n) : ∃ s m i, FloatKind.f64.decode (Fl n) = .number s m i ∧ i ≤ 0 ∧ (∀ b : Int, b ≤ i → signed s m (i - b).toNat = n * ((2 ^ (-b).toNat : Nat) : Int)) ∧ Toward.zero.cut s (m <<< i.toNat) (-i).toNat = n.natAbs ∧ (n ≠ 0 → s = decide (n < 0)) := by
  unfold inP at h
  by_cases hn : n = 0
  · subst hn
    refine ⟨false, 0, -1074, by decide +kernel, by omega, fun b hb => by simp [signed], ?_, fun h => absurd rfl h⟩
    unfold Toward.cut
    simp
  · obtain ⟨L, hL⟩ : ∃ L, n.natAbs.log2 = L := ⟨_, rfl⟩
    have hm : n.natAbs ≠ 0 := by omega
    have hL20 : L ≤ 20 := by
      rw [← hL]
      have : n.natAbs.log2 < 21 := (Nat.log2_lt hm).2 (by omega)
      omega
    have h0 : 2 ^ L ≤ n.natAbs := by rw [← hL]; exact Nat.log2_self_le hm
    have h3 : 2 ^ 52 ≤ n.natAbs * 2 ^ (52 - L) := by
      have : 2 ^ L * 2 ^ (52 - L) ≤ n.natAbs * 2 ^ (52 - L) := Nat.mul_le_mul_right _ h0
      rw [← Nat.pow_add, show L + (52 - L) = 52 from by omega] at this
      exact this
    have hr : FloatKind.f64.decode (Fl n) = .number (decide (n < 0)) (n.natAbs * 2 ^ (52 - L)) ((L : Int) - 52) := by
      show double.read (double.write (.number (decide (n < 0)) n.natAbs 0)) = _
      rw [write_small _ _ L hm hL hL20, read_small _ _ L hm hL hL20]
    refine ⟨_, _, _, hr, by omega, fun b hb => ?_, ?_, fun _ => rfl⟩
    · have he : (n.natAbs * 2 ^ (52 - L)) <<< ((L : Int) - 52 - b).toNat = n.natAbs * 2 ^ (-b).toNat := by
        rw [Nat.shiftLeft_eq, Nat.mul_assoc, ← Nat.pow_add, show 52 - L + ((L : Int) - 52 - b).toNat = (-b).toNat from by omega]
      unfold signed
      rw [he]
      by_cases hneg : n < 0
      · rw [if_pos (by simp [hneg]), Int.natCast_mul]
        rw [show ((n.natAbs : Nat) : Int) = -n from by omega, Int.neg_mul, Int.neg_neg]
      · rw [if_neg (by simp [hneg]), Int.natCast_mul]
        rw [show ((n.natAbs : Nat) : Int) = n from by omega]
    · rw [show ((L : Int) - 52).toNat = 0 from by omega, show (-((L : Int) - 52)).toNat = 52 - L from by omega]
      unfold Toward.cut
      have hlog : 52 ≤ (n.natAbs * 2 ^ (52 - L)).log2 := (Nat.le_log2 (by omega)).2 h3
      rw [Nat.shiftLeft_zero, show min (52 - L) ((n.natAbs * 2 ^ (52 - L)).log2 + 2) = 52 - L from by omega]
      simp only [Nat.shiftLeft_eq, Nat.one_mul, Bool.toNat_false, Nat.add_zero]
      exact Nat.mul_div_cancel _ (Nat.pow_pos (by omega))
theorem Fl_toInt {n : Int} (h : inP n) : (FloatKind.f64.decode (Fl n)).toInt .zero = some n := by
  obtain ⟨s, m, i, hd, hi, _, hc, hs⟩ := Fl_decode h
  rw [hd]
  unfold Datum.toInt Datum.integral
  dsimp only
  rw [hc]
  congr 1
  unfold signed
  rw [Nat.shiftLeft_zero]
  by_cases hn : n = 0
  · subst hn; cases s <;> simp
  · rw [hs hn]
    by_cases hneg : n < 0
    · rw [if_pos (by simp [hneg])]; omega
    · rw [if_neg (by simp [hneg])]; omega
theorem cmp_mul (a b : Int) (k : Nat) (hk : 0 < k) : compare (a * (k : Int)) (b * (k : Int)) = compare a b := by
  have hk' : (0 : Int) < k := by omega
  show compareOfLessAndEq _ _ = compareOfLessAndEq _ _
  unfold compareOfLessAndEq
  rcases Int.lt_trichotomy a b with h | h | h
  · have h2 : a * (k : Int) < b * (k : Int) := Int.mul_lt_mul_of_pos_right h hk'
    rw [if_pos h, if_pos h2]
  · subst h
    rw [if_neg (Int.lt_irrefl _), if_neg (Int.lt_irrefl _), if_pos rfl, if_pos rfl]
  · have h2 : b * (k : Int) < a * (k : Int) := Int.mul_lt_mul_of_pos_right h hk'
    rw [if_neg (Int.lt_asymm h2), if_neg (fun e => by rw [e] at h2; exact Int.lt_irrefl _ h2), if_neg (Int.lt_asymm h), if_neg (fun e => by rw [e] at h; exact Int.lt_irrefl _ h)]
theorem Fl_order {a b : Int} (ha : inP a) (hb : inP b) : FloatKind.f64.format.order (Fl a) (Fl b) = some (compare a b) := by
  obtain ⟨s, m, i, hd, hi, h1, _, _⟩ := Fl_decode ha
  obtain ⟨t, k, j, hd2, hj, h2, _, _⟩ := Fl_decode hb
  show (FloatKind.f64.decode (Fl a)).order (FloatKind.f64.decode (Fl b)) = _
  rw [hd, hd2]
  unfold Datum.order
  dsimp only
  rw [h1 _ (by omega), h2 _ (by omega), cmp_mul _ _ _ (Nat.pow_pos (by omega))]
theorem Fl_max : Fl 1048576 = 4697254411347427328 ∧ Fl (-1048576) = 13920626448202203136 := by decide +kernel
theorem cvI {n : Int} (h : inP n) (w : World) : (convert 57 2 (.float .f64 (Fl n))).run Tryd.prog w = .ok (.int .i64 n) w := by
  refine run_convert_float_int w 57 2 .f64 .i64 (Fl n) n (by rw [Tryd.underlying57]; rfl) Tryd.underlying2 ?_
  unfold floatToIntVal
  rw [Fl_toInt h]
  have h' := h
  unfold inP at h'
  dsimp only
  rw [if_pos]
  constructor
  · show -9223372036854775808 ≤ n; omega
  · show n ≤ 9223372036854775807; omega
end Go.Proofs.YtlgabpcjhhihdaaDoor
end

section
namespace Go.Proofs.YtlgabpcjhhihdaaDoor
open Go.RowKit Go.NW
set_option maxRecDepth 100000
theorem Tryd.nanF (x : Nat) (h : ∀ w : World, (binOp .neq 57 (.float .f64 x) (.float .f64 x)).run Tryd.prog w = .ok (.bool false) w) (w : World) : Calls Tryd.prog 49 #[.float .f64 x] w fun e w' => e = .returned (.bool false) ∧ w = w' := by
  go_enter Tryd.func49, Tryd.ntmps49
  go_wp2
  go_ret
  exact ⟨rfl, rfl⟩
theorem Tryd.cmpF (x y : Nat) (hx : ∀ w : World, (binOp .neq 57 (.float .f64 x) (.float .f64 x)).run Tryd.prog w = .ok (.bool false) w) (hy : ∀ w : World, (binOp .neq 57 (.float .f64 y) (.float .f64 y)).run Tryd.prog w = .ok (.bool false) w)
    (l g : Bool) (hl : ∀ w : World, (binOp .lss 57 (.float .f64 x) (.float .f64 y)).run Tryd.prog w = .ok (.bool l) w) (hg : ∀ w : World, (binOp .gtr 57 (.float .f64 x) (.float .f64 y)).run Tryd.prog w = .ok (.bool g) w) (w : World) :
    Calls Tryd.prog 33 #[.float .f64 x, .float .f64 y] w fun e w' => e = .returned (.int .i64 (if l then -1 else if g then 1 else 0)) ∧ w = w' := by
  have n1 := Tryd.nanF x hx
  have n2 := Tryd.nanF y hy
  have N1 := Lib.hid n1
  have N2 := Lib.hid n2
  clear n1 n2 hx hy
  cases l
  · cases g
    · go_enter Tryd.func33, Tryd.ntmps33
      go_wp2_with fail
      refine (N1.out _).mono ?_
      rintro e w1 ⟨rfl, rfl⟩
      go_wp2_with fail
      refine (N2.out _).mono ?_
      rintro e w1 ⟨rfl, rfl⟩
      go_wp2_with fail
      go_ret
      exact ⟨rfl, rfl⟩
    · go_enter Tryd.func33, Tryd.ntmps33
      go_wp2_with fail
      refine (N1.out _).mono ?_
      rintro e w1 ⟨rfl, rfl⟩
      go_wp2_with fail
      refine (N2.out _).mono ?_
      rintro e w1 ⟨rfl, rfl⟩
      go_wp2_with fail
      go_ret
      exact ⟨rfl, rfl⟩
  · go_enter Tryd.func33, Tryd.ntmps33
    go_wp2_with fail
    refine (N1.out _).mono ?_
    rintro e w1 ⟨rfl, rfl⟩
    go_wp2_with fail
    refine (N2.out _).mono ?_
    rintro e w1 ⟨rfl, rfl⟩
    go_wp2_with fail
    go_ret
    exact ⟨rfl, rfl⟩
theorem Tryd.compareK (n : Int) (s : ByteArray) (w : World) : Calls Tryd.prog 13 #[vN n, vS s] w fun e w' => e = .returned (.int .i64 (-1)) ∧ Below w.heap.size w w' := by
  have hc := Tryd.cmp3 1 2
  rw [show sgn 1 2 = -1 by decide] at hc
  have HC := Lib.hid hc
  clear hc
  unfold vN vS
  go_enter Tryd.func13, Tryd.ntmps13
  go_wp2
  refine wp_scope_fwd 0 ?_
  go_wp2_with fail
  refine (HC.out _).mono ?_
  rintro e w1 ⟨rfl, rfl⟩
  go_wp2_with fail
  refine (Fwd.other (by intro l; simp)).2 ?_
  go_ret
  exact ⟨rfl, ((Below.refl _ w).alloc (Nat.le_refl _) _).alloc (by simp) _⟩
theorem Tryd.compareP1 (w : World) : Calls Tryd.prog 13 #[vC 4607182418800017408 4621256167635550208, vC 4611686018427387904 0] w fun e w' => e = .returned (.int .i64 (-1)) ∧ Below w.heap.size w w' := by
  have hc := Tryd.cmpF 4607182418800017408 4611686018427387904 (fun w => by kernel_rfl) (fun w => by kernel_rfl) true false (fun w => by kernel_rfl) (fun w => by kernel_rfl)
  have HC := Lib.hid hc
  have h3 := realC
  have h4 := imagC
  have hn : ∀ w : World, (binOp .neq 57 (.float .f64 4607182418800017408) (.float .f64 4611686018427387904)).run Tryd.prog w = .ok (.bool true) w := fun w => by kernel_rfl
  clear hc
  unfold vC
  go_enter Tryd.func13, Tryd.ntmps13
  go_wp2
  refine wp_scope_fwd 1 ?_
  go_wp2_with fail
  go_step3
  refine ⟨_, rfl, ?_⟩
  go_wp2_with fail
  refine (HC.out _).mono ?_
  rintro e w1 ⟨rfl, rfl⟩
  go_wp2_with fail
  refine (Fwd.other (by intro l; simp)).2 ?_
  go_ret
  exact ⟨rfl, ((Below.refl _ w).alloc (Nat.le_refl _) _).alloc (by simp) _⟩
theorem Tryd.compareP2 (w : World) : Calls Tryd.prog 13 #[vC 4607182418800017408 4621256167635550208, vC 4607182418800017408 4620693217682128896] w fun e w' => e = .returned (.int .i64 1) ∧ Below w.heap.size w w' := by
  have hc := Tryd.cmpF 4621256167635550208 4620693217682128896 (fun w => by kernel_rfl) (fun w => by kernel_rfl) false true (fun w => by kernel_rfl) (fun w => by kernel_rfl)
  have HC := Lib.hid hc
  have h3 := realC
  have h4 := imagC
  have hn : ∀ w : World, (binOp .neq 57 (.float .f64 4607182418800017408) (.float .f64 4607182418800017408)).run Tryd.prog w = .ok (.bool false) w := fun w => by kernel_rfl
  clear hc
  unfold vC
  go_enter Tryd.func13, Tryd.ntmps13
  go_wp2
  refine wp_scope_fwd 1 ?_
  go_wp2_with fail
  go_step3
  refine ⟨_, rfl, ?_⟩
  go_wp2_with fail
  refine (HC.out _).mono ?_
  rintro e w1 ⟨rfl, rfl⟩
  go_wp2_with fail
  refine (Fwd.other (by intro l; simp)).2 ?_
  go_ret
  exact ⟨rfl, ((Below.refl _ w).alloc (Nat.le_refl _) _).alloc (by simp) _⟩
theorem Tryd.fits0 (w : World) : Calls Tryd.prog 17 #[v0, .int .i64 1] w fun e w' => e = .returned (.bool true) ∧ Below w.heap.size w w' := by
  unfold v0
  go_enter Tryd.func17, Tryd.ntmps17
  go_wp2
  go_ret
  exact ⟨rfl, (Below.refl _ w).alloc (Nat.le_refl _) _⟩
theorem Tryd.fitsS (s : ByteArray) (w : World) : Calls Tryd.prog 17 #[vS s, .int .i64 1] w fun e w' => e = .returned (.bool false) ∧ Below w.heap.size w w' := by
  unfold vS
  go_enter Tryd.func17, Tryd.ntmps17
  go_wp2
  go_ret
  exact ⟨rfl, (Below.refl _ w).alloc (Nat.le_refl _) _⟩
theorem neqS (w : World) (k : Int) (b : Bool) (n : Int) (hb : (n == 0) = b) : (binOp .neq 25 (.agg #[.int .i64 k, .int .i64 n, .string ⟨#[]⟩, .complex .f64 0 0]) (.agg #[.int .i64 k, .int .i64 0, .string ⟨#[]⟩, .complex .f64 0 0])).run Tryd.prog w = .ok (.bool (!b)) w := by
  rw [neqV w k n k 0 _ _ 0 0 0 0 true (eqC0 w 9998), hb]
  simp
theorem Tryd.vcheckS (s : ByteArray) (hs : s.size < 2 ^ 60) (w : World) : Calls Tryd.prog 11 #[vS s] w fun e w' => e = .returned (.int .i64 (if s.size ≤ 255 then 0 else 4)) ∧ Below w.heap.size w w' := by
  have hsc := storeC
  have hN := neqS (k := 2) (b := true) (n := 0) (hb := rfl)
  have hG := eqG
  unfold vS
  by_cases h : s.size ≤ 255
  · have d1 : decide ((s.size : Int) > 255) = false := decide_eq_false (by omega)
    rw [if_pos h]
    go_enter Tryd.func11, Tryd.ntmps11
    go_wp2
    refine wp_scope_fwd 2 ?_
    go_wp2_with fail
    go_step3
    refine ⟨_, rfl, ?_⟩
    go_wp2_with fail
    go_step3
    go_wp2_with fail
    refine (Fwd.other (by intro l; simp)).2 ?_
    go_ret
    exact ⟨rfl, ((Below.refl _ w).alloc (Nat.le_refl _) _).alloc (by simp) _⟩
  · have d1 : decide ((s.size : Int) > 255) = true := decide_eq_true (by omega)
    rw [if_neg h]
    go_enter Tryd.func11, Tryd.ntmps11
    go_wp2
    refine wp_scope_fwd 2 ?_
    go_wp2_with fail
    go_step3
    refine ⟨_, rfl, ?_⟩
    go_wp2_with fail
    go_step3
    go_wp2_with fail
    refine (Fwd.other (by intro l; simp)).2 ?_
    go_ret
    exact ⟨rfl, ((Below.refl _ w).alloc (Nat.le_refl _) _).alloc (by simp) _⟩
theorem Tryd.vcheckX (w : World) : Calls Tryd.prog 11 #[.agg #[.int .i64 0, .int .i64 1, .string ⟨#[]⟩, .complex .f64 0 0]] w fun e w' => e = .returned (.int .i64 1) ∧ Below w.heap.size w w' := by
  have hsc := storeC
  have hN := neqS (k := 0) (b := false) (n := 1) (hb := rfl)
  have hG := eqG
  go_enter Tryd.func11, Tryd.ntmps11
  go_wp2
  refine wp_scope_fwd 1 ?_
  go_wp2_with fail
  go_step3
  refine ⟨_, rfl, ?_⟩
  go_wp2_with fail
  refine (Fwd.other (by intro l; simp)).2 ?_
  go_ret
  exact ⟨rfl, ((Below.refl _ w).alloc (Nat.le_refl _) _).alloc (by simp) _⟩
theorem Tryd.vcheckK (w : World) : Calls Tryd.prog 11 #[.agg #[.int .i64 4, .int .i64 0, .string ⟨#[]⟩, .complex .f64 0 0]] w fun e w' => e = .returned (.int .i64 6) ∧ Below w.heap.size w w' := by
  have hsc := storeC
  go_enter Tryd.func11, Tryd.ntmps11
  go_wp2
  refine wp_scope_fwd 0 ?_
  go_wp2_with fail
  refine (Fwd.other (by intro l; simp)).2 ?_
  go_ret
  exact ⟨rfl, ((Below.refl _ w).alloc (Nat.le_refl _) _).alloc (by simp) _⟩
end Go.Proofs.YtlgabpcjhhihdaaDoor
end

section
namespace Go.Proofs.YtlgabpcjhhihdaaDoor
open Go.RowKit Go.NW
set_option maxRecDepth 100000
theorem inP_ends : inP 1048576 ∧ inP (-1048576) := by constructor <;> unfold inP <;> omega
theorem fl_ge {n : Int} (h : inP n) : (FloatKind.f64.format.order (Fl n) 13920626448202203136 == some .gt || FloatKind.f64.format.order (Fl n) 13920626448202203136 == some .eq) = true := by
  rw [← Fl_max.2, Fl_order h inP_ends.2]
  have h' : -1048576 ≤ n := h.1
  rcases Int.lt_or_eq_of_le h' with h1 | h1
  · rw [show compare n (-1048576) = .gt from by show compareOfLessAndEq _ _ = _; unfold compareOfLessAndEq; rw [if_neg (by omega), if_neg (by omega)]]
    rfl
  · rw [← h1]; rfl
theorem fl_le {n : Int} (h : inP n) : (FloatKind.f64.format.order (Fl n) 4697254411347427328 == some .lt || FloatKind.f64.format.order (Fl n) 4697254411347427328 == some .eq) = true := by
  rw [← Fl_max.1, Fl_order h inP_ends.1]
  have h' : n ≤ 1048576 := h.2
  rcases Int.lt_or_eq_of_le h' with h1 | h1
  · rw [show compare n 1048576 = .lt from by show compareOfLessAndEq _ _ = _; unfold compareOfLessAndEq; rw [if_pos h1]]
    rfl
  · rw [h1]; rfl
theorem fl_eq {n : Int} (h : inP n) : (FloatKind.f64.format.order (Fl n) (Fl n) == some .eq) = true := by
  rw [Fl_order h h]
  rw [show compare n n = .eq from by show compareOfLessAndEq _ _ = _; unfold compareOfLessAndEq; rw [if_neg (Int.lt_irrefl _), if_pos rfl]]
  rfl
theorem Tryd.goodPart {n : Int} (h : inP n) (w : World) : Calls Tryd.prog 45 #[.float .f64 (Fl n)] w fun e w' => e = .returned (.bool true) ∧ w = w' := by
  have h1 := fl_ge h
  have h2 := fl_le h
  have h3 := fl_eq h
  have h4 := cvI h
  have h5 := cvF2 n
  generalize Fl n = F at h1 h2 h3 h4 h5 ⊢
  go_enter Tryd.func45, Tryd.ntmps45
  go_wp2_with fail
  go_ret
  exact ⟨rfl, rfl⟩
theorem Tryd.good {a b : Int} (ha : inP a) (hb : inP b) (w : World) : Calls Tryd.prog 29 #[.complex .f64 (Fl a) (Fl b)] w fun e w' => e = .returned (.bool true) ∧ w = w' := by
  have h3 := realC
  have h4 := imagC
  have HA := Lib.hid (fun w => Tryd.goodPart ha w)
  have HB := Lib.hid (fun w => Tryd.goodPart hb w)
  generalize Fl a = F at HA ⊢
  generalize Fl b = G at HB ⊢
  go_enter Tryd.func29, Tryd.ntmps29
  go_wp2_with fail
  refine (HA.out _).mono ?_
  rintro e w1 ⟨rfl, rfl⟩
  go_wp2_with fail
  refine (HB.out _).mono ?_
  rintro e w1 ⟨rfl, rfl⟩
  go_wp2_with fail
  go_ret
  exact ⟨rfl, rfl⟩
theorem Tryd.vcheckC {a b : Int} (ha : inP a) (hb : inP b) (w : World) : Calls Tryd.prog 11 #[vC (Fl a) (Fl b)] w fun e w' => e = .returned (.int .i64 0) ∧ Below w.heap.size w w' := by
  have hsc := storeC
  have hN := neqS (k := 3) (b := true) (n := 0) (hb := rfl)
  have hG := eqG
  have HA := Lib.hid (fun w => Tryd.good ha hb w)
  unfold vC
  generalize Fl a = F at HA ⊢
  generalize Fl b = G at HA ⊢
  go_enter Tryd.func11, Tryd.ntmps11
  go_wp2
  refine wp_scope_fwd 1 ?_
  go_wp2_with fail
  refine (HA.out _).mono ?_
  rintro e w1 ⟨rfl, rfl⟩
  go_wp2_with fail
  go_step3
  refine ⟨_, rfl, ?_⟩
  go_wp2_with fail
  refine (Fwd.other (by intro l; simp)).2 ?_
  go_ret
  refine ⟨rfl, ?_⟩
  first
    | exact ((Below.refl _ w).alloc (Nat.le_refl _) _).alloc (by simp) _
    | exact (((Below.refl _ w).alloc (Nat.le_refl _) _).alloc (by simp) _).setCell (by simp) _
theorem Tryd.vcheckN (n : Int) (w : World) : Calls Tryd.prog 11 #[vN n] w fun e w' => e = .returned (.int .i64 0) ∧ Below w.heap.size w w' := by
  have hsc := storeC
  have hN := neqS (k := 1) (b := true) (n := 0) (hb := rfl)
  have hG := eqG
  unfold vN
  go_enter Tryd.func11, Tryd.ntmps11
  go_wp2
  refine wp_scope_fwd 2 ?_
  go_wp2_with fail
  go_step3
  refine ⟨_, rfl, ?_⟩
  go_wp2_with fail
  go_step3
  refine ⟨_, rfl, ?_⟩
  go_wp2_with fail
  refine (Fwd.other (by intro l; simp)).2 ?_
  go_ret
  refine ⟨rfl, ?_⟩
  first
    | exact ((Below.refl _ w).alloc (Nat.le_refl _) _).alloc (by simp) _
    | exact (((Below.refl _ w).alloc (Nat.le_refl _) _).alloc (by simp) _).setCell (by simp) _
theorem Tryd.vcheck0 (w : World) : Calls Tryd.prog 11 #[v0] w fun e w' => e = .returned (.int .i64 0) ∧ Below w.heap.size w w' := by
  have hsc := storeC
  have hN := neqS (k := 0) (b := true) (n := 0) (hb := rfl)
  have hG := eqG
  unfold v0
  go_enter Tryd.func11, Tryd.ntmps11
  go_wp2
  refine wp_scope_fwd 1 ?_
  go_wp2_with fail
  go_step3
  refine ⟨_, rfl, ?_⟩
  go_wp2_with fail
  refine (Fwd.other (by intro l; simp)).2 ?_
  go_ret
  refine ⟨rfl, ?_⟩
  exact ((Below.refl _ w).alloc (Nat.le_refl _) _).alloc (by simp) _
theorem bs_add (x y : List UInt8) (h : x.length + y.length ≤ 1000) (w : World) : (Op.stringOp .add (bs x) (bs y)).run Tryd.prog w = .ok (.string (bs (x ++ y))) w := by
  rw [run_string_add_sum w _ _ (by rw [bs_size, bs_size]; omega)]
  have : bs x ++ bs y = bs (x ++ y) := by
    apply ByteArray.ext
    simp [bs]
  rw [this]
def pText (a b : Int) : List UInt8 := ((Lib.itoa a ++ (if b < 0 then [] else [43])) ++ Lib.itoa b) ++ [105]
theorem Tryd.ptextC {B : Nat} {w : World} (hD : DoorI B w) (hB : B ≤ w.heap.size) {a b : Int} (ha : inP a) (hb : inP b) : Calls Tryd.prog 28 #[.complex .f64 (Fl a) (Fl b)] w fun e w' => e = .returned (.string (bs (pText a b))) ∧ Below w.heap.size w w' := by
  have h1 := cvI ha
  have h2 := cvI hb
  have h3 := realC
  have h4 := imagC
  have ha' : -9223372036854775808 ≤ a ∧ a ≤ 9223372036854775807 := by unfold inP at ha; omega
  have hb' : -9223372036854775808 ≤ b ∧ b ≤ 9223372036854775807 := by unfold inP at hb; omega
  have la := Lib.itoa_length_le a ha'.1 ha'.2
  have lb := Lib.itoa_length_le b hb'.1 hb'.2
  have HD := Lib.hid hD
  generalize Fl a = F at h1 ⊢
  generalize Fl b = G at h2 ⊢
  unfold pText
  by_cases hneg : b < 0
  · have d1 : decide (b < 0) = true := decide_eq_true hneg
    rw [if_pos hneg]
    have a1 : ∀ w, (Op.stringOp .add (bs (Lib.itoa a)) ⟨#[]⟩).run Tryd.prog w = .ok (.string (bs (Lib.itoa a ++ []))) w := fun w => bs_add _ [] (by simp; omega) w
    have a2 := bs_add (Lib.itoa a ++ []) (Lib.itoa b) (by simp; omega)
    have a3 : ∀ w, (Op.stringOp .add (bs (Lib.itoa a ++ [] ++ Lib.itoa b)) ⟨#[105]⟩).run Tryd.prog w = .ok (.string (bs (Lib.itoa a ++ [] ++ Lib.itoa b ++ [105]))) w := fun w => bs_add _ [105] (by simp; omega) w
    generalize bs (Lib.itoa a ++ [] ++ Lib.itoa b ++ [105]) = R at a3 ⊢
    generalize bs (Lib.itoa a ++ [] ++ Lib.itoa b) = R2 at a2 a3
    generalize bs (Lib.itoa a ++ []) = R1 at a1 a2
    clear hD hneg ha hb la lb
    go_enter Tryd.func28, Tryd.ntmps28
    go_wp2_with fail
    refine (Tryd.formatC HD.out a ha'.1 ha'.2).mono ?_
    rintro e w1 ⟨rfl, hb⟩
    have W1 := Lib.hid hb
    clear hb
    go_wp2_with fail
    refine (Tryd.formatC (HD.out.on (W1.out.mono hB)) b hb'.1 hb'.2).mono ?_
    rintro e w2 ⟨rfl, hb⟩
    have W2 := Lib.hid (W1.out.trans (hb.mono W1.out.size))
    clear hb
    go_wp2_with fail
    go_ret
    exact ⟨rfl, W2.out⟩
  · have d1 : decide (b < 0) = false := decide_eq_false hneg
    rw [if_neg hneg]
    have a1 : ∀ w, (Op.stringOp .add (bs (Lib.itoa a)) ⟨#[43]⟩).run Tryd.prog w = .ok (.string (bs (Lib.itoa a ++ [43]))) w := fun w => bs_add _ [43] (by simp; omega) w
    have a2 := bs_add (Lib.itoa a ++ [43]) (Lib.itoa b) (by simp; omega)
    have a3 : ∀ w, (Op.stringOp .add (bs (Lib.itoa a ++ [43] ++ Lib.itoa b)) ⟨#[105]⟩).run Tryd.prog w = .ok (.string (bs (Lib.itoa a ++ [43] ++ Lib.itoa b ++ [105]))) w := fun w => bs_add _ [105] (by simp; omega) w
    generalize bs (Lib.itoa a ++ [43] ++ Lib.itoa b ++ [105]) = R at a3 ⊢
    generalize bs (Lib.itoa a ++ [43] ++ Lib.itoa b) = R2 at a2 a3
    generalize bs (Lib.itoa a ++ [43]) = R1 at a1 a2
    clear hD hneg ha hb la lb
    go_enter Tryd.func28, Tryd.ntmps28
    go_wp2_with fail
    refine (Tryd.formatC HD.out a ha'.1 ha'.2).mono ?_
    rintro e w1 ⟨rfl, hb⟩
    have W1 := Lib.hid hb
    clear hb
    go_wp2_with fail
    refine (Tryd.formatC (HD.out.on (W1.out.mono hB)) b hb'.1 hb'.2).mono ?_
    rintro e w2 ⟨rfl, hb⟩
    have W2 := Lib.hid (W1.out.trans (hb.mono W1.out.size))
    clear hb
    go_wp2_with fail
    go_ret
    exact ⟨rfl, W2.out⟩
theorem Tryd.textC {B : Nat} {w : World} (hD : DoorI B w) (hB : B ≤ w.heap.size) {a b : Int} (ha : inP a) (hb : inP b) : Calls Tryd.prog 10 #[vC (Fl a) (Fl b)] w fun e w' => e = .returned (.string (bs (pText a b))) ∧ Below w.heap.size w w' := by
  have HD := Lib.hid (hD.on ((Below.refl _ w).alloc hB (.cells #[.int .i64 3, .int .i64 0, .string ⟨#[]⟩, .complex .f64 (Fl a) (Fl b)] 25)))
  clear hD
  unfold vC
  go_enter Tryd.func10, Tryd.ntmps10
  go_wp2
  refine wp_scope_fwd 1 ?_
  go_wp2_with fail
  go_step3
  refine ⟨_, rfl, ?_⟩
  go_wp2_with fail
  refine (Tryd.ptextC HD.out (Nat.le_trans hB (by simp)) ha hb).mono ?_
  rintro e w1 ⟨rfl, hb⟩
  have HB := Lib.hid (((Below.refl _ w).alloc (Nat.le_refl _) (.cells #[.int .i64 3, .int .i64 0, .string ⟨#[]⟩, .complex .f64 (Fl a) (Fl b)] 25)).trans (hb.mono (by simp)))
  clear hb
  go_wp2_with fail
  refine (Fwd.other (by intro l; simp)).2 ?_
  go_ret
  exact ⟨rfl, HB.out⟩
end Go.Proofs.YtlgabpcjhhihdaaDoor
end

section
namespace Go.Proofs.YtlgabpcjhhihdaaDoor
open Go.RowKit Go.NW
set_option maxRecDepth 100000
def Sx (Z : World) (xb : Nat) (a : Int) : Prop := Z.cell? ⟨xb, 0, none⟩ = some (.int .i64 1) ∧ Z.cell? ⟨xb, 1, none⟩ = some (.int .i64 a) ∧ Z.cell? ⟨xb, 2, none⟩ = some (.string ⟨#[]⟩) ∧ Z.cell? ⟨xb, 3, none⟩ = some (.complex .f64 0 0)
theorem cellB {w w' : World} {p : Addr} {v : Value} (h : w.cell? p = some v) (hb : Below w.heap.size w w') : w'.cell? p = some v := (hb.cell (block_lt_of_cell h)).trans h
theorem Sx.below {Z Z' : World} {xb : Nat} {a : Int} (h : Sx Z xb a) (hb : Below Z.heap.size Z Z') : Sx Z' xb a := ⟨cellB h.1 hb, cellB h.2.1 hb, cellB h.2.2.1 hb, cellB h.2.2.2 hb⟩
theorem Sx.of {Z : World} {xb : Nat} {a : Int} (h : Z.heap[xb]? = some (.cells (cells4 1 a ⟨#[]⟩ 0 0) 25 (0, 0))) : Sx Z xb a := by
  refine ⟨?_, ?_, ?_, ?_⟩ <;> (rw [cell_of_row Z xb _ _ 25 _ h]; rfl)
end Go.Proofs.YtlgabpcjhhihdaaDoor
end

section
namespace Go.Proofs.YtlgabpcjhhihdaaDoor
open Go.RowKit Go.NW
set_option maxRecDepth 100000
def Bx (Z : World) (xb : Nat) (k n : Int) (s : ByteArray) (x y : Nat) : Prop := Z.cell? ⟨xb, 0, none⟩ = some (.int .i64 k) ∧ Z.cell? ⟨xb, 1, none⟩ = some (.int .i64 n) ∧ Z.cell? ⟨xb, 2, none⟩ = some (.string s) ∧ Z.cell? ⟨xb, 3, none⟩ = some (.complex .f64 x y)
theorem Bx.below {Z Z' : World} {xb : Nat} {k n : Int} {s : ByteArray} {x y : Nat} (h : Bx Z xb k n s x y) (hb : Below Z.heap.size Z Z') : Bx Z' xb k n s x y := ⟨cellB h.1 hb, cellB h.2.1 hb, cellB h.2.2.1 hb, cellB h.2.2.2 hb⟩
theorem Bx.of (Z : World) (k n : Int) (s : ByteArray) (x y : Nat) : Bx (Z.alloc (.cells #[.int .i64 k, .int .i64 n, .string s, .complex .f64 x y] 25)) Z.heap.size k n s x y := by
  refine ⟨?_, ?_, ?_, ?_⟩ <;> (rw [cell_of_row _ _ _ _ 25 _ (heap_alloc_new _ _)]; rfl)
def KS (Z : World) (x1 x3 x5 x7 : Nat) : Prop := Bx Z x1 2 0 ⟨#[97, 111]⟩ 0 0 ∧ Bx Z x3 1 (-7) ⟨#[]⟩ 0 0 ∧ Bx Z x5 3 0 ⟨#[]⟩ 13830554455654793216 4611686018427387904 ∧ Bx Z x7 0 0 ⟨#[]⟩ 0 0
theorem KS.below {Z Z' : World} {x1 x3 x5 x7 : Nat} (h : KS Z x1 x3 x5 x7) (hb : Below Z.heap.size Z Z') : KS Z' x1 x3 x5 x7 := ⟨h.1.below hb, h.2.1.below hb, h.2.2.1.below hb, h.2.2.2.below hb⟩
theorem Tryd.nnU (n : Int) (w : World) : Calls Tryd.prog 14 #[.int .i64 n] w fun e w' => e = .returned (.agg #[.int .i64 1, .int .i64 n, .string ⟨#[]⟩, .complex .f64 0 0]) ∧ Below w.heap.size w w' := Tryd.nn n w
theorem Tryd.ssU (s : ByteArray) (w : World) : Calls Tryd.prog 12 #[.string s] w fun e w' => e = .returned (.agg #[.int .i64 2, .int .i64 0, .string s, .complex .f64 0 0]) ∧ Below w.heap.size w w' := Tryd.ss s w
theorem cvtU (n : Int) (x : Nat) (h : ∀ w : World, (convert 3 57 (.int .i64 n)).run Tryd.prog w = .ok (.float .f64 x) w) (m : Int) (y : Nat) (h' : ∀ w : World, (convert 3 57 (.int .i64 m)).run Tryd.prog w = .ok (.float .f64 y) w) (w : World) :
    Calls Tryd.prog 16 #[.int .i64 n, .int .i64 m] w fun e w' => e = .returned (.agg #[.int .i64 3, .int .i64 0, .string ⟨#[]⟩, .complex .f64 x y]) ∧ Below w.heap.size w w' := cvt n x h m y h' w
theorem k1 : pbytes [54, 49, 54, 102] = (vS ⟨#[97, 111]⟩, 0) := by kernel_rfl
theorem k2 : pint [45, 55] = (vN (-7), 0) := by kernel_rfl
theorem k5 : pbytes [54] = (v0, 2) := by kernel_rfl
theorem k6 : pint [57, 50, 50, 51, 51, 55, 50, 48, 51, 54, 56, 53, 52, 55, 55, 53, 56, 48, 56] = (v0, 1) := by kernel_rfl
theorem k7 : pbytes [54, 65] = (v0, 2) := by kernel_rfl
theorem eqP (w : World) : (binOp .eql 25 (.agg #[.int .i64 3, .int .i64 0, .string ⟨#[]⟩, .complex .f64 13830554455654793216 4611686018427387904]) (.agg #[.int .i64 3, .int .i64 0, .string ⟨#[]⟩, .complex .f64 13830554455654793216 4611686018427387904])).run Tryd.prog w = .ok (.bool true) w := by
  rw [eqlV w 3 0 3 0 _ _ _ _ _ _ true (by kernel_rfl)]
  simp
theorem eqS (s : ByteArray) (w : World) : (binOp .eql 25 (.agg #[.int .i64 2, .int .i64 0, .string s, .complex .f64 0 0]) (.agg #[.int .i64 2, .int .i64 0, .string s, .complex .f64 0 0])).run Tryd.prog w = .ok (.bool true) w := by
  rw [eqlV w 2 0 2 0 _ _ 0 0 0 0 true (eqC0 w 9998)]
  simp
theorem eq0 (w : World) : (binOp .eql 25 (.agg #[.int .i64 0, .int .i64 0, .string ⟨#[]⟩, .complex .f64 0 0]) (.agg #[.int .i64 0, .int .i64 0, .string ⟨#[]⟩, .complex .f64 0 0])).run Tryd.prog w = .ok (.bool true) w := by
  rw [eqlV w 0 0 0 0 _ _ 0 0 0 0 true (eqC0 w 9998)]
  simp
set_option maxHeartbeats 4000000 in
theorem Tryd.knownC {B : Nat} {w : World} (hD : DoorI B w) (hB : B ≤ w.heap.size) : Calls Tryd.prog 6 #[] w fun e w' => e = .returned (.bool true) ∧ Below w.heap.size w w' := by
  have hsc := storeC
  have HD := Lib.hid hD
  clear hD
  go_enter Tryd.func6, Tryd.ntmps6
  go_wp2_with fail
  have U0 : Hid (Below w.heap.size w w) := Lib.hid (Below.refl _ _)
  refine (Tryd.parseB [54, 49, 54, 102] (by decide) _).mono ?_
  rintro e w1a ⟨rfl, hb⟩
  rw [k1]
  dsimp only [vS, vN, v0, vP, vC]
  have A1 := Lib.hid (U0.out.trans (hb.mono U0.out.size))
  clear hb
  go_wp2_with fail
  have hal := (Below.refl w1a.heap.size w1a).alloc (Nat.le_refl _) (.cells #[.int .i64 2, .int .i64 0, .string ⟨#[97, 111]⟩, .complex .f64 0 0] 25)
  have U1 := Lib.hid (A1.out.trans (hal.mono A1.out.size))
  have Q1_1 := Lib.hid (Bx.of w1a 2 0 ⟨#[97, 111]⟩ 0 0)
  clear hal
  generalize w1a.alloc (.cells #[.int .i64 2, .int .i64 0, .string ⟨#[97, 111]⟩, .complex .f64 0 0] 25) = w1 at U1 Q1_1 ⊢
  generalize w1a.heap.size = x1 at Q1_1 ⊢
  refine (Tryd.parseN (HD.out.on (U1.out.mono hB)) (Nat.le_trans hB U1.out.size) [45, 55] (by decide) (by decide) (by decide) (by decide)).mono ?_
  rintro e w2a ⟨rfl, hb⟩
  rw [k2]
  dsimp only [vS, vN, v0, vP, vC]
  have A2 := Lib.hid (U1.out.trans (hb.mono U1.out.size))
  have Q1_2 := Lib.hid (Q1_1.out.below hb)
  clear hb
  go_wp2_with fail
  have hal := (Below.refl w2a.heap.size w2a).alloc (Nat.le_refl _) (.cells #[.int .i64 1, .int .i64 (-7), .string ⟨#[]⟩, .complex .f64 0 0] 25)
  have U2 := Lib.hid (A2.out.trans (hal.mono A2.out.size))
  have Q1_2 := Lib.hid (Q1_2.out.below hal)
  have Q3_2 := Lib.hid (Bx.of w2a 1 (-7) ⟨#[]⟩ 0 0)
  clear hal
  generalize w2a.alloc (.cells #[.int .i64 1, .int .i64 (-7), .string ⟨#[]⟩, .complex .f64 0 0] 25) = w2 at U2 Q1_2 Q3_2 ⊢
  generalize w2a.heap.size = x3 at Q3_2 ⊢
  refine (Tryd.parseP (HD.out.on (U2.out.mono hB)) (Nat.le_trans hB U2.out.size)).mono ?_
  rintro e w3a ⟨rfl, hb⟩
  dsimp only [vS, vN, v0, vP, vC]
  have A3 := Lib.hid (U2.out.trans (hb.mono U2.out.size))
  have Q1_3 := Lib.hid (Q1_2.out.below hb)
  have Q3_3 := Lib.hid (Q3_2.out.below hb)
  clear hb
  go_wp2_with fail
  have hal := (Below.refl w3a.heap.size w3a).alloc (Nat.le_refl _) (.cells #[.int .i64 3, .int .i64 0, .string ⟨#[]⟩, .complex .f64 13830554455654793216 4611686018427387904] 25)
  have U3 := Lib.hid (A3.out.trans (hal.mono A3.out.size))
  have Q1_3 := Lib.hid (Q1_3.out.below hal)
  have Q3_3 := Lib.hid (Q3_3.out.below hal)
  have Q5_3 := Lib.hid (Bx.of w3a 3 0 ⟨#[]⟩ 13830554455654793216 4611686018427387904)
  clear hal
  generalize w3a.alloc (.cells #[.int .i64 3, .int .i64 0, .string ⟨#[]⟩, .complex .f64 13830554455654793216 4611686018427387904] 25) = w3 at U3 Q1_3 Q3_3 Q5_3 ⊢
  generalize w3a.heap.size = x5 at Q5_3 ⊢
  refine (Tryd.parseNull _).mono ?_
  rintro e w4a ⟨rfl, hb⟩
  dsimp only [vS, vN, v0, vP, vC]
  have A4 := Lib.hid (U3.out.trans (hb.mono U3.out.size))
  have Q1_4 := Lib.hid (Q1_3.out.below hb)
  have Q3_4 := Lib.hid (Q3_3.out.below hb)
  have Q5_4 := Lib.hid (Q5_3.out.below hb)
  clear hb
  go_wp2_with fail
  have hal := (Below.refl w4a.heap.size w4a).alloc (Nat.le_refl _) (.cells #[.int .i64 0, .int .i64 0, .string ⟨#[]⟩, .complex .f64 0 0] 25)
  have U4 := Lib.hid (A4.out.trans (hal.mono A4.out.size))
  have Q1_4 := Lib.hid (Q1_4.out.below hal)
  have Q3_4 := Lib.hid (Q3_4.out.below hal)
  have Q5_4 := Lib.hid (Q5_4.out.below hal)
  have Q7_4 := Lib.hid (Bx.of w4a 0 0 ⟨#[]⟩ 0 0)
  clear hal
  generalize w4a.alloc (.cells #[.int .i64 0, .int .i64 0, .string ⟨#[]⟩, .complex .f64 0 0] 25) = w4 at U4 Q1_4 Q3_4 Q5_4 Q7_4 ⊢
  generalize w4a.heap.size = x7 at Q7_4 ⊢
  refine (Tryd.parseB [54] (by decide) _).mono ?_
  rintro e w5a ⟨rfl, hb⟩
  rw [k5]
  dsimp only [vS, vN, v0, vP, vC]
  have A5 := Lib.hid (U4.out.trans (hb.mono U4.out.size))
  have Q1_5 := Lib.hid (Q1_4.out.below hb)
  have Q3_5 := Lib.hid (Q3_4.out.below hb)
  have Q5_5 := Lib.hid (Q5_4.out.below hb)
  have Q7_5 := Lib.hid (Q7_4.out.below hb)
  clear hb
  go_wp2_with fail
  have hal := (Below.refl w5a.heap.size w5a).alloc (Nat.le_refl _) (.cells #[.int .i64 0, .int .i64 0, .string ⟨#[]⟩, .complex .f64 0 0] 25)
  have U5 := Lib.hid (A5.out.trans (hal.mono A5.out.size))
  have Q1_5 := Lib.hid (Q1_5.out.below hal)
  have Q3_5 := Lib.hid (Q3_5.out.below hal)
  have Q5_5 := Lib.hid (Q5_5.out.below hal)
  have Q7_5 := Lib.hid (Q7_5.out.below hal)
  clear hal
  generalize w5a.alloc (.cells #[.int .i64 0, .int .i64 0, .string ⟨#[]⟩, .complex .f64 0 0] 25) = w5 at U5 Q1_5 Q3_5 Q5_5 Q7_5 ⊢
  generalize w5a.heap.size = x9 at ⊢
  refine (Tryd.parseN (HD.out.on (U5.out.mono hB)) (Nat.le_trans hB U5.out.size) [57, 50, 50, 51, 51, 55, 50, 48, 51, 54, 56, 53, 52, 55, 55, 53, 56, 48, 56] (by decide) (by decide) (by decide) (by decide)).mono ?_
  rintro e w6a ⟨rfl, hb⟩
  rw [k6]
  dsimp only [vS, vN, v0, vP, vC]
  have A6 := Lib.hid (U5.out.trans (hb.mono U5.out.size))
  have Q1_6 := Lib.hid (Q1_5.out.below hb)
  have Q3_6 := Lib.hid (Q3_5.out.below hb)
  have Q5_6 := Lib.hid (Q5_5.out.below hb)
  have Q7_6 := Lib.hid (Q7_5.out.below hb)
  clear hb
  go_wp2_with fail
  have hal := (Below.refl w6a.heap.size w6a).alloc (Nat.le_refl _) (.cells #[.int .i64 0, .int .i64 0, .string ⟨#[]⟩, .complex .f64 0 0] 25)
  have U6 := Lib.hid (A6.out.trans (hal.mono A6.out.size))
  have Q1_6 := Lib.hid (Q1_6.out.below hal)
  have Q3_6 := Lib.hid (Q3_6.out.below hal)
  have Q5_6 := Lib.hid (Q5_6.out.below hal)
  have Q7_6 := Lib.hid (Q7_6.out.below hal)
  clear hal
  generalize w6a.alloc (.cells #[.int .i64 0, .int .i64 0, .string ⟨#[]⟩, .complex .f64 0 0] 25) = w6 at U6 Q1_6 Q3_6 Q5_6 Q7_6 ⊢
  generalize w6a.heap.size = x11 at ⊢
  refine (Tryd.parseB [54, 65] (by decide) _).mono ?_
  rintro e w7a ⟨rfl, hb⟩
  rw [k7]
  dsimp only [vS, vN, v0, vP, vC]
  have A7 := Lib.hid (U6.out.trans (hb.mono U6.out.size))
  have Q1_7 := Lib.hid (Q1_6.out.below hb)
  have Q3_7 := Lib.hid (Q3_6.out.below hb)
  have Q5_7 := Lib.hid (Q5_6.out.below hb)
  have Q7_7 := Lib.hid (Q7_6.out.below hb)
  clear hb
  go_wp2_with fail
  have hal := (Below.refl w7a.heap.size w7a).alloc (Nat.le_refl _) (.cells #[.int .i64 0, .int .i64 0, .string ⟨#[]⟩, .complex .f64 0 0] 25)
  have U7 := Lib.hid (A7.out.trans (hal.mono A7.out.size))
  have Q1_7 := Lib.hid (Q1_7.out.below hal)
  have Q3_7 := Lib.hid (Q3_7.out.below hal)
  have Q5_7 := Lib.hid (Q5_7.out.below hal)
  have Q7_7 := Lib.hid (Q7_7.out.below hal)
  clear hal
  generalize w7a.alloc (.cells #[.int .i64 0, .int .i64 0, .string ⟨#[]⟩, .complex .f64 0 0] 25) = w7 at U7 Q1_7 Q3_7 Q5_7 Q7_7 ⊢
  generalize w7a.heap.size = x13 at ⊢
  have eP := eqP
  have eS := eqS
  have eN := eqN
  have e0 := eq0
  have hG := eqG
  have hL := bs_list
  have hT1 : ∀ w, Calls Tryd.prog 10 #[.agg #[.int .i64 2, .int .i64 0, .string ⟨#[97, 111]⟩, .complex .f64 0 0]] w fun e w' => e = .returned (.string ⟨#[34, 54, 49, 54, 102]⟩) ∧ Below w.heap.size w w' := Tryd.textS [97, 111] (by decide)
  have hSm : ∀ w, Calls Tryd.prog 15 #[.agg #[.int .i64 1, .int .i64 (-7), .string ⟨#[]⟩, .complex .f64 0 0], .agg #[.int .i64 1, .int .i64 (-7), .string ⟨#[]⟩, .complex .f64 0 0]] w fun e w' => e = .returned (.bool true) ∧ Below w.heap.size w w' := Tryd.sameN (-7) (-7)
  have hV1 : ∀ w, Calls Tryd.prog 11 #[.agg #[.int .i64 2, .int .i64 0, .string ⟨#[97, 111]⟩, .complex .f64 0 0]] w fun e w' => e = .returned (.int .i64 0) ∧ Below w.heap.size w w' := Tryd.vcheckS ⟨#[97, 111]⟩ (by decide)
  have S0a : Hid (KS w7 x1 x3 x5 x7) := Lib.hid ⟨Q1_7.out, Q3_7.out, Q5_7.out, Q7_7.out⟩
  have S0 := Lib.hid (KS.below S0a.out (Below.refl _ w7).drew)
  have B0 := Lib.hid U7.out.drew
  clear Q1_1 Q1_2 Q3_2 Q1_3 Q3_3 Q5_3 Q1_4 Q3_4 Q5_4 Q7_4 Q1_5 Q3_5 Q5_5 Q7_5 Q1_6 Q3_6 Q5_6 Q7_6 Q1_7 Q3_7 Q5_7 Q7_7
  go_upto_region 8 with fail
  refine wp_region_noPanic ?_
  refine wp_region_held_drew (S := (fun Z => KS Z x1 x3 x5 x7)) (by kernel_rfl) ?_ (fun hHeld => ?_)
  · exact S0a.out
  refine wpAnyH_take (i := 0) (oi := { dst := some 43, op := Op.move (Operand.tmp 2), type := 26, pos := "law.go:91", after := #[], guard := none }) (v := ?_) rfl (by kernel_rfl) (by kernel_rfl) (by kernel_rfl) (fun _ _ _ h => h) (Or.inl ⟨by rfl, ?_⟩) (by assumption) ?_
  rotate_left
  · (intro w hSw; (try dsimp only at hSw); go_simp; try with_reducible rfl)
  try simp only [Act.put, List.setIfInBounds_toArray, List.set_cons_zero, List.set_cons_succ]
  refine wpAnyH_take (i := 1) (oi := { dst := some 44, op := Op.move (Operand.tmp 4), type := 26, pos := "law.go:91", after := #[], guard := none }) (v := ?_) rfl (by kernel_rfl) (by kernel_rfl) (by kernel_rfl) (fun _ _ _ h => h) (Or.inl ⟨by rfl, ?_⟩) (by assumption) ?_
  rotate_left
  · (intro w hSw; (try dsimp only at hSw); go_simp; try with_reducible rfl)
  try simp only [Act.put, List.setIfInBounds_toArray, List.set_cons_zero, List.set_cons_succ]
  refine wpAnyH_take (i := 2) (oi := { dst := some 45, op := Op.binOp BinOp.add 3 (Operand.tmp 43) (Operand.tmp 44) 3, type := 3, pos := "law.go:91", after := #[{ on := 0, ground := Ground.data }, { on := 1, ground := Ground.data }], guard := none }) (v := ?_) rfl (by kernel_rfl) (by kernel_rfl) (by kernel_rfl) (fun _ _ _ h => h) (Or.inl ⟨by rfl, ?_⟩) (by assumption) ?_
  rotate_left
  · (intro w hSw; (try dsimp only at hSw); go_simp; try with_reducible rfl)
  try simp only [Act.put, List.setIfInBounds_toArray, List.set_cons_zero, List.set_cons_succ]
  refine wpAnyH_take (i := 3) (oi := { dst := some 46, op := Op.move (Operand.tmp 6), type := 26, pos := "law.go:91", after := #[], guard := none }) (v := ?_) rfl (by kernel_rfl) (by kernel_rfl) (by kernel_rfl) (fun _ _ _ h => h) (Or.inl ⟨by rfl, ?_⟩) (by assumption) ?_
  rotate_left
  · (intro w hSw; (try dsimp only at hSw); go_simp; try with_reducible rfl)
  try simp only [Act.put, List.setIfInBounds_toArray, List.set_cons_zero, List.set_cons_succ]
  refine wpAnyH_take (i := 4) (oi := { dst := some 47, op := Op.binOp BinOp.add 3 (Operand.tmp 45) (Operand.tmp 46) 3, type := 3, pos := "law.go:91", after := #[{ on := 2, ground := Ground.data }, { on := 3, ground := Ground.data }], guard := none }) (v := ?_) rfl (by kernel_rfl) (by kernel_rfl) (by kernel_rfl) (fun _ _ _ h => h) (Or.inl ⟨by rfl, ?_⟩) (by assumption) ?_
  rotate_left
  · (intro w hSw; (try dsimp only at hSw); go_simp; try with_reducible rfl)
  try simp only [Act.put, List.setIfInBounds_toArray, List.set_cons_zero, List.set_cons_succ]
  refine wpAnyH_take (i := 5) (oi := { dst := some 48, op := Op.move (Operand.tmp 8), type := 26, pos := "law.go:91", after := #[], guard := none }) (v := ?_) rfl (by kernel_rfl) (by kernel_rfl) (by kernel_rfl) (fun _ _ _ h => h) (Or.inl ⟨by rfl, ?_⟩) (by assumption) ?_
  rotate_left
  · (intro w hSw; (try dsimp only at hSw); go_simp; try with_reducible rfl)
  try simp only [Act.put, List.setIfInBounds_toArray, List.set_cons_zero, List.set_cons_succ]
  refine wpAnyH_take (i := 6) (oi := { dst := some 49, op := Op.binOp BinOp.add 3 (Operand.tmp 47) (Operand.tmp 48) 3, type := 3, pos := "law.go:91", after := #[{ on := 4, ground := Ground.data }, { on := 5, ground := Ground.data }], guard := none }) (v := ?_) rfl (by kernel_rfl) (by kernel_rfl) (by kernel_rfl) (fun _ _ _ h => h) (Or.inl ⟨by rfl, ?_⟩) (by assumption) ?_
  rotate_left
  · (intro w hSw; (try dsimp only at hSw); go_simp; try with_reducible rfl)
  try simp only [Act.put, List.setIfInBounds_toArray, List.set_cons_zero, List.set_cons_succ]
  refine wpAnyH_take (i := 7) (oi := { dst := some 50, op := Op.binOp BinOp.eql 3 (Operand.tmp 49) (Operand.const (Value.int IntKind.i64 0)) 3, type := 4, pos := "law.go:91", after := #[{ on := 6, ground := Ground.data }], guard := none }) (v := ?_) rfl (by kernel_rfl) (by kernel_rfl) (by kernel_rfl) (fun _ _ _ h => h) (Or.inl ⟨by rfl, ?_⟩) (by assumption) ?_
  rotate_left
  · (intro w hSw; (try dsimp only at hSw); go_simp; try with_reducible rfl)
  try simp only [Act.put, List.setIfInBounds_toArray, List.set_cons_zero, List.set_cons_succ]
  refine wpAnyH_take (i := 8) (oi := { dst := some 51, op := Op.move (Operand.tmp 50), type := 4, pos := "law.go:91", after := #[{ on := 7, ground := Ground.data }], guard := none }) (v := ?_) rfl (by kernel_rfl) (by kernel_rfl) (by kernel_rfl) (fun _ _ _ h => h) (Or.inl ⟨by rfl, ?_⟩) (by assumption) ?_
  rotate_left
  · (intro w hSw; (try dsimp only at hSw); go_simp; try with_reducible rfl)
  try simp only [Act.put, List.setIfInBounds_toArray, List.set_cons_zero, List.set_cons_succ]
  refine wpAnyH_take (i := 9) (oi := { dst := some 52, op := Op.load 25 (Operand.tmp 1), type := 25, pos := "law.go:91", after := #[{ on := 8, ground := Ground.guard }], guard := some (8, true) }) (v := ?_) rfl (by kernel_rfl) (by kernel_rfl) (by kernel_rfl) (fun _ _ _ h => h) (Or.inl ⟨by rfl, ?_⟩) (by assumption) ?_
  rotate_left
  · (intro w hSw; (try dsimp only at hSw); (obtain ⟨⟨p1, p2, p3, p4⟩, ⟨q1, q2, q3, q4⟩, ⟨r1, r2, r3, r4⟩, s1, s2, s3, s4⟩ := hSw); go_simp; try with_reducible rfl)
  try simp only [Act.put, List.setIfInBounds_toArray, List.set_cons_zero, List.set_cons_succ]
  refine wpAnyH_ready (rs := [10]) (by kernel_rfl) (by simp) ?_
  refine AllReadyH.cons (o := { dst := some 53, op := Op.call { callee := Callee.value (Operand.func 12), args := #[Operand.const (Value.string { data := #[97, 111] })], argTypes := #[9] }, type := 25, pos := "law.go:91", after := #[{ on := 8, ground := Ground.chain }, { on := 8, ground := Ground.guard }], guard := some (8, true) }) rfl (fun K hK => ?_) AllReadyH.nil
  go_simp
  refine (Tryd.ssU ⟨#[97, 111]⟩ _).mono ?_
  rintro e V1 ⟨rfl, hb⟩
  have B1 := Lib.hid (B0.out.trans (hb.mono B0.out.size))
  have S1 := Lib.hid (KS.below S0.out hb)
  clear hb
  refine hK.out _ _ ?_ (fun hHeld => ?_)
  · exact S1.out
  clear hK K
  try simp only [Act.put, List.setIfInBounds_toArray, List.set_cons_zero, List.set_cons_succ]
  refine wpAnyH_take (i := 11) (oi := { dst := some 54, op := Op.binOp BinOp.eql 25 (Operand.tmp 52) (Operand.tmp 53) 25, type := 4, pos := "law.go:91", after := #[{ on := 9, ground := Ground.data }, { on := 10, ground := Ground.data }, { on := 8, ground := Ground.guard }], guard := some (8, true) }) (v := ?_) rfl (by kernel_rfl) (by kernel_rfl) (by kernel_rfl) (fun _ _ _ h => h) (Or.inl ⟨by rfl, ?_⟩) (by assumption) ?_
  rotate_left
  · (intro w hSw; (try dsimp only at hSw); go_simp; try with_reducible rfl)
  try simp only [Act.put, List.setIfInBounds_toArray, List.set_cons_zero, List.set_cons_succ]
  refine wpAnyH_take (i := 12) (oi := { dst := some 55, op := Op.pick (Operand.tmp 51) (Operand.tmp 54) (Operand.const (Value.bool false)), type := 4, pos := "law.go:91", after := #[{ on := 8, ground := Ground.data }, { on := 11, ground := Ground.data }], guard := none }) (v := ?_) rfl (by kernel_rfl) (by kernel_rfl) (by kernel_rfl) (fun _ _ _ h => h) (Or.inl ⟨by rfl, ?_⟩) (by assumption) ?_
  rotate_left
  · (intro w hSw; (try dsimp only at hSw); go_simp; try with_reducible rfl)
  try simp only [Act.put, List.setIfInBounds_toArray, List.set_cons_zero, List.set_cons_succ]
  refine wpAnyH_take (i := 13) (oi := { dst := some 56, op := Op.move (Operand.tmp 55), type := 4, pos := "law.go:91", after := #[{ on := 12, ground := Ground.data }, { on := 10, ground := Ground.chain }], guard := none }) (v := ?_) rfl (by kernel_rfl) (by kernel_rfl) (by kernel_rfl) (fun _ _ _ h => h) (Or.inl ⟨by rfl, ?_⟩) (by assumption) ?_
  rotate_left
  · (intro w hSw; (try dsimp only at hSw); go_simp; try with_reducible rfl)
  try simp only [Act.put, List.setIfInBounds_toArray, List.set_cons_zero, List.set_cons_succ]
  refine wpAnyH_take (i := 14) (oi := { dst := some 57, op := Op.load 25 (Operand.tmp 3), type := 25, pos := "law.go:91", after := #[{ on := 13, ground := Ground.guard }], guard := some (13, true) }) (v := ?_) rfl (by kernel_rfl) (by kernel_rfl) (by kernel_rfl) (fun _ _ _ h => h) (Or.inl ⟨by rfl, ?_⟩) (by assumption) ?_
  rotate_left
  · (intro w hSw; (try dsimp only at hSw); (obtain ⟨⟨p1, p2, p3, p4⟩, ⟨q1, q2, q3, q4⟩, ⟨r1, r2, r3, r4⟩, s1, s2, s3, s4⟩ := hSw); go_simp; try with_reducible rfl)
  try simp only [Act.put, List.setIfInBounds_toArray, List.set_cons_zero, List.set_cons_succ]
  refine wpAnyH_ready (rs := [15]) (by kernel_rfl) (by simp) ?_
  refine AllReadyH.cons (o := { dst := some 58, op := Op.call { callee := Callee.value (Operand.func 14), args := #[Operand.const (Value.int IntKind.i64 (-7))], argTypes := #[2] }, type := 25, pos := "law.go:91", after := #[{ on := 13, ground := Ground.chain }, { on := 13, ground := Ground.guard }], guard := some (13, true) }) rfl (fun K hK => ?_) AllReadyH.nil
  go_simp
  refine (Tryd.nnU (-7) _).mono ?_
  rintro e V2 ⟨rfl, hb⟩
  have B2 := Lib.hid (B1.out.trans (hb.mono B1.out.size))
  have S2 := Lib.hid (KS.below S1.out hb)
  clear hb
  refine hK.out _ _ ?_ (fun hHeld => ?_)
  · exact S2.out
  clear hK K
  try simp only [Act.put, List.setIfInBounds_toArray, List.set_cons_zero, List.set_cons_succ]
  refine wpAnyH_take (i := 16) (oi := { dst := some 59, op := Op.binOp BinOp.eql 25 (Operand.tmp 57) (Operand.tmp 58) 25, type := 4, pos := "law.go:91", after := #[{ on := 14, ground := Ground.data }, { on := 15, ground := Ground.data }, { on := 13, ground := Ground.guard }], guard := some (13, true) }) (v := ?_) rfl (by kernel_rfl) (by kernel_rfl) (by kernel_rfl) (fun _ _ _ h => h) (Or.inl ⟨by rfl, ?_⟩) (by assumption) ?_
  rotate_left
  · (intro w hSw; (try dsimp only at hSw); go_simp; try with_reducible rfl)
  try simp only [Act.put, List.setIfInBounds_toArray, List.set_cons_zero, List.set_cons_succ]
  refine wpAnyH_take (i := 17) (oi := { dst := some 60, op := Op.pick (Operand.tmp 56) (Operand.tmp 59) (Operand.const (Value.bool false)), type := 4, pos := "law.go:91", after := #[{ on := 13, ground := Ground.data }, { on := 16, ground := Ground.data }], guard := none }) (v := ?_) rfl (by kernel_rfl) (by kernel_rfl) (by kernel_rfl) (fun _ _ _ h => h) (Or.inl ⟨by rfl, ?_⟩) (by assumption) ?_
  rotate_left
  · (intro w hSw; (try dsimp only at hSw); go_simp; try with_reducible rfl)
  try simp only [Act.put, List.setIfInBounds_toArray, List.set_cons_zero, List.set_cons_succ]
  refine wpAnyH_take (i := 18) (oi := { dst := some 61, op := Op.move (Operand.tmp 60), type := 4, pos := "law.go:91", after := #[{ on := 17, ground := Ground.data }, { on := 15, ground := Ground.chain }], guard := none }) (v := ?_) rfl (by kernel_rfl) (by kernel_rfl) (by kernel_rfl) (fun _ _ _ h => h) (Or.inl ⟨by rfl, ?_⟩) (by assumption) ?_
  rotate_left
  · (intro w hSw; (try dsimp only at hSw); go_simp; try with_reducible rfl)
  try simp only [Act.put, List.setIfInBounds_toArray, List.set_cons_zero, List.set_cons_succ]
  refine wpAnyH_take (i := 19) (oi := { dst := some 62, op := Op.load 25 (Operand.tmp 5), type := 25, pos := "law.go:91", after := #[{ on := 18, ground := Ground.guard }], guard := some (18, true) }) (v := ?_) rfl (by kernel_rfl) (by kernel_rfl) (by kernel_rfl) (fun _ _ _ h => h) (Or.inl ⟨by rfl, ?_⟩) (by assumption) ?_
  rotate_left
  · (intro w hSw; (try dsimp only at hSw); (obtain ⟨⟨p1, p2, p3, p4⟩, ⟨q1, q2, q3, q4⟩, ⟨r1, r2, r3, r4⟩, s1, s2, s3, s4⟩ := hSw); go_simp; try with_reducible rfl)
  try simp only [Act.put, List.setIfInBounds_toArray, List.set_cons_zero, List.set_cons_succ]
  as_aux_lemma =>
    refine wpAnyH_ready (rs := [20]) (by kernel_rfl) (by simp) ?_
    refine AllReadyH.cons (o := { dst := some 63, op := Op.call { callee := Callee.value (Operand.func 16), args := #[Operand.const (Value.int IntKind.i64 (-1)), Operand.const (Value.int IntKind.i64 2)], argTypes := #[3, 3] }, type := 25, pos := "law.go:91", after := #[{ on := 18, ground := Ground.chain }, { on := 18, ground := Ground.guard }], guard := some (18, true) }) rfl (fun K hK => ?_) AllReadyH.nil
    go_simp
    refine (cvtU (-1) _ cM1 2 _ c2 _).mono ?_
    rintro e V3 ⟨rfl, hb⟩
    have B3 := Lib.hid (B2.out.trans (hb.mono B2.out.size))
    have S3 := Lib.hid (KS.below S2.out hb)
    clear hb
    refine hK.out _ _ ?_ (fun hHeld => ?_)
    · exact S3.out
    clear hK K
    try simp only [Act.put, List.setIfInBounds_toArray, List.set_cons_zero, List.set_cons_succ]
    refine wpAnyH_take (i := 21) (oi := { dst := some 64, op := Op.binOp BinOp.eql 25 (Operand.tmp 62) (Operand.tmp 63) 25, type := 4, pos := "law.go:91", after := #[{ on := 19, ground := Ground.data }, { on := 20, ground := Ground.data }, { on := 18, ground := Ground.guard }], guard := some (18, true) }) (v := ?_) rfl (by kernel_rfl) (by kernel_rfl) (by kernel_rfl) (fun _ _ _ h => h) (Or.inl ⟨by rfl, ?_⟩) (by assumption) ?_
    rotate_left
    · (intro w hSw; (try dsimp only at hSw); go_simp; try with_reducible rfl)
    try simp only [Act.put, List.setIfInBounds_toArray, List.set_cons_zero, List.set_cons_succ]
    refine wpAnyH_take (i := 22) (oi := { dst := some 65, op := Op.pick (Operand.tmp 61) (Operand.tmp 64) (Operand.const (Value.bool false)), type := 4, pos := "law.go:91", after := #[{ on := 18, ground := Ground.data }, { on := 21, ground := Ground.data }], guard := none }) (v := ?_) rfl (by kernel_rfl) (by kernel_rfl) (by kernel_rfl) (fun _ _ _ h => h) (Or.inl ⟨by rfl, ?_⟩) (by assumption) ?_
    rotate_left
    · (intro w hSw; (try dsimp only at hSw); go_simp; try with_reducible rfl)
    try simp only [Act.put, List.setIfInBounds_toArray, List.set_cons_zero, List.set_cons_succ]
    refine wpAnyH_take (i := 23) (oi := { dst := some 66, op := Op.move (Operand.tmp 65), type := 4, pos := "law.go:91", after := #[{ on := 22, ground := Ground.data }, { on := 20, ground := Ground.chain }], guard := none }) (v := ?_) rfl (by kernel_rfl) (by kernel_rfl) (by kernel_rfl) (fun _ _ _ h => h) (Or.inl ⟨by rfl, ?_⟩) (by assumption) ?_
    rotate_left
    · (intro w hSw; (try dsimp only at hSw); go_simp; try with_reducible rfl)
    try simp only [Act.put, List.setIfInBounds_toArray, List.set_cons_zero, List.set_cons_succ]
    refine wpAnyH_take (i := 24) (oi := { dst := some 67, op := Op.load 25 (Operand.tmp 7), type := 25, pos := "law.go:91", after := #[{ on := 23, ground := Ground.guard }], guard := some (23, true) }) (v := ?_) rfl (by kernel_rfl) (by kernel_rfl) (by kernel_rfl) (fun _ _ _ h => h) (Or.inl ⟨by rfl, ?_⟩) (by assumption) ?_
    rotate_left
    · (intro w hSw; (try dsimp only at hSw); (obtain ⟨⟨p1, p2, p3, p4⟩, ⟨q1, q2, q3, q4⟩, ⟨r1, r2, r3, r4⟩, s1, s2, s3, s4⟩ := hSw); go_simp; try with_reducible rfl)
    try simp only [Act.put, List.setIfInBounds_toArray, List.set_cons_zero, List.set_cons_succ]
    refine wpAnyH_take (i := 25) (oi := { dst := some 68, op := Op.build 25 #[], type := 25, pos := "law.go:91", after := #[{ on := 23, ground := Ground.guard }], guard := some (23, true) }) (v := ?_) rfl (by kernel_rfl) (by kernel_rfl) (by kernel_rfl) (fun _ _ _ h => h) (Or.inl ⟨by rfl, ?_⟩) (by assumption) ?_
    rotate_left
    · (intro w hSw; (try dsimp only at hSw); go_simp; try with_reducible rfl)
    try simp only [Act.put, List.setIfInBounds_toArray, List.set_cons_zero, List.set_cons_succ]
    refine wpAnyH_take (i := 26) (oi := { dst := some 69, op := Op.binOp BinOp.eql 25 (Operand.tmp 67) (Operand.tmp 68) 25, type := 4, pos := "law.go:91", after := #[{ on := 24, ground := Ground.data }, { on := 25, ground := Ground.data }, { on := 23, ground := Ground.guard }], guard := some (23, true) }) (v := ?_) rfl (by kernel_rfl) (by kernel_rfl) (by kernel_rfl) (fun _ _ _ h => h) (Or.inl ⟨by rfl, ?_⟩) (by assumption) ?_
    rotate_left
    · (intro w hSw; (try dsimp only at hSw); go_simp; try with_reducible rfl)
    try simp only [Act.put, List.setIfInBounds_toArray, List.set_cons_zero, List.set_cons_succ]
    refine wpAnyH_take (i := 27) (oi := { dst := some 70, op := Op.pick (Operand.tmp 66) (Operand.tmp 69) (Operand.const (Value.bool false)), type := 4, pos := "law.go:91", after := #[{ on := 23, ground := Ground.data }, { on := 26, ground := Ground.data }], guard := none }) (v := ?_) rfl (by kernel_rfl) (by kernel_rfl) (by kernel_rfl) (fun _ _ _ h => h) (Or.inl ⟨by rfl, ?_⟩) (by assumption) ?_
    rotate_left
    · (intro w hSw; (try dsimp only at hSw); go_simp; try with_reducible rfl)
    try simp only [Act.put, List.setIfInBounds_toArray, List.set_cons_zero, List.set_cons_succ]
    refine wpAnyH_take (i := 28) (oi := { dst := some 71, op := Op.move (Operand.tmp 70), type := 4, pos := "law.go:91", after := #[{ on := 27, ground := Ground.data }, { on := 23, ground := Ground.chain }], guard := none }) (v := ?_) rfl (by kernel_rfl) (by kernel_rfl) (by kernel_rfl) (fun _ _ _ h => h) (Or.inl ⟨by rfl, ?_⟩) (by assumption) ?_
    rotate_left
    · (intro w hSw; (try dsimp only at hSw); go_simp; try with_reducible rfl)
    try simp only [Act.put, List.setIfInBounds_toArray, List.set_cons_zero, List.set_cons_succ]
    refine wpAnyH_take (i := 29) (oi := { dst := some 72, op := Op.move (Operand.tmp 10), type := 26, pos := "law.go:91", after := #[{ on := 28, ground := Ground.guard }], guard := some (28, true) }) (v := ?_) rfl (by kernel_rfl) (by kernel_rfl) (by kernel_rfl) (fun _ _ _ h => h) (Or.inl ⟨by rfl, ?_⟩) (by assumption) ?_
    rotate_left
    · (intro w hSw; (try dsimp only at hSw); go_simp; try with_reducible rfl)
    try simp only [Act.put, List.setIfInBounds_toArray, List.set_cons_zero, List.set_cons_succ]
    refine wpAnyH_take (i := 30) (oi := { dst := some 73, op := Op.binOp BinOp.eql 3 (Operand.tmp 72) (Operand.const (Value.int IntKind.i64 2)) 3, type := 4, pos := "law.go:91", after := #[{ on := 29, ground := Ground.data }, { on := 28, ground := Ground.guard }], guard := some (28, true) }) (v := ?_) rfl (by kernel_rfl) (by kernel_rfl) (by kernel_rfl) (fun _ _ _ h => h) (Or.inl ⟨by rfl, ?_⟩) (by assumption) ?_
    rotate_left
    · (intro w hSw; (try dsimp only at hSw); go_simp; try with_reducible rfl)
    try simp only [Act.put, List.setIfInBounds_toArray, List.set_cons_zero, List.set_cons_succ]
    refine wpAnyH_take (i := 31) (oi := { dst := some 74, op := Op.pick (Operand.tmp 71) (Operand.tmp 73) (Operand.const (Value.bool false)), type := 4, pos := "law.go:91", after := #[{ on := 28, ground := Ground.data }, { on := 30, ground := Ground.data }], guard := none }) (v := ?_) rfl (by kernel_rfl) (by kernel_rfl) (by kernel_rfl) (fun _ _ _ h => h) (Or.inl ⟨by rfl, ?_⟩) (by assumption) ?_
    rotate_left
    · (intro w hSw; (try dsimp only at hSw); go_simp; try with_reducible rfl)
    try simp only [Act.put, List.setIfInBounds_toArray, List.set_cons_zero, List.set_cons_succ]
    refine wpAnyH_take (i := 32) (oi := { dst := some 75, op := Op.move (Operand.tmp 74), type := 4, pos := "law.go:91", after := #[{ on := 31, ground := Ground.data }, { on := 28, ground := Ground.chain }], guard := none }) (v := ?_) rfl (by kernel_rfl) (by kernel_rfl) (by kernel_rfl) (fun _ _ _ h => h) (Or.inl ⟨by rfl, ?_⟩) (by assumption) ?_
    rotate_left
    · (intro w hSw; (try dsimp only at hSw); go_simp; try with_reducible rfl)
    try simp only [Act.put, List.setIfInBounds_toArray, List.set_cons_zero, List.set_cons_succ]
    refine wpAnyH_take (i := 33) (oi := { dst := some 76, op := Op.move (Operand.tmp 12), type := 26, pos := "law.go:91", after := #[{ on := 32, ground := Ground.guard }], guard := some (32, true) }) (v := ?_) rfl (by kernel_rfl) (by kernel_rfl) (by kernel_rfl) (fun _ _ _ h => h) (Or.inl ⟨by rfl, ?_⟩) (by assumption) ?_
    rotate_left
    · (intro w hSw; (try dsimp only at hSw); go_simp; try with_reducible rfl)
    try simp only [Act.put, List.setIfInBounds_toArray, List.set_cons_zero, List.set_cons_succ]
    refine wpAnyH_take (i := 34) (oi := { dst := some 77, op := Op.binOp BinOp.eql 3 (Operand.tmp 76) (Operand.const (Value.int IntKind.i64 1)) 3, type := 4, pos := "law.go:91", after := #[{ on := 33, ground := Ground.data }, { on := 32, ground := Ground.guard }], guard := some (32, true) }) (v := ?_) rfl (by kernel_rfl) (by kernel_rfl) (by kernel_rfl) (fun _ _ _ h => h) (Or.inl ⟨by rfl, ?_⟩) (by assumption) ?_
    rotate_left
    · (intro w hSw; (try dsimp only at hSw); go_simp; try with_reducible rfl)
    try simp only [Act.put, List.setIfInBounds_toArray, List.set_cons_zero, List.set_cons_succ]
    refine wpAnyH_take (i := 35) (oi := { dst := some 78, op := Op.pick (Operand.tmp 75) (Operand.tmp 77) (Operand.const (Value.bool false)), type := 4, pos := "law.go:91", after := #[{ on := 32, ground := Ground.data }, { on := 34, ground := Ground.data }], guard := none }) (v := ?_) rfl (by kernel_rfl) (by kernel_rfl) (by kernel_rfl) (fun _ _ _ h => h) (Or.inl ⟨by rfl, ?_⟩) (by assumption) ?_
    rotate_left
    · (intro w hSw; (try dsimp only at hSw); go_simp; try with_reducible rfl)
    try simp only [Act.put, List.setIfInBounds_toArray, List.set_cons_zero, List.set_cons_succ]
    refine wpAnyH_take (i := 36) (oi := { dst := some 79, op := Op.move (Operand.tmp 78), type := 4, pos := "law.go:91", after := #[{ on := 35, ground := Ground.data }, { on := 32, ground := Ground.chain }], guard := none }) (v := ?_) rfl (by kernel_rfl) (by kernel_rfl) (by kernel_rfl) (fun _ _ _ h => h) (Or.inl ⟨by rfl, ?_⟩) (by assumption) ?_
    rotate_left
    · (intro w hSw; (try dsimp only at hSw); go_simp; try with_reducible rfl)
    try simp only [Act.put, List.setIfInBounds_toArray, List.set_cons_zero, List.set_cons_succ]
    refine wpAnyH_take (i := 37) (oi := { dst := some 80, op := Op.move (Operand.tmp 14), type := 26, pos := "law.go:91", after := #[{ on := 36, ground := Ground.guard }], guard := some (36, true) }) (v := ?_) rfl (by kernel_rfl) (by kernel_rfl) (by kernel_rfl) (fun _ _ _ h => h) (Or.inl ⟨by rfl, ?_⟩) (by assumption) ?_
    rotate_left
    · (intro w hSw; (try dsimp only at hSw); go_simp; try with_reducible rfl)
    try simp only [Act.put, List.setIfInBounds_toArray, List.set_cons_zero, List.set_cons_succ]
    refine wpAnyH_take (i := 38) (oi := { dst := some 81, op := Op.binOp BinOp.eql 3 (Operand.tmp 80) (Operand.const (Value.int IntKind.i64 2)) 3, type := 4, pos := "law.go:91", after := #[{ on := 37, ground := Ground.data }, { on := 36, ground := Ground.guard }], guard := some (36, true) }) (v := ?_) rfl (by kernel_rfl) (by kernel_rfl) (by kernel_rfl) (fun _ _ _ h => h) (Or.inl ⟨by rfl, ?_⟩) (by assumption) ?_
    rotate_left
    · (intro w hSw; (try dsimp only at hSw); go_simp; try with_reducible rfl)
    try simp only [Act.put, List.setIfInBounds_toArray, List.set_cons_zero, List.set_cons_succ]
    refine wpAnyH_take (i := 39) (oi := { dst := some 82, op := Op.pick (Operand.tmp 79) (Operand.tmp 81) (Operand.const (Value.bool false)), type := 4, pos := "law.go:91", after := #[{ on := 36, ground := Ground.data }, { on := 38, ground := Ground.data }], guard := none }) (v := ?_) rfl (by kernel_rfl) (by kernel_rfl) (by kernel_rfl) (fun _ _ _ h => h) (Or.inl ⟨by rfl, ?_⟩) (by assumption) ?_
    rotate_left
    · (intro w hSw; (try dsimp only at hSw); go_simp; try with_reducible rfl)
    try simp only [Act.put, List.setIfInBounds_toArray, List.set_cons_zero, List.set_cons_succ]
    refine wpAnyH_take (i := 40) (oi := { dst := some 83, op := Op.move (Operand.tmp 82), type := 4, pos := "law.go:91", after := #[{ on := 39, ground := Ground.data }, { on := 36, ground := Ground.chain }], guard := none }) (v := ?_) rfl (by kernel_rfl) (by kernel_rfl) (by kernel_rfl) (fun _ _ _ h => h) (Or.inl ⟨by rfl, ?_⟩) (by assumption) ?_
    rotate_left
    · (intro w hSw; (try dsimp only at hSw); go_simp; try with_reducible rfl)
    try simp only [Act.put, List.setIfInBounds_toArray, List.set_cons_zero, List.set_cons_succ]
    refine wpAnyH_take (i := 41) (oi := { dst := some 84, op := Op.load 25 (Operand.tmp 1), type := 25, pos := "law.go:91", after := #[{ on := 40, ground := Ground.guard }], guard := some (40, true) }) (v := ?_) rfl (by kernel_rfl) (by kernel_rfl) (by kernel_rfl) (fun _ _ _ h => h) (Or.inl ⟨by rfl, ?_⟩) (by assumption) ?_
    rotate_left
    · (intro w hSw; (try dsimp only at hSw); (obtain ⟨⟨p1, p2, p3, p4⟩, ⟨q1, q2, q3, q4⟩, ⟨r1, r2, r3, r4⟩, s1, s2, s3, s4⟩ := hSw); go_simp; try with_reducible rfl)
    try simp only [Act.put, List.setIfInBounds_toArray, List.set_cons_zero, List.set_cons_succ]
    refine wpAnyH_ready (rs := [42]) (by kernel_rfl) (by simp) ?_
    refine AllReadyH.cons (o := { dst := some 85, op := Op.call { callee := Callee.value (Operand.func 10), args := #[Operand.tmp 84], argTypes := #[25] }, type := 9, pos := "law.go:91", after := #[{ on := 41, ground := Ground.data }, { on := 40, ground := Ground.chain }, { on := 40, ground := Ground.guard }], guard := some (40, true) }) rfl (fun K hK => ?_) AllReadyH.nil
    go_simp
    refine (hT1 _).mono ?_
    rintro e V4 ⟨rfl, hb⟩
    have B4 := Lib.hid (B3.out.trans (hb.mono B3.out.size))
    have S4 := Lib.hid (KS.below S3.out hb)
    clear hb
    refine hK.out _ _ ?_ (fun hHeld => ?_)
    · exact S4.out
    clear hK K
    try simp only [Act.put, List.setIfInBounds_toArray, List.set_cons_zero, List.set_cons_succ]
    refine wpAnyH_take (i := 43) (oi := { dst := some 86, op := Op.binOp BinOp.eql 9 (Operand.tmp 85) (Operand.const (Value.string { data := #[34, 54, 49, 54, 102] })) 9, type := 4, pos := "law.go:91", after := #[{ on := 42, ground := Ground.data }, { on := 40, ground := Ground.guard }], guard := some (40, true) }) (v := ?_) rfl (by kernel_rfl) (by kernel_rfl) (by kernel_rfl) (fun _ _ _ h => h) (Or.inl ⟨by rfl, ?_⟩) (by assumption) ?_
    rotate_left
    · (intro w hSw; (try dsimp only at hSw); go_simp; try with_reducible rfl)
    try simp only [Act.put, List.setIfInBounds_toArray, List.set_cons_zero, List.set_cons_succ]
    refine wpAnyH_take (i := 44) (oi := { dst := some 87, op := Op.pick (Operand.tmp 83) (Operand.tmp 86) (Operand.const (Value.bool false)), type := 4, pos := "law.go:91", after := #[{ on := 40, ground := Ground.data }, { on := 43, ground := Ground.data }], guard := none }) (v := ?_) rfl (by kernel_rfl) (by kernel_rfl) (by kernel_rfl) (fun _ _ _ h => h) (Or.inl ⟨by rfl, ?_⟩) (by assumption) ?_
    rotate_left
    · (intro w hSw; (try dsimp only at hSw); go_simp; try with_reducible rfl)
    try simp only [Act.put, List.setIfInBounds_toArray, List.set_cons_zero, List.set_cons_succ]
    as_aux_lemma =>
      refine wpAnyH_take (i := 45) (oi := { dst := some 88, op := Op.move (Operand.tmp 87), type := 4, pos := "law.go:91", after := #[{ on := 44, ground := Ground.data }, { on := 42, ground := Ground.chain }], guard := none }) (v := ?_) rfl (by kernel_rfl) (by kernel_rfl) (by kernel_rfl) (fun _ _ _ h => h) (Or.inl ⟨by rfl, ?_⟩) (by assumption) ?_
      rotate_left
      · (intro w hSw; (try dsimp only at hSw); go_simp; try with_reducible rfl)
      try simp only [Act.put, List.setIfInBounds_toArray, List.set_cons_zero, List.set_cons_succ]
      refine wpAnyH_take (i := 46) (oi := { dst := some 89, op := Op.load 25 (Operand.tmp 5), type := 25, pos := "law.go:91", after := #[{ on := 45, ground := Ground.guard }], guard := some (45, true) }) (v := ?_) rfl (by kernel_rfl) (by kernel_rfl) (by kernel_rfl) (fun _ _ _ h => h) (Or.inl ⟨by rfl, ?_⟩) (by assumption) ?_
      rotate_left
      · (intro w hSw; (try dsimp only at hSw); (obtain ⟨⟨p1, p2, p3, p4⟩, ⟨q1, q2, q3, q4⟩, ⟨r1, r2, r3, r4⟩, s1, s2, s3, s4⟩ := hSw); go_simp; try with_reducible rfl)
      try simp only [Act.put, List.setIfInBounds_toArray, List.set_cons_zero, List.set_cons_succ]
      refine wpAnyH_ready (rs := [47]) (by kernel_rfl) (by simp) ?_
      refine AllReadyH.cons (o := { dst := some 90, op := Op.call { callee := Callee.value (Operand.func 10), args := #[Operand.tmp 89], argTypes := #[25] }, type := 9, pos := "law.go:91", after := #[{ on := 46, ground := Ground.data }, { on := 45, ground := Ground.chain }, { on := 45, ground := Ground.guard }], guard := some (45, true) }) rfl (fun K hK => ?_) AllReadyH.nil
      go_simp
      refine (Tryd.textP (HD.out.on (B4.out.mono hB)) (Nat.le_trans hB B4.out.size)).mono ?_
      rintro e V5 ⟨rfl, hb⟩
      have B5 := Lib.hid (B4.out.trans (hb.mono B4.out.size))
      have S5 := Lib.hid (KS.below S4.out hb)
      clear hb
      refine hK.out _ _ ?_ (fun hHeld => ?_)
      · exact S5.out
      clear hK K
      try simp only [Act.put, List.setIfInBounds_toArray, List.set_cons_zero, List.set_cons_succ]
      refine wpAnyH_take (i := 48) (oi := { dst := some 91, op := Op.binOp BinOp.eql 9 (Operand.tmp 90) (Operand.const (Value.string { data := #[45, 49, 43, 50, 105] })) 9, type := 4, pos := "law.go:91", after := #[{ on := 47, ground := Ground.data }, { on := 45, ground := Ground.guard }], guard := some (45, true) }) (v := ?_) rfl (by kernel_rfl) (by kernel_rfl) (by kernel_rfl) (fun _ _ _ h => h) (Or.inl ⟨by rfl, ?_⟩) (by assumption) ?_
      rotate_left
      · (intro w hSw; (try dsimp only at hSw); go_simp; try with_reducible rfl)
      try simp only [Act.put, List.setIfInBounds_toArray, List.set_cons_zero, List.set_cons_succ]
      refine wpAnyH_take (i := 49) (oi := { dst := some 92, op := Op.pick (Operand.tmp 88) (Operand.tmp 91) (Operand.const (Value.bool false)), type := 4, pos := "law.go:91", after := #[{ on := 45, ground := Ground.data }, { on := 48, ground := Ground.data }], guard := none }) (v := ?_) rfl (by kernel_rfl) (by kernel_rfl) (by kernel_rfl) (fun _ _ _ h => h) (Or.inl ⟨by rfl, ?_⟩) (by assumption) ?_
      rotate_left
      · (intro w hSw; (try dsimp only at hSw); go_simp; try with_reducible rfl)
      try simp only [Act.put, List.setIfInBounds_toArray, List.set_cons_zero, List.set_cons_succ]
      refine wpAnyH_take (i := 50) (oi := { dst := some 93, op := Op.move (Operand.tmp 92), type := 4, pos := "law.go:91", after := #[{ on := 49, ground := Ground.data }, { on := 47, ground := Ground.chain }], guard := none }) (v := ?_) rfl (by kernel_rfl) (by kernel_rfl) (by kernel_rfl) (fun _ _ _ h => h) (Or.inl ⟨by rfl, ?_⟩) (by assumption) ?_
      rotate_left
      · (intro w hSw; (try dsimp only at hSw); go_simp; try with_reducible rfl)
      try simp only [Act.put, List.setIfInBounds_toArray, List.set_cons_zero, List.set_cons_succ]
      refine wpAnyH_take (i := 51) (oi := { dst := some 94, op := Op.load 25 (Operand.tmp 7), type := 25, pos := "law.go:91", after := #[{ on := 50, ground := Ground.guard }], guard := some (50, true) }) (v := ?_) rfl (by kernel_rfl) (by kernel_rfl) (by kernel_rfl) (fun _ _ _ h => h) (Or.inl ⟨by rfl, ?_⟩) (by assumption) ?_
      rotate_left
      · (intro w hSw; (try dsimp only at hSw); (obtain ⟨⟨p1, p2, p3, p4⟩, ⟨q1, q2, q3, q4⟩, ⟨r1, r2, r3, r4⟩, s1, s2, s3, s4⟩ := hSw); go_simp; try with_reducible rfl)
      try simp only [Act.put, List.setIfInBounds_toArray, List.set_cons_zero, List.set_cons_succ]
      refine wpAnyH_ready (rs := [52]) (by kernel_rfl) (by simp) ?_
      refine AllReadyH.cons (o := { dst := some 95, op := Op.call { callee := Callee.value (Operand.func 10), args := #[Operand.tmp 94], argTypes := #[25] }, type := 9, pos := "law.go:91", after := #[{ on := 51, ground := Ground.data }, { on := 50, ground := Ground.chain }, { on := 50, ground := Ground.guard }], guard := some (50, true) }) rfl (fun K hK => ?_) AllReadyH.nil
      go_simp
      refine (Tryd.text0 _).mono ?_
      rintro e V6 ⟨rfl, hb⟩
      have B6 := Lib.hid (B5.out.trans (hb.mono B5.out.size))
      have S6 := Lib.hid (KS.below S5.out hb)
      clear hb
      refine hK.out _ _ ?_ (fun hHeld => ?_)
      · exact S6.out
      clear hK K
      try simp only [Act.put, List.setIfInBounds_toArray, List.set_cons_zero, List.set_cons_succ]
      refine wpAnyH_take (i := 53) (oi := { dst := some 96, op := Op.binOp BinOp.eql 9 (Operand.tmp 95) (Operand.const (Value.string { data := #[45] })) 9, type := 4, pos := "law.go:91", after := #[{ on := 52, ground := Ground.data }, { on := 50, ground := Ground.guard }], guard := some (50, true) }) (v := ?_) rfl (by kernel_rfl) (by kernel_rfl) (by kernel_rfl) (fun _ _ _ h => h) (Or.inl ⟨by rfl, ?_⟩) (by assumption) ?_
      rotate_left
      · (intro w hSw; (try dsimp only at hSw); go_simp; try with_reducible rfl)
      try simp only [Act.put, List.setIfInBounds_toArray, List.set_cons_zero, List.set_cons_succ]
      refine wpAnyH_take (i := 54) (oi := { dst := some 97, op := Op.pick (Operand.tmp 93) (Operand.tmp 96) (Operand.const (Value.bool false)), type := 4, pos := "law.go:91", after := #[{ on := 50, ground := Ground.data }, { on := 53, ground := Ground.data }], guard := none }) (v := ?_) rfl (by kernel_rfl) (by kernel_rfl) (by kernel_rfl) (fun _ _ _ h => h) (Or.inl ⟨by rfl, ?_⟩) (by assumption) ?_
      rotate_left
      · (intro w hSw; (try dsimp only at hSw); go_simp; try with_reducible rfl)
      try simp only [Act.put, List.setIfInBounds_toArray, List.set_cons_zero, List.set_cons_succ]
      refine wpAnyH_take (i := 55) (oi := { dst := some 98, op := Op.move (Operand.tmp 97), type := 4, pos := "law.go:91", after := #[{ on := 54, ground := Ground.data }, { on := 52, ground := Ground.chain }], guard := none }) (v := ?_) rfl (by kernel_rfl) (by kernel_rfl) (by kernel_rfl) (fun _ _ _ h => h) (Or.inl ⟨by rfl, ?_⟩) (by assumption) ?_
      rotate_left
      · (intro w hSw; (try dsimp only at hSw); go_simp; try with_reducible rfl)
      try simp only [Act.put, List.setIfInBounds_toArray, List.set_cons_zero, List.set_cons_succ]
      refine wpAnyH_ready (rs := [56]) (by kernel_rfl) (by simp) ?_
      refine AllReadyH.cons (o := { dst := some 99, op := Op.call { callee := Callee.value (Operand.func 14), args := #[Operand.const (Value.int IntKind.i64 9)], argTypes := #[2] }, type := 25, pos := "law.go:91", after := #[{ on := 55, ground := Ground.chain }, { on := 55, ground := Ground.guard }], guard := some (55, true) }) rfl (fun K hK => ?_) AllReadyH.nil
      go_simp
      refine (Tryd.nnU 9 _).mono ?_
      rintro e V7 ⟨rfl, hb⟩
      have B7 := Lib.hid (B6.out.trans (hb.mono B6.out.size))
      have S7 := Lib.hid (KS.below S6.out hb)
      clear hb
      refine hK.out _ _ ?_ (fun hHeld => ?_)
      · exact S7.out
      clear hK K
      try simp only [Act.put, List.setIfInBounds_toArray, List.set_cons_zero, List.set_cons_succ]
      refine wpAnyH_ready (rs := [57]) (by kernel_rfl) (by simp) ?_
      refine AllReadyH.cons (o := { dst := some 100, op := Op.call { callee := Callee.value (Operand.func 12), args := #[Operand.const (Value.string { data := #[] })], argTypes := #[9] }, type := 25, pos := "law.go:91", after := #[{ on := 56, ground := Ground.chain }, { on := 55, ground := Ground.guard }], guard := some (55, true) }) rfl (fun K hK => ?_) AllReadyH.nil
      go_simp
      refine (Tryd.ssU ⟨#[]⟩ _).mono ?_
      rintro e V8 ⟨rfl, hb⟩
      have B8 := Lib.hid (B7.out.trans (hb.mono B7.out.size))
      have S8 := Lib.hid (KS.below S7.out hb)
      clear hb
      refine hK.out _ _ ?_ (fun hHeld => ?_)
      · exact S8.out
      clear hK K
      try simp only [Act.put, List.setIfInBounds_toArray, List.set_cons_zero, List.set_cons_succ]
      refine wpAnyH_ready (rs := [58]) (by kernel_rfl) (by simp) ?_
      refine AllReadyH.cons (o := { dst := some 101, op := Op.call { callee := Callee.value (Operand.func 13), args := #[Operand.tmp 99, Operand.tmp 100], argTypes := #[25, 25] }, type := 3, pos := "law.go:91", after := #[{ on := 56, ground := Ground.data }, { on := 57, ground := Ground.data }, { on := 57, ground := Ground.chain }, { on := 55, ground := Ground.guard }], guard := some (55, true) }) rfl (fun K hK => ?_) AllReadyH.nil
      go_simp
      refine (Tryd.compareK 9 ⟨#[]⟩ _).mono ?_
      rintro e V9 ⟨rfl, hb⟩
      have B9 := Lib.hid (B8.out.trans (hb.mono B8.out.size))
      have S9 := Lib.hid (KS.below S8.out hb)
      clear hb
      refine hK.out _ _ ?_ (fun hHeld => ?_)
      · exact S9.out
      clear hK K
      try simp only [Act.put, List.setIfInBounds_toArray, List.set_cons_zero, List.set_cons_succ]
      refine wpAnyH_take (i := 59) (oi := { dst := some 102, op := Op.binOp BinOp.eql 3 (Operand.tmp 101) (Operand.const (Value.int IntKind.i64 (-1))) 3, type := 4, pos := "law.go:91", after := #[{ on := 58, ground := Ground.data }, { on := 55, ground := Ground.guard }], guard := some (55, true) }) (v := ?_) rfl (by kernel_rfl) (by kernel_rfl) (by kernel_rfl) (fun _ _ _ h => h) (Or.inl ⟨by rfl, ?_⟩) (by assumption) ?_
      rotate_left
      · (intro w hSw; (try dsimp only at hSw); go_simp; try with_reducible rfl)
      try simp only [Act.put, List.setIfInBounds_toArray, List.set_cons_zero, List.set_cons_succ]
      refine wpAnyH_take (i := 60) (oi := { dst := some 103, op := Op.pick (Operand.tmp 98) (Operand.tmp 102) (Operand.const (Value.bool false)), type := 4, pos := "law.go:91", after := #[{ on := 55, ground := Ground.data }, { on := 59, ground := Ground.data }], guard := none }) (v := ?_) rfl (by kernel_rfl) (by kernel_rfl) (by kernel_rfl) (fun _ _ _ h => h) (Or.inl ⟨by rfl, ?_⟩) (by assumption) ?_
      rotate_left
      · (intro w hSw; (try dsimp only at hSw); go_simp; try with_reducible rfl)
      try simp only [Act.put, List.setIfInBounds_toArray, List.set_cons_zero, List.set_cons_succ]
      refine wpAnyH_take (i := 61) (oi := { dst := some 104, op := Op.move (Operand.tmp 103), type := 4, pos := "law.go:91", after := #[{ on := 60, ground := Ground.data }, { on := 58, ground := Ground.chain }], guard := none }) (v := ?_) rfl (by kernel_rfl) (by kernel_rfl) (by kernel_rfl) (fun _ _ _ h => h) (Or.inl ⟨by rfl, ?_⟩) (by assumption) ?_
      rotate_left
      · (intro w hSw; (try dsimp only at hSw); go_simp; try with_reducible rfl)
      try simp only [Act.put, List.setIfInBounds_toArray, List.set_cons_zero, List.set_cons_succ]
      refine wpAnyH_ready (rs := [62]) (by kernel_rfl) (by simp) ?_
      refine AllReadyH.cons (o := { dst := some 105, op := Op.call { callee := Callee.value (Operand.func 16), args := #[Operand.const (Value.int IntKind.i64 1), Operand.const (Value.int IntKind.i64 9)], argTypes := #[3, 3] }, type := 25, pos := "law.go:91", after := #[{ on := 61, ground := Ground.chain }, { on := 61, ground := Ground.guard }], guard := some (61, true) }) rfl (fun K hK => ?_) AllReadyH.nil
      go_simp
      refine (cvtU 1 _ c1 9 _ c9 _).mono ?_
      rintro e V10 ⟨rfl, hb⟩
      have B10 := Lib.hid (B9.out.trans (hb.mono B9.out.size))
      have S10 := Lib.hid (KS.below S9.out hb)
      clear hb
      refine hK.out _ _ ?_ (fun hHeld => ?_)
      · exact S10.out
      clear hK K
      try simp only [Act.put, List.setIfInBounds_toArray, List.set_cons_zero, List.set_cons_succ]
      refine wpAnyH_ready (rs := [63]) (by kernel_rfl) (by simp) ?_
      refine AllReadyH.cons (o := { dst := some 106, op := Op.call { callee := Callee.value (Operand.func 16), args := #[Operand.const (Value.int IntKind.i64 2), Operand.const (Value.int IntKind.i64 0)], argTypes := #[3, 3] }, type := 25, pos := "law.go:91", after := #[{ on := 62, ground := Ground.chain }, { on := 61, ground := Ground.guard }], guard := some (61, true) }) rfl (fun K hK => ?_) AllReadyH.nil
      go_simp
      refine (cvtU 2 _ c2 0 _ c0' _).mono ?_
      rintro e V11 ⟨rfl, hb⟩
      have B11 := Lib.hid (B10.out.trans (hb.mono B10.out.size))
      have S11 := Lib.hid (KS.below S10.out hb)
      clear hb
      refine hK.out _ _ ?_ (fun hHeld => ?_)
      · exact S11.out
      clear hK K
      try simp only [Act.put, List.setIfInBounds_toArray, List.set_cons_zero, List.set_cons_succ]
      refine wpAnyH_ready (rs := [64]) (by kernel_rfl) (by simp) ?_
      refine AllReadyH.cons (o := { dst := some 107, op := Op.call { callee := Callee.value (Operand.func 13), args := #[Operand.tmp 105, Operand.tmp 106], argTypes := #[25, 25] }, type := 3, pos := "law.go:91", after := #[{ on := 62, ground := Ground.data }, { on := 63, ground := Ground.data }, { on := 63, ground := Ground.chain }, { on := 61, ground := Ground.guard }], guard := some (61, true) }) rfl (fun K hK => ?_) AllReadyH.nil
      go_simp
      refine (Tryd.compareP1 _).mono ?_
      rintro e V12 ⟨rfl, hb⟩
      have B12 := Lib.hid (B11.out.trans (hb.mono B11.out.size))
      have S12 := Lib.hid (KS.below S11.out hb)
      clear hb
      refine hK.out _ _ ?_ (fun hHeld => ?_)
      · exact S12.out
      clear hK K
      try simp only [Act.put, List.setIfInBounds_toArray, List.set_cons_zero, List.set_cons_succ]
      refine wpAnyH_take (i := 65) (oi := { dst := some 108, op := Op.binOp BinOp.eql 3 (Operand.tmp 107) (Operand.const (Value.int IntKind.i64 (-1))) 3, type := 4, pos := "law.go:91", after := #[{ on := 64, ground := Ground.data }, { on := 61, ground := Ground.guard }], guard := some (61, true) }) (v := ?_) rfl (by kernel_rfl) (by kernel_rfl) (by kernel_rfl) (fun _ _ _ h => h) (Or.inl ⟨by rfl, ?_⟩) (by assumption) ?_
      rotate_left
      · (intro w hSw; (try dsimp only at hSw); go_simp; try with_reducible rfl)
      try simp only [Act.put, List.setIfInBounds_toArray, List.set_cons_zero, List.set_cons_succ]
      refine wpAnyH_take (i := 66) (oi := { dst := some 109, op := Op.pick (Operand.tmp 104) (Operand.tmp 108) (Operand.const (Value.bool false)), type := 4, pos := "law.go:91", after := #[{ on := 61, ground := Ground.data }, { on := 65, ground := Ground.data }], guard := none }) (v := ?_) rfl (by kernel_rfl) (by kernel_rfl) (by kernel_rfl) (fun _ _ _ h => h) (Or.inl ⟨by rfl, ?_⟩) (by assumption) ?_
      rotate_left
      · (intro w hSw; (try dsimp only at hSw); go_simp; try with_reducible rfl)
      try simp only [Act.put, List.setIfInBounds_toArray, List.set_cons_zero, List.set_cons_succ]
      refine wpAnyH_take (i := 67) (oi := { dst := some 110, op := Op.move (Operand.tmp 109), type := 4, pos := "law.go:91", after := #[{ on := 66, ground := Ground.data }, { on := 64, ground := Ground.chain }], guard := none }) (v := ?_) rfl (by kernel_rfl) (by kernel_rfl) (by kernel_rfl) (fun _ _ _ h => h) (Or.inl ⟨by rfl, ?_⟩) (by assumption) ?_
      rotate_left
      · (intro w hSw; (try dsimp only at hSw); go_simp; try with_reducible rfl)
      try simp only [Act.put, List.setIfInBounds_toArray, List.set_cons_zero, List.set_cons_succ]
      refine wpAnyH_ready (rs := [68]) (by kernel_rfl) (by simp) ?_
      refine AllReadyH.cons (o := { dst := some 111, op := Op.call { callee := Callee.value (Operand.func 16), args := #[Operand.const (Value.int IntKind.i64 1), Operand.const (Value.int IntKind.i64 9)], argTypes := #[3, 3] }, type := 25, pos := "law.go:91", after := #[{ on := 67, ground := Ground.chain }, { on := 67, ground := Ground.guard }], guard := some (67, true) }) rfl (fun K hK => ?_) AllReadyH.nil
      go_simp
      refine (cvtU 1 _ c1 9 _ c9 _).mono ?_
      rintro e V13 ⟨rfl, hb⟩
      have B13 := Lib.hid (B12.out.trans (hb.mono B12.out.size))
      have S13 := Lib.hid (KS.below S12.out hb)
      clear hb
      refine hK.out _ _ ?_ (fun hHeld => ?_)
      · exact S13.out
      clear hK K
      try simp only [Act.put, List.setIfInBounds_toArray, List.set_cons_zero, List.set_cons_succ]
      refine wpAnyH_ready (rs := [69]) (by kernel_rfl) (by simp) ?_
      refine AllReadyH.cons (o := { dst := some 112, op := Op.call { callee := Callee.value (Operand.func 16), args := #[Operand.const (Value.int IntKind.i64 1), Operand.const (Value.int IntKind.i64 8)], argTypes := #[3, 3] }, type := 25, pos := "law.go:91", after := #[{ on := 68, ground := Ground.chain }, { on := 67, ground := Ground.guard }], guard := some (67, true) }) rfl (fun K hK => ?_) AllReadyH.nil
      go_simp
      refine (cvtU 1 _ c1 8 _ c8 _).mono ?_
      rintro e V14 ⟨rfl, hb⟩
      have B14 := Lib.hid (B13.out.trans (hb.mono B13.out.size))
      have S14 := Lib.hid (KS.below S13.out hb)
      clear hb
      refine hK.out _ _ ?_ (fun hHeld => ?_)
      · exact S14.out
      clear hK K
      try simp only [Act.put, List.setIfInBounds_toArray, List.set_cons_zero, List.set_cons_succ]
      as_aux_lemma =>
        refine wpAnyH_ready (rs := [70]) (by kernel_rfl) (by simp) ?_
        refine AllReadyH.cons (o := { dst := some 113, op := Op.call { callee := Callee.value (Operand.func 13), args := #[Operand.tmp 111, Operand.tmp 112], argTypes := #[25, 25] }, type := 3, pos := "law.go:91", after := #[{ on := 68, ground := Ground.data }, { on := 69, ground := Ground.data }, { on := 69, ground := Ground.chain }, { on := 67, ground := Ground.guard }], guard := some (67, true) }) rfl (fun K hK => ?_) AllReadyH.nil
        go_simp
        refine (Tryd.compareP2 _).mono ?_
        rintro e V15 ⟨rfl, hb⟩
        have B15 := Lib.hid (B14.out.trans (hb.mono B14.out.size))
        have S15 := Lib.hid (KS.below S14.out hb)
        clear hb
        refine hK.out _ _ ?_ (fun hHeld => ?_)
        · exact S15.out
        clear hK K
        try simp only [Act.put, List.setIfInBounds_toArray, List.set_cons_zero, List.set_cons_succ]
        refine wpAnyH_take (i := 71) (oi := { dst := some 114, op := Op.binOp BinOp.eql 3 (Operand.tmp 113) (Operand.const (Value.int IntKind.i64 1)) 3, type := 4, pos := "law.go:91", after := #[{ on := 70, ground := Ground.data }, { on := 67, ground := Ground.guard }], guard := some (67, true) }) (v := ?_) rfl (by kernel_rfl) (by kernel_rfl) (by kernel_rfl) (fun _ _ _ h => h) (Or.inl ⟨by rfl, ?_⟩) (by assumption) ?_
        rotate_left
        · (intro w hSw; (try dsimp only at hSw); go_simp; try with_reducible rfl)
        try simp only [Act.put, List.setIfInBounds_toArray, List.set_cons_zero, List.set_cons_succ]
        refine wpAnyH_take (i := 72) (oi := { dst := some 115, op := Op.pick (Operand.tmp 110) (Operand.tmp 114) (Operand.const (Value.bool false)), type := 4, pos := "law.go:91", after := #[{ on := 67, ground := Ground.data }, { on := 71, ground := Ground.data }], guard := none }) (v := ?_) rfl (by kernel_rfl) (by kernel_rfl) (by kernel_rfl) (fun _ _ _ h => h) (Or.inl ⟨by rfl, ?_⟩) (by assumption) ?_
        rotate_left
        · (intro w hSw; (try dsimp only at hSw); go_simp; try with_reducible rfl)
        try simp only [Act.put, List.setIfInBounds_toArray, List.set_cons_zero, List.set_cons_succ]
        refine wpAnyH_take (i := 73) (oi := { dst := some 116, op := Op.move (Operand.tmp 115), type := 4, pos := "law.go:91", after := #[{ on := 72, ground := Ground.data }, { on := 70, ground := Ground.chain }], guard := none }) (v := ?_) rfl (by kernel_rfl) (by kernel_rfl) (by kernel_rfl) (fun _ _ _ h => h) (Or.inl ⟨by rfl, ?_⟩) (by assumption) ?_
        rotate_left
        · (intro w hSw; (try dsimp only at hSw); go_simp; try with_reducible rfl)
        try simp only [Act.put, List.setIfInBounds_toArray, List.set_cons_zero, List.set_cons_succ]
        refine wpAnyH_take (i := 74) (oi := { dst := some 117, op := Op.load 25 (Operand.tmp 3), type := 25, pos := "law.go:91", after := #[{ on := 73, ground := Ground.guard }], guard := some (73, true) }) (v := ?_) rfl (by kernel_rfl) (by kernel_rfl) (by kernel_rfl) (fun _ _ _ h => h) (Or.inl ⟨by rfl, ?_⟩) (by assumption) ?_
        rotate_left
        · (intro w hSw; (try dsimp only at hSw); (obtain ⟨⟨p1, p2, p3, p4⟩, ⟨q1, q2, q3, q4⟩, ⟨r1, r2, r3, r4⟩, s1, s2, s3, s4⟩ := hSw); go_simp; try with_reducible rfl)
        try simp only [Act.put, List.setIfInBounds_toArray, List.set_cons_zero, List.set_cons_succ]
        refine wpAnyH_ready (rs := [75]) (by kernel_rfl) (by simp) ?_
        refine AllReadyH.cons (o := { dst := some 118, op := Op.call { callee := Callee.value (Operand.func 14), args := #[Operand.const (Value.int IntKind.i64 (-7))], argTypes := #[2] }, type := 25, pos := "law.go:91", after := #[{ on := 73, ground := Ground.chain }, { on := 73, ground := Ground.guard }], guard := some (73, true) }) rfl (fun K hK => ?_) AllReadyH.nil
        go_simp
        refine (Tryd.nnU (-7) _).mono ?_
        rintro e V16 ⟨rfl, hb⟩
        have B16 := Lib.hid (B15.out.trans (hb.mono B15.out.size))
        have S16 := Lib.hid (KS.below S15.out hb)
        clear hb
        refine hK.out _ _ ?_ (fun hHeld => ?_)
        · exact S16.out
        clear hK K
        try simp only [Act.put, List.setIfInBounds_toArray, List.set_cons_zero, List.set_cons_succ]
        refine wpAnyH_ready (rs := [76]) (by kernel_rfl) (by simp) ?_
        refine AllReadyH.cons (o := { dst := some 119, op := Op.call { callee := Callee.value (Operand.func 15), args := #[Operand.tmp 117, Operand.tmp 118], argTypes := #[25, 25] }, type := 4, pos := "law.go:91", after := #[{ on := 74, ground := Ground.data }, { on := 75, ground := Ground.data }, { on := 75, ground := Ground.chain }, { on := 73, ground := Ground.guard }], guard := some (73, true) }) rfl (fun K hK => ?_) AllReadyH.nil
        go_simp
        refine (hSm _).mono ?_
        rintro e V17 ⟨rfl, hb⟩
        have B17 := Lib.hid (B16.out.trans (hb.mono B16.out.size))
        have S17 := Lib.hid (KS.below S16.out hb)
        clear hb
        refine hK.out _ _ ?_ (fun hHeld => ?_)
        · exact S17.out
        clear hK K
        try simp only [Act.put, List.setIfInBounds_toArray, List.set_cons_zero, List.set_cons_succ]
        refine wpAnyH_take (i := 77) (oi := { dst := some 120, op := Op.pick (Operand.tmp 116) (Operand.tmp 119) (Operand.const (Value.bool false)), type := 4, pos := "law.go:91", after := #[{ on := 73, ground := Ground.data }, { on := 76, ground := Ground.data }], guard := none }) (v := ?_) rfl (by kernel_rfl) (by kernel_rfl) (by kernel_rfl) (fun _ _ _ h => h) (Or.inl ⟨by rfl, ?_⟩) (by assumption) ?_
        rotate_left
        · (intro w hSw; (try dsimp only at hSw); go_simp; try with_reducible rfl)
        try simp only [Act.put, List.setIfInBounds_toArray, List.set_cons_zero, List.set_cons_succ]
        refine wpAnyH_take (i := 78) (oi := { dst := some 121, op := Op.move (Operand.tmp 120), type := 4, pos := "law.go:91", after := #[{ on := 77, ground := Ground.data }, { on := 76, ground := Ground.chain }], guard := none }) (v := ?_) rfl (by kernel_rfl) (by kernel_rfl) (by kernel_rfl) (fun _ _ _ h => h) (Or.inl ⟨by rfl, ?_⟩) (by assumption) ?_
        rotate_left
        · (intro w hSw; (try dsimp only at hSw); go_simp; try with_reducible rfl)
        try simp only [Act.put, List.setIfInBounds_toArray, List.set_cons_zero, List.set_cons_succ]
        refine wpAnyH_take (i := 79) (oi := { dst := some 122, op := Op.load 25 (Operand.tmp 7), type := 25, pos := "law.go:91", after := #[{ on := 78, ground := Ground.guard }], guard := some (78, true) }) (v := ?_) rfl (by kernel_rfl) (by kernel_rfl) (by kernel_rfl) (fun _ _ _ h => h) (Or.inl ⟨by rfl, ?_⟩) (by assumption) ?_
        rotate_left
        · (intro w hSw; (try dsimp only at hSw); (obtain ⟨⟨p1, p2, p3, p4⟩, ⟨q1, q2, q3, q4⟩, ⟨r1, r2, r3, r4⟩, s1, s2, s3, s4⟩ := hSw); go_simp; try with_reducible rfl)
        try simp only [Act.put, List.setIfInBounds_toArray, List.set_cons_zero, List.set_cons_succ]
        refine wpAnyH_ready (rs := [80]) (by kernel_rfl) (by simp) ?_
        refine AllReadyH.cons (o := { dst := some 123, op := Op.call { callee := Callee.value (Operand.func 17), args := #[Operand.tmp 122, Operand.const (Value.int IntKind.i64 1)], argTypes := #[25, 3] }, type := 4, pos := "law.go:91", after := #[{ on := 79, ground := Ground.data }, { on := 78, ground := Ground.chain }, { on := 78, ground := Ground.guard }], guard := some (78, true) }) rfl (fun K hK => ?_) AllReadyH.nil
        go_simp
        refine (Tryd.fits0 _).mono ?_
        rintro e V18 ⟨rfl, hb⟩
        have B18 := Lib.hid (B17.out.trans (hb.mono B17.out.size))
        have S18 := Lib.hid (KS.below S17.out hb)
        clear hb
        refine hK.out _ _ ?_ (fun hHeld => ?_)
        · exact S18.out
        clear hK K
        try simp only [Act.put, List.setIfInBounds_toArray, List.set_cons_zero, List.set_cons_succ]
        refine wpAnyH_take (i := 81) (oi := { dst := some 124, op := Op.pick (Operand.tmp 121) (Operand.tmp 123) (Operand.const (Value.bool false)), type := 4, pos := "law.go:91", after := #[{ on := 78, ground := Ground.data }, { on := 80, ground := Ground.data }], guard := none }) (v := ?_) rfl (by kernel_rfl) (by kernel_rfl) (by kernel_rfl) (fun _ _ _ h => h) (Or.inl ⟨by rfl, ?_⟩) (by assumption) ?_
        rotate_left
        · (intro w hSw; (try dsimp only at hSw); go_simp; try with_reducible rfl)
        try simp only [Act.put, List.setIfInBounds_toArray, List.set_cons_zero, List.set_cons_succ]
        refine wpAnyH_take (i := 82) (oi := { dst := some 125, op := Op.move (Operand.tmp 124), type := 4, pos := "law.go:91", after := #[{ on := 81, ground := Ground.data }, { on := 80, ground := Ground.chain }], guard := none }) (v := ?_) rfl (by kernel_rfl) (by kernel_rfl) (by kernel_rfl) (fun _ _ _ h => h) (Or.inl ⟨by rfl, ?_⟩) (by assumption) ?_
        rotate_left
        · (intro w hSw; (try dsimp only at hSw); go_simp; try with_reducible rfl)
        try simp only [Act.put, List.setIfInBounds_toArray, List.set_cons_zero, List.set_cons_succ]
        refine wpAnyH_take (i := 83) (oi := { dst := some 126, op := Op.load 25 (Operand.tmp 1), type := 25, pos := "law.go:91", after := #[{ on := 82, ground := Ground.guard }], guard := some (82, true) }) (v := ?_) rfl (by kernel_rfl) (by kernel_rfl) (by kernel_rfl) (fun _ _ _ h => h) (Or.inl ⟨by rfl, ?_⟩) (by assumption) ?_
        rotate_left
        · (intro w hSw; (try dsimp only at hSw); (obtain ⟨⟨p1, p2, p3, p4⟩, ⟨q1, q2, q3, q4⟩, ⟨r1, r2, r3, r4⟩, s1, s2, s3, s4⟩ := hSw); go_simp; try with_reducible rfl)
        try simp only [Act.put, List.setIfInBounds_toArray, List.set_cons_zero, List.set_cons_succ]
        refine wpAnyH_ready (rs := [84]) (by kernel_rfl) (by simp) ?_
        refine AllReadyH.cons (o := { dst := some 127, op := Op.call { callee := Callee.value (Operand.func 17), args := #[Operand.tmp 126, Operand.const (Value.int IntKind.i64 1)], argTypes := #[25, 3] }, type := 4, pos := "law.go:91", after := #[{ on := 83, ground := Ground.data }, { on := 82, ground := Ground.chain }, { on := 82, ground := Ground.guard }], guard := some (82, true) }) rfl (fun K hK => ?_) AllReadyH.nil
        go_simp
        refine (Tryd.fitsS _ _).mono ?_
        rintro e V19 ⟨rfl, hb⟩
        have B19 := Lib.hid (B18.out.trans (hb.mono B18.out.size))
        have S19 := Lib.hid (KS.below S18.out hb)
        clear hb
        refine hK.out _ _ ?_ (fun hHeld => ?_)
        · exact S19.out
        clear hK K
        try simp only [Act.put, List.setIfInBounds_toArray, List.set_cons_zero, List.set_cons_succ]
        refine wpAnyH_take (i := 85) (oi := { dst := some 128, op := Op.unOp UnOp.not 4 (Operand.tmp 127), type := 4, pos := "law.go:91", after := #[{ on := 84, ground := Ground.data }, { on := 82, ground := Ground.guard }], guard := some (82, true) }) (v := ?_) rfl (by kernel_rfl) (by kernel_rfl) (by kernel_rfl) (fun _ _ _ h => h) (Or.inl ⟨by rfl, ?_⟩) (by assumption) ?_
        rotate_left
        · (intro w hSw; (try dsimp only at hSw); go_simp; try with_reducible rfl)
        try simp only [Act.put, List.setIfInBounds_toArray, List.set_cons_zero, List.set_cons_succ]
        refine wpAnyH_take (i := 86) (oi := { dst := some 129, op := Op.pick (Operand.tmp 125) (Operand.tmp 128) (Operand.const (Value.bool false)), type := 4, pos := "law.go:91", after := #[{ on := 82, ground := Ground.data }, { on := 85, ground := Ground.data }], guard := none }) (v := ?_) rfl (by kernel_rfl) (by kernel_rfl) (by kernel_rfl) (fun _ _ _ h => h) (Or.inl ⟨by rfl, ?_⟩) (by assumption) ?_
        rotate_left
        · (intro w hSw; (try dsimp only at hSw); go_simp; try with_reducible rfl)
        try simp only [Act.put, List.setIfInBounds_toArray, List.set_cons_zero, List.set_cons_succ]
        refine wpAnyH_take (i := 87) (oi := { dst := some 130, op := Op.move (Operand.tmp 129), type := 4, pos := "law.go:91", after := #[{ on := 86, ground := Ground.data }, { on := 84, ground := Ground.chain }], guard := none }) (v := ?_) rfl (by kernel_rfl) (by kernel_rfl) (by kernel_rfl) (fun _ _ _ h => h) (Or.inl ⟨by rfl, ?_⟩) (by assumption) ?_
        rotate_left
        · (intro w hSw; (try dsimp only at hSw); go_simp; try with_reducible rfl)
        try simp only [Act.put, List.setIfInBounds_toArray, List.set_cons_zero, List.set_cons_succ]
        refine wpAnyH_take (i := 88) (oi := { dst := some 131, op := Op.load 25 (Operand.tmp 1), type := 25, pos := "law.go:91", after := #[{ on := 87, ground := Ground.guard }], guard := some (87, true) }) (v := ?_) rfl (by kernel_rfl) (by kernel_rfl) (by kernel_rfl) (fun _ _ _ h => h) (Or.inl ⟨by rfl, ?_⟩) (by assumption) ?_
        rotate_left
        · (intro w hSw; (try dsimp only at hSw); (obtain ⟨⟨p1, p2, p3, p4⟩, ⟨q1, q2, q3, q4⟩, ⟨r1, r2, r3, r4⟩, s1, s2, s3, s4⟩ := hSw); go_simp; try with_reducible rfl)
        try simp only [Act.put, List.setIfInBounds_toArray, List.set_cons_zero, List.set_cons_succ]
        refine wpAnyH_ready (rs := [89]) (by kernel_rfl) (by simp) ?_
        refine AllReadyH.cons (o := { dst := some 132, op := Op.call { callee := Callee.value (Operand.func 11), args := #[Operand.tmp 131], argTypes := #[25] }, type := 26, pos := "law.go:91", after := #[{ on := 88, ground := Ground.data }, { on := 87, ground := Ground.chain }, { on := 87, ground := Ground.guard }], guard := some (87, true) }) rfl (fun K hK => ?_) AllReadyH.nil
        go_simp
        refine (hV1 _).mono ?_
        rintro e V20 ⟨rfl, hb⟩
        have B20 := Lib.hid (B19.out.trans (hb.mono B19.out.size))
        have S20 := Lib.hid (KS.below S19.out hb)
        clear hb
        refine hK.out _ _ ?_ (fun hHeld => ?_)
        · exact S20.out
        clear hK K
        try simp only [Act.put, List.setIfInBounds_toArray, List.set_cons_zero, List.set_cons_succ]
        as_aux_lemma =>
          refine wpAnyH_take (i := 90) (oi := { dst := some 133, op := Op.binOp BinOp.eql 3 (Operand.tmp 132) (Operand.const (Value.int IntKind.i64 0)) 3, type := 4, pos := "law.go:91", after := #[{ on := 89, ground := Ground.data }, { on := 87, ground := Ground.guard }], guard := some (87, true) }) (v := ?_) rfl (by kernel_rfl) (by kernel_rfl) (by kernel_rfl) (fun _ _ _ h => h) (Or.inl ⟨by rfl, ?_⟩) (by assumption) ?_
          rotate_left
          · (intro w hSw; (try dsimp only at hSw); go_simp; try with_reducible rfl)
          try simp only [Act.put, List.setIfInBounds_toArray, List.set_cons_zero, List.set_cons_succ]
          refine wpAnyH_take (i := 91) (oi := { dst := some 134, op := Op.pick (Operand.tmp 130) (Operand.tmp 133) (Operand.const (Value.bool false)), type := 4, pos := "law.go:91", after := #[{ on := 87, ground := Ground.data }, { on := 90, ground := Ground.data }], guard := none }) (v := ?_) rfl (by kernel_rfl) (by kernel_rfl) (by kernel_rfl) (fun _ _ _ h => h) (Or.inl ⟨by rfl, ?_⟩) (by assumption) ?_
          rotate_left
          · (intro w hSw; (try dsimp only at hSw); go_simp; try with_reducible rfl)
          try simp only [Act.put, List.setIfInBounds_toArray, List.set_cons_zero, List.set_cons_succ]
          refine wpAnyH_take (i := 92) (oi := { dst := some 135, op := Op.move (Operand.tmp 134), type := 4, pos := "law.go:91", after := #[{ on := 91, ground := Ground.data }, { on := 89, ground := Ground.chain }], guard := none }) (v := ?_) rfl (by kernel_rfl) (by kernel_rfl) (by kernel_rfl) (fun _ _ _ h => h) (Or.inl ⟨by rfl, ?_⟩) (by assumption) ?_
          rotate_left
          · (intro w hSw; (try dsimp only at hSw); go_simp; try with_reducible rfl)
          try simp only [Act.put, List.setIfInBounds_toArray, List.set_cons_zero, List.set_cons_succ]
          refine wpAnyH_take (i := 93) (oi := { dst := some 136, op := Op.build 25 #[(1, Operand.const (Value.int IntKind.i64 1))], type := 25, pos := "law.go:91", after := #[{ on := 92, ground := Ground.guard }], guard := some (92, true) }) (v := ?_) rfl (by kernel_rfl) (by kernel_rfl) (by kernel_rfl) (fun _ _ _ h => h) (Or.inl ⟨by rfl, ?_⟩) (by assumption) ?_
          rotate_left
          · (intro w hSw; (try dsimp only at hSw); go_simp; try with_reducible rfl)
          try simp only [Act.put, List.setIfInBounds_toArray, List.set_cons_zero, List.set_cons_succ]
          refine wpAnyH_ready (rs := [94]) (by kernel_rfl) (by simp) ?_
          refine AllReadyH.cons (o := { dst := some 137, op := Op.call { callee := Callee.value (Operand.func 11), args := #[Operand.tmp 136], argTypes := #[25] }, type := 26, pos := "law.go:91", after := #[{ on := 93, ground := Ground.data }, { on := 92, ground := Ground.chain }, { on := 92, ground := Ground.guard }], guard := some (92, true) }) rfl (fun K hK => ?_) AllReadyH.nil
          go_simp
          refine (Tryd.vcheckX _).mono ?_
          rintro e V21 ⟨rfl, hb⟩
          have B21 := Lib.hid (B20.out.trans (hb.mono B20.out.size))
          have S21 := Lib.hid (KS.below S20.out hb)
          clear hb
          refine hK.out _ _ ?_ (fun hHeld => ?_)
          · exact S21.out
          clear hK K
          try simp only [Act.put, List.setIfInBounds_toArray, List.set_cons_zero, List.set_cons_succ]
          refine wpAnyH_take (i := 95) (oi := { dst := some 138, op := Op.binOp BinOp.eql 3 (Operand.tmp 137) (Operand.const (Value.int IntKind.i64 1)) 3, type := 4, pos := "law.go:91", after := #[{ on := 94, ground := Ground.data }, { on := 92, ground := Ground.guard }], guard := some (92, true) }) (v := ?_) rfl (by kernel_rfl) (by kernel_rfl) (by kernel_rfl) (fun _ _ _ h => h) (Or.inl ⟨by rfl, ?_⟩) (by assumption) ?_
          rotate_left
          · (intro w hSw; (try dsimp only at hSw); go_simp; try with_reducible rfl)
          try simp only [Act.put, List.setIfInBounds_toArray, List.set_cons_zero, List.set_cons_succ]
          refine wpAnyH_take (i := 96) (oi := { dst := some 139, op := Op.pick (Operand.tmp 135) (Operand.tmp 138) (Operand.const (Value.bool false)), type := 4, pos := "law.go:91", after := #[{ on := 92, ground := Ground.data }, { on := 95, ground := Ground.data }], guard := none }) (v := ?_) rfl (by kernel_rfl) (by kernel_rfl) (by kernel_rfl) (fun _ _ _ h => h) (Or.inl ⟨by rfl, ?_⟩) (by assumption) ?_
          rotate_left
          · (intro w hSw; (try dsimp only at hSw); go_simp; try with_reducible rfl)
          try simp only [Act.put, List.setIfInBounds_toArray, List.set_cons_zero, List.set_cons_succ]
          refine wpAnyH_take (i := 97) (oi := { dst := some 140, op := Op.move (Operand.tmp 139), type := 4, pos := "law.go:91", after := #[{ on := 96, ground := Ground.data }, { on := 94, ground := Ground.chain }], guard := none }) (v := ?_) rfl (by kernel_rfl) (by kernel_rfl) (by kernel_rfl) (fun _ _ _ h => h) (Or.inl ⟨by rfl, ?_⟩) (by assumption) ?_
          rotate_left
          · (intro w hSw; (try dsimp only at hSw); go_simp; try with_reducible rfl)
          try simp only [Act.put, List.setIfInBounds_toArray, List.set_cons_zero, List.set_cons_succ]
          refine wpAnyH_take (i := 98) (oi := { dst := some 141, op := Op.build 25 #[(0, Operand.const (Value.int IntKind.i64 4))], type := 25, pos := "law.go:91", after := #[{ on := 97, ground := Ground.guard }], guard := some (97, true) }) (v := ?_) rfl (by kernel_rfl) (by kernel_rfl) (by kernel_rfl) (fun _ _ _ h => h) (Or.inl ⟨by rfl, ?_⟩) (by assumption) ?_
          rotate_left
          · (intro w hSw; (try dsimp only at hSw); go_simp; try with_reducible rfl)
          try simp only [Act.put, List.setIfInBounds_toArray, List.set_cons_zero, List.set_cons_succ]
          refine wpAnyH_ready (rs := [99]) (by kernel_rfl) (by simp) ?_
          refine AllReadyH.cons (o := { dst := some 142, op := Op.call { callee := Callee.value (Operand.func 11), args := #[Operand.tmp 141], argTypes := #[25] }, type := 26, pos := "law.go:91", after := #[{ on := 98, ground := Ground.data }, { on := 97, ground := Ground.chain }, { on := 97, ground := Ground.guard }], guard := some (97, true) }) rfl (fun K hK => ?_) AllReadyH.nil
          go_simp
          refine (Tryd.vcheckK _).mono ?_
          rintro e V22 ⟨rfl, hb⟩
          have B22 := Lib.hid (B21.out.trans (hb.mono B21.out.size))
          have S22 := Lib.hid (KS.below S21.out hb)
          clear hb
          refine hK.out _ _ ?_ (fun hHeld => ?_)
          · exact S22.out
          clear hK K
          try simp only [Act.put, List.setIfInBounds_toArray, List.set_cons_zero, List.set_cons_succ]
          refine wpAnyH_take (i := 100) (oi := { dst := some 143, op := Op.binOp BinOp.eql 3 (Operand.tmp 142) (Operand.const (Value.int IntKind.i64 6)) 3, type := 4, pos := "law.go:91", after := #[{ on := 99, ground := Ground.data }, { on := 97, ground := Ground.guard }], guard := some (97, true) }) (v := ?_) rfl (by kernel_rfl) (by kernel_rfl) (by kernel_rfl) (fun _ _ _ h => h) (Or.inl ⟨by rfl, ?_⟩) (by assumption) ?_
          rotate_left
          · (intro w hSw; (try dsimp only at hSw); go_simp; try with_reducible rfl)
          try simp only [Act.put, List.setIfInBounds_toArray, List.set_cons_zero, List.set_cons_succ]
          refine wpAnyH_take (i := 101) (oi := { dst := some 144, op := Op.pick (Operand.tmp 140) (Operand.tmp 143) (Operand.const (Value.bool false)), type := 4, pos := "law.go:91", after := #[{ on := 97, ground := Ground.data }, { on := 100, ground := Ground.data }], guard := none }) (v := ?_) rfl (by kernel_rfl) (by kernel_rfl) (by kernel_rfl) (fun _ _ _ h => h) (Or.inl ⟨by rfl, ?_⟩) (by assumption) ?_
          rotate_left
          · (intro w hSw; (try dsimp only at hSw); go_simp; try with_reducible rfl)
          try simp only [Act.put, List.setIfInBounds_toArray, List.set_cons_zero, List.set_cons_succ]
          refine wpAnyH_take (i := 102) (oi := { dst := some 0, op := Op.assign (Operand.tmp 144), type := 4, pos := "law.go:91", after := ([{ on := 101, ground := Ground.data }, { on := 99, ground := Ground.chain }, { on := 0, ground := Ground.phase }, { on := 1, ground := Ground.phase }, { on := 2, ground := Ground.phase }, { on := 3, ground := Ground.phase }, { on := 4, ground := Ground.phase }, { on := 5, ground := Ground.phase }, { on := 6, ground := Ground.phase }, { on := 7, ground := Ground.phase }, { on := 8, ground := Ground.phase }, { on := 9, ground := Ground.phase }, { on := 10, ground := Ground.phase }, { on := 11, ground := Ground.phase }, { on := 12, ground := Ground.phase }, { on := 13, ground := Ground.phase }, { on := 14, ground := Ground.phase }, { on := 15, ground := Ground.phase }, { on := 16, ground := Ground.phase }, { on := 17, ground := Ground.phase }, { on := 18, ground := Ground.phase }, { on := 19, ground := Ground.phase }, { on := 20, ground := Ground.phase }, { on := 21, ground := Ground.phase }, { on := 22, ground := Ground.phase }, { on := 23, ground := Ground.phase }, { on := 24, ground := Ground.phase }, { on := 25, ground := Ground.phase }, { on := 26, ground := Ground.phase }, { on := 27, ground := Ground.phase }, { on := 28, ground := Ground.phase }, { on := 29, ground := Ground.phase }, { on := 30, ground := Ground.phase }, { on := 31, ground := Ground.phase }, { on := 32, ground := Ground.phase }, { on := 33, ground := Ground.phase }, { on := 34, ground := Ground.phase }, { on := 35, ground := Ground.phase }, { on := 36, ground := Ground.phase }, { on := 37, ground := Ground.phase }, { on := 38, ground := Ground.phase }, { on := 39, ground := Ground.phase }, { on := 40, ground := Ground.phase }, { on := 41, ground := Ground.phase }, { on := 42, ground := Ground.phase }, { on := 43, ground := Ground.phase }, { on := 44, ground := Ground.phase }, { on := 45, ground := Ground.phase }, { on := 46, ground := Ground.phase }, { on := 47, ground := Ground.phase }, { on := 48, ground := Ground.phase }, { on := 49, ground := Ground.phase }].append [{ on := 50, ground := Ground.phase }, { on := 51, ground := Ground.phase }, { on := 52, ground := Ground.phase }, { on := 53, ground := Ground.phase }, { on := 54, ground := Ground.phase }, { on := 55, ground := Ground.phase }, { on := 56, ground := Ground.phase }, { on := 57, ground := Ground.phase }, { on := 58, ground := Ground.phase }, { on := 59, ground := Ground.phase }, { on := 60, ground := Ground.phase }, { on := 61, ground := Ground.phase }, { on := 62, ground := Ground.phase }, { on := 63, ground := Ground.phase }, { on := 64, ground := Ground.phase }, { on := 65, ground := Ground.phase }, { on := 66, ground := Ground.phase }, { on := 67, ground := Ground.phase }, { on := 68, ground := Ground.phase }, { on := 69, ground := Ground.phase }, { on := 70, ground := Ground.phase }, { on := 71, ground := Ground.phase }, { on := 72, ground := Ground.phase }, { on := 73, ground := Ground.phase }, { on := 74, ground := Ground.phase }, { on := 75, ground := Ground.phase }, { on := 76, ground := Ground.phase }, { on := 77, ground := Ground.phase }, { on := 78, ground := Ground.phase }, { on := 79, ground := Ground.phase }, { on := 80, ground := Ground.phase }, { on := 81, ground := Ground.phase }, { on := 82, ground := Ground.phase }, { on := 83, ground := Ground.phase }, { on := 84, ground := Ground.phase }, { on := 85, ground := Ground.phase }, { on := 86, ground := Ground.phase }, { on := 87, ground := Ground.phase }, { on := 88, ground := Ground.phase }, { on := 89, ground := Ground.phase }, { on := 90, ground := Ground.phase }, { on := 91, ground := Ground.phase }, { on := 92, ground := Ground.phase }, { on := 93, ground := Ground.phase }, { on := 94, ground := Ground.phase }, { on := 95, ground := Ground.phase }, { on := 96, ground := Ground.phase }, { on := 97, ground := Ground.phase }, { on := 98, ground := Ground.phase }, { on := 99, ground := Ground.phase }, { on := 100, ground := Ground.phase }, { on := 101, ground := Ground.phase }]).toArray, guard := none }) (v := ?_) rfl (by kernel_rfl) (by kernel_rfl) (by kernel_rfl) (fun _ _ _ h => h) (Or.inl ⟨by rfl, ?_⟩) (by assumption) ?_
          rotate_left
          · (intro w hSw; (try dsimp only at hSw); go_simp; try with_reducible rfl)
          try simp only [Act.put, List.setIfInBounds_toArray, List.set_cons_zero, List.set_cons_succ]
          refine wpAnyH_done (by kernel_rfl) ?_ _
          refine NoPanic.normal ?_
          clear hHeld
          go_wp2_with fail
          go_ret
          exact ⟨rfl, B22.out⟩
end Go.Proofs.YtlgabpcjhhihdaaDoor
end
