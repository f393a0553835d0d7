/-
  Texts of a proof over the translated program: proved evaluators and walks, part 12 of 13.
-/
import Derived.Test.YtlgabpcjhhihdaaDoorPartR11
import Derived.Below
import Derived.Deep.Cut
import Derived.Deep.RegionHeld3
import Derived.Deep.RegionWith
import Derived.Handy
import Derived.IntWalk
import Derived.Laws.Cells
import Derived.Laws.Concat
import Derived.Laws.CopyRow
import Derived.Laws.Cover1
import Derived.Laws.Externs
import Derived.Laws.Strings
import Derived.Laws.Strings2
import Derived.Laws.Strings3
import Derived.Laws.StructEq
import Derived.Lib.AppendIntMem
import Derived.Lib.Builder
import Derived.Lib.Hide
import Derived.Lib.ItoaLen
import Derived.LoopTactic
import Derived.Outline
import Derived.OwnWalk
import Derived.ProofKit
import Derived.Scope
import Derived.ScopeJumps
import Derived.Shelf.LaysC
import Derived.Shelf.LaysM
import Derived.Shelf.Small.Strs
import Derived.Shelf.Small.Wraps
import Derived.Shelf.Strconv.Clone
import Derived.Shelf.Strconv.ErrVarParseInt
import Derived.Shelf.Strconv.Itoa0
import Derived.Shelf.Strconv.Itoa1
import Derived.Shelf.Strconv.Itoa2
import Derived.Shelf.Strconv.Itoa3
import Derived.Shelf.Strconv.Itoa4
import Derived.Shelf.Strconv.Lower
import Derived.Shelf.Strconv.ParseInt10
import Derived.Shelf.Strconv.ParseInt10All
import Derived.Shelf.Strconv.ParseInt10At16
import Derived.Shelf.Strconv.ParseInt10At32
import Derived.Shelf.Strconv.ParseInt10At64
import Derived.Shelf.Strconv.ParseInt10At8
import Derived.Shelf.Strconv.ParseIntEmpty
import Derived.Shelf.Strconv.ParseIntPublic10
import Derived.Shelf.Strconv.ParseUint10
import Derived.Shelf.Strconv.ParseUint10Any
import Derived.Shelf.Strconv.ParseUint10At
import Derived.Shelf.Strconv.ParseUint10Empty
import Derived.Shelf.Strconv.ParseUint10b16
import Derived.Shelf.Strconv.ParseUint10b32
import Derived.Shelf.Strconv.ParseUint10b64
import Derived.Shelf.Strconv.ParseUint10b8
import Derived.Shelf.Strconv.ParseUintEmpty
import Derived.Shelf.Strconv.RangeError
import Derived.Shelf.Strconv.SyntaxError
import Derived.Shelf.Strconv.ToError
import Derived.Shelf.Strconv.ToErrorRange
import Derived.Shelf.Strings.Builder1
import Derived.Shelf.Strings.BuilderF
import Derived.Shelf.Strings.BuilderK
import Derived.Shelf.Strings.Prefix
import Derived.Shelf.Strings.Search1
import Derived.Test.YtlgabpcjhhihdaaDoorProg
import Derived.WalkKit
import Derived.WalkMore
import Derived.WalkSpells
set_option linter.unusedVariables false
set_option linter.unusedSimpArgs false
set_option linter.unusedSectionVars false
set_option linter.unnecessarySimpa false
section
namespace Go.Proofs.YtlgabpcjhhihdaaDoor
open Go.RowKit Go.NW
set_option maxRecDepth 100000
theorem cmp_lt : ∀ (a b : List UInt8), (a < b → Lib.compareBytes a b = -1) ∧ (b < a → Lib.compareBytes a b = 1) ∧ (a = b → Lib.compareBytes a b = 0)
  | [], [] => ⟨fun h => absurd h (List.lt_irrefl _), fun h => absurd h (List.lt_irrefl _), fun _ => rfl⟩
  | [], y :: b => ⟨fun _ => rfl, fun h => by simp at h, fun h => by cases h⟩
  | x :: a, [] => ⟨fun h => by simp at h, fun _ => rfl, fun h => by cases h⟩
  | x :: a, y :: b => by
    obtain ⟨i1, i2, i3⟩ := cmp_lt a b
    rw [List.cons_lt_cons_iff, List.cons_lt_cons_iff]
    simp only [Lib.compareBytes]
    refine ⟨fun h => ?_, fun h => ?_, fun h => ?_⟩
    · rcases h with h | ⟨rfl, h⟩
      · rw [if_pos h]
      · rw [if_neg (UInt8.lt_irrefl _), if_neg (UInt8.lt_irrefl _)]
        exact i1 h
    · rcases h with h | ⟨rfl, h⟩
      · rw [if_neg (UInt8.lt_asymm h), if_pos h]
      · rw [if_neg (UInt8.lt_irrefl _), if_neg (UInt8.lt_irrefl _)]
        exact i2 h
    · injection h with h1 h2
      subst h1
      rw [if_neg (UInt8.lt_irrefl _), if_neg (UInt8.lt_irrefl _)]
      exact i3 h2
theorem hexD_lt : ∀ i, i < 16 → ∀ j, j < 16 → (hexD i < hexD j ↔ i < j) := by decide +kernel
theorem hexD_eq : ∀ i, i < 16 → ∀ j, j < 16 → (hexD i = hexD j ↔ i = j) := by decide +kernel
theorem hexL_cons (x : UInt8) (a : List UInt8) : hexL (x :: a) = hexD (x.toNat / 16) :: hexD (x.toNat % 16) :: hexL a := rfl
theorem hexL_lt : ∀ (a b : List UInt8), hexL a < hexL b ↔ a < b
  | [], [] => by simp [hexL]
  | [], y :: b => by rw [hexL_cons]; simp [hexL]
  | x :: a, [] => by rw [hexL_cons]; simp [hexL]
  | x :: a, y :: b => by
    have hx := x.toNat_lt
    have hy := y.toNat_lt
    rw [hexL_cons, hexL_cons, List.cons_lt_cons_iff, List.cons_lt_cons_iff, List.cons_lt_cons_iff, hexL_lt a b, hexD_lt _ (by omega) _ (by omega), hexD_lt _ (by omega) _ (by omega), hexD_eq _ (by omega) _ (by omega), hexD_eq _ (by omega) _ (by omega), UInt8.lt_iff_toNat_lt, ← UInt8.toNat_inj]
    constructor
    · rintro (h | ⟨h, h' | ⟨h', h2⟩⟩)
      · exact .inl (by omega)
      · exact .inl (by omega)
      · exact .inr ⟨by omega, h2⟩
    · rintro (h | ⟨h, h2⟩)
      · by_cases e : x.toNat / 16 < y.toNat / 16
        · exact .inl e
        · exact .inr ⟨by omega, .inl (by omega)⟩
      · exact .inr ⟨by omega, .inr ⟨by omega, h2⟩⟩
end Go.Proofs.YtlgabpcjhhihdaaDoor
end

section
namespace Go.Proofs.YtlgabpcjhhihdaaDoor
open Go.RowKit Go.NW
set_option maxRecDepth 100000
structure TwoS (la lb : List UInt8) (sa sb S1 S2 : ByteArray) (n M K : Nat) (D E : Bool) (C : Int) : Prop where
  ea : sa = bs la
  eb : sb = bs lb
  e1 : S1 = bs (34 :: hexL la)
  e2 : S2 = bs (34 :: hexL lb)
  f1 : S1.size = M
  f0 : sa.size = n
  fM : M = K + 1
  fK : K = 2 * n
  f2 : (S1.extract 0 1).toList = [34]
  f3 : Op.bytesLess S1.toList S2.toList = D
  f4 : Op.bytesLess sa.toList sb.toList = D
  f5 : (sa.toList == sb.toList) = E
  fC : C = if D then -1 else if E then 0 else 1
  f6 : Lib.compareBytes sa.data.toList sb.data.toList = C
  fDE : D = true → E = false
theorem bless_eq : ∀ (x y : List UInt8), Op.bytesLess x y = decide (x < y)
  | [], [] => by simp [Op.bytesLess]
  | [], _ :: _ => by simp [Op.bytesLess]
  | _ :: _, [] => by simp [Op.bytesLess]
  | a :: x, b :: y => by
    have ih := bless_eq x y
    simp only [Op.bytesLess, ih]
    by_cases h1 : a < b
    · simp [h1, List.cons_lt_cons_iff]
    · by_cases h2 : b < a
      · have h3 : a ≠ b := fun e => UInt8.lt_irrefl _ (e ▸ h2)
        simp [h1, h2, h3, List.cons_lt_cons_iff]
      · have h3 : a = b := by
          refine UInt8.toNat_inj.1 ?_
          rw [UInt8.lt_iff_toNat_lt] at h1 h2
          omega
        subst h3
        simp [h1, List.cons_lt_cons_iff]
theorem tri : ∀ (a b : List UInt8), a < b ∨ a = b ∨ b < a
  | [], [] => .inr (.inl rfl)
  | [], y :: b => .inl (by simp)
  | x :: a, [] => .inr (.inr (by simp))
  | x :: a, y :: b => by
    rw [List.cons_lt_cons_iff, List.cons_lt_cons_iff]
    rcases Nat.lt_trichotomy x.toNat y.toNat with h | h | h
    · exact .inl (.inl (UInt8.lt_iff_toNat_lt.2 h))
    · have e : x = y := UInt8.toNat_inj.1 h
      subst e
      rcases tri a b with h | h | h
      · exact .inl (.inr ⟨rfl, h⟩)
      · exact .inr (.inl (by rw [h]))
      · exact .inr (.inr (.inr ⟨rfl, h⟩))
    · exact .inr (.inr (.inl (UInt8.lt_iff_toNat_lt.2 h)))
theorem TwoS.mk' (la lb : List UInt8) : ∃ (M K : Nat) (D E : Bool) (C : Int), TwoS la lb (bs la) (bs lb) (bs (34 :: hexL la)) (bs (34 :: hexL lb)) la.length M K D E C := by
  have hl := cmp_lt la lb
  have hD : Op.bytesLess (bs la).toList (bs lb).toList = decide (la < lb) := by rw [bs_list, bs_list, bless_eq]
  have h3 : Op.bytesLess (bs (34 :: hexL la)).toList (bs (34 :: hexL lb)).toList = decide (la < lb) := by
    rw [bs_list, bs_list, bless_eq, decide_eq_decide, List.cons_lt_cons_iff, hexL_lt]
    constructor
    · rintro (h | h)
      · exact absurd h (UInt8.lt_irrefl _)
      · exact h.2
    · exact fun h => .inr ⟨rfl, h⟩
  refine ⟨_, _, _, _, _, rfl, rfl, rfl, rfl, rfl, bs_size la, ?_, rfl, ?_, h3, hD, rfl, rfl, ?_, ?_⟩
  · rw [bs_size, List.length_cons, hexL_len]
  · rw [bs_ext, bs_list]; rfl
  · rw [bs_data, bs_data]
    have hE : ((bs la).toList == (bs lb).toList) = decide (la = lb) := by
      rw [bs_list, bs_list]
      by_cases h : la = lb <;> simp [h]
    rw [hE]
    by_cases h1 : la < lb
    · rw [hl.1 h1, if_pos (by simpa using h1)]
    · rw [if_neg (by simpa using h1)]
      by_cases h2 : la = lb
      · rw [hl.2.2 h2, if_pos (by simpa using h2)]
      · rw [if_neg (by simpa using h2), hl.2.1]
        rcases tri la lb with h | h | h
        · exact absurd h h1
        · exact absurd h h2
        · exact h
  · intro h
    have h1 : la < lb := by simpa using h
    rw [bs_list, bs_list]
    refine beq_eq_false_iff_ne.2 (fun e => ?_)
    rw [e] at h1
    exact List.lt_irrefl _ h1
end Go.Proofs.YtlgabpcjhhihdaaDoor
end
