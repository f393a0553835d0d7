/-
  Texts of a proof over the translated program: proved evaluators and walks, part 12 of 13.
-/
import Derived.Test.YtlgabpcjhhihdaaDoorPartR11
import Derived.Below
import Derived.Deep.Cut
import Derived.Deep.RegionHeld3
import Derived.Deep.RegionWith
import Derived.Handy
import Derived.IntWalk
import Derived.Laws.Cells
import Derived.Laws.Concat
import Derived.Laws.CopyRow
import Derived.Laws.Cover1
import Derived.Laws.Externs
import Derived.Laws.Strings
import Derived.Laws.Strings2
import Derived.Laws.Strings3
import Derived.Laws.StructEq
import Derived.Lib.AppendIntMem
import Derived.Lib.Builder
import Derived.Lib.Hide
import Derived.Lib.ItoaLen
import Derived.LoopTactic
import Derived.Outline
import Derived.OwnWalk
import Derived.ProofKit
import Derived.Scope
import Derived.ScopeJumps
import Derived.Shelf.LaysC
import Derived.Shelf.LaysM
import Derived.Shelf.Small.Strs
import Derived.Shelf.Small.Wraps
import Derived.Shelf.Strconv.Clone
import Derived.Shelf.Strconv.ErrVarParseInt
import Derived.Shelf.Strconv.Itoa0
import Derived.Shelf.Strconv.Itoa1
import Derived.Shelf.Strconv.Itoa2
import Derived.Shelf.Strconv.Itoa3
import Derived.Shelf.Strconv.Itoa4
import Derived.Shelf.Strconv.Lower
import Derived.Shelf.Strconv.ParseInt10
import Derived.Shelf.Strconv.ParseInt10All
import Derived.Shelf.Strconv.ParseInt10At16
import Derived.Shelf.Strconv.ParseInt10At32
import Derived.Shelf.Strconv.ParseInt10At64
import Derived.Shelf.Strconv.ParseInt10At8
import Derived.Shelf.Strconv.ParseIntEmpty
import Derived.Shelf.Strconv.ParseIntPublic10
import Derived.Shelf.Strconv.ParseUint10
import Derived.Shelf.Strconv.ParseUint10Any
import Derived.Shelf.Strconv.ParseUint10At
import Derived.Shelf.Strconv.ParseUint10Empty
import Derived.Shelf.Strconv.ParseUint10b16
import Derived.Shelf.Strconv.ParseUint10b32
import Derived.Shelf.Strconv.ParseUint10b64
import Derived.Shelf.Strconv.ParseUint10b8
import Derived.Shelf.Strconv.ParseUintEmpty
import Derived.Shelf.Strconv.RangeError
import Derived.Shelf.Strconv.SyntaxError
import Derived.Shelf.Strconv.ToError
import Derived.Shelf.Strconv.ToErrorRange
import Derived.Shelf.Strings.Builder1
import Derived.Shelf.Strings.BuilderF
import Derived.Shelf.Strings.BuilderK
import Derived.Shelf.Strings.Prefix
import Derived.Shelf.Strings.Search1
import Derived.Test.YtlgabpcjhhihdaaDoorProg
import Derived.WalkKit
import Derived.WalkMore
import Derived.WalkSpells
import Derived.Laws.AppendOwn
import Derived.Laws.Cover2
import Derived.Laws.FloatArith
import Derived.Laws.IdiomStrings
set_option linter.unusedVariables false
set_option linter.unusedSimpArgs false
set_option linter.unusedSectionVars false
set_option linter.unnecessarySimpa false
section
namespace Go.Proofs.YtlgabpcjhhihdaaDoor
open Go.RowKit Go.NW
set_option maxRecDepth 100000
theorem cmp_lt : ∀ (a b : List UInt8), (a < b → Lib.compareBytes a b = -1) ∧ (b < a → Lib.compareBytes a b = 1) ∧ (a = b → Lib.compareBytes a b = 0)
  | [], [] => ⟨fun h => absurd h (List.lt_irrefl _), fun h => absurd h (List.lt_irrefl _), fun _ => rfl⟩
  | [], y :: b => ⟨fun _ => rfl, fun h => by simp at h, fun h => by cases h⟩
  | x :: a, [] => ⟨fun h => by simp at h, fun _ => rfl, fun h => by cases h⟩
  | x :: a, y :: b => by
    obtain ⟨i1, i2, i3⟩ := cmp_lt a b
    rw [List.cons_lt_cons_iff, List.cons_lt_cons_iff]
    simp only [Lib.compareBytes]
    refine ⟨fun h => ?_, fun h => ?_, fun h => ?_⟩
    · rcases h with h | ⟨rfl, h⟩
      · rw [if_pos h]
      · rw [if_neg (UInt8.lt_irrefl _), if_neg (UInt8.lt_irrefl _)]
        exact i1 h
    · rcases h with h | ⟨rfl, h⟩
      · rw [if_neg (UInt8.lt_asymm h), if_pos h]
      · rw [if_neg (UInt8.lt_irrefl _), if_neg (UInt8.lt_irrefl _)]
        exact i2 h
    · injection h with h1 h2
      subst h1
      rw [if_neg (UInt8.lt_irrefl _), if_neg (UInt8.lt_irrefl _)]
      exact i3 h2
theorem hexD_lt : ∀ i, i < 16 → ∀ j, j < 16 → (hexD i < hexD j ↔ i < j) := by decide +kernel
theorem hexD_eq : ∀ i, i < 16 → ∀ j, j < 16 → (hexD i = hexD j ↔ i = j) := by decide +kernel
theorem hexL_cons (x : UInt8) (a : List UInt8) : hexL (x :: a) = hexD (x.toNat / 16) :: hexD (x.toNat % 16) :: hexL a := rfl
theorem hexL_lt : ∀ (a b : List UInt8), hexL a < hexL b ↔ a < b
  | [], [] => by simp [hexL]
  | [], y :: b => by rw [hexL_cons]; simp [hexL]
  | x :: a, [] => by rw [hexL_cons]; simp [hexL]
  | x :: a, y :: b => by
    have hx := x.toNat_lt
    have hy := y.toNat_lt
    rw [hexL_cons, hexL_cons, List.cons_lt_cons_iff, List.cons_lt_cons_iff, List.cons_lt_cons_iff, hexL_lt a b, hexD_lt _ (by omega) _ (by omega), hexD_lt _ (by omega) _ (by omega), hexD_eq _ (by omega) _ (by omega), hexD_eq _ (by omega) _ (by omega), UInt8.lt_iff_toNat_lt, ← UInt8.toNat_inj]
    constructor
    · rintro (h | ⟨h, h' | ⟨h', h2⟩⟩)
      · exact .inl (by omega)
      · exact .inl (by omega)
      · exact .inr ⟨by omega, h2⟩
    · rintro (h | ⟨h, h2⟩)
      · by_cases e : x.toNat / 16 < y.toNat / 16
        · exact .inl e
        · exact .inr ⟨by omega, .inl (by omega)⟩
      · exact .inr ⟨by omega, .inr ⟨by omega, h2⟩⟩
end Go.Proofs.YtlgabpcjhhihdaaDoor
end

section
namespace Go.Proofs.YtlgabpcjhhihdaaDoor
open Go.RowKit Go.NW
set_option maxRecDepth 100000
structure TwoS (la lb : List UInt8) (sa sb S1 S2 : ByteArray) (n M K : Nat) (D E : Bool) (C : Int) : Prop where
  ea : sa = bs la
  eb : sb = bs lb
  e1 : S1 = bs (34 :: hexL la)
  e2 : S2 = bs (34 :: hexL lb)
  f1 : S1.size = M
  f0 : sa.size = n
  fM : M = K + 1
  fK : K = 2 * n
  f2 : (S1.extract 0 1).toList = [34]
  f3 : Op.bytesLess S1.toList S2.toList = D
  f4 : Op.bytesLess sa.toList sb.toList = D
  f5 : (sa.toList == sb.toList) = E
  fC : C = if D then -1 else if E then 0 else 1
  f6 : Lib.compareBytes sa.data.toList sb.data.toList = C
  fDE : D = true → E = false
theorem bless_eq : ∀ (x y : List UInt8), Op.bytesLess x y = decide (x < y)
  | [], [] => by simp [Op.bytesLess]
  | [], _ :: _ => by simp [Op.bytesLess]
  | _ :: _, [] => by simp [Op.bytesLess]
  | a :: x, b :: y => by
    have ih := bless_eq x y
    simp only [Op.bytesLess, ih]
    by_cases h1 : a < b
    · simp [h1, List.cons_lt_cons_iff]
    · by_cases h2 : b < a
      · have h3 : a ≠ b := fun e => UInt8.lt_irrefl _ (e ▸ h2)
        simp [h1, h2, h3, List.cons_lt_cons_iff]
      · have h3 : a = b := by
          refine UInt8.toNat_inj.1 ?_
          rw [UInt8.lt_iff_toNat_lt] at h1 h2
          omega
        subst h3
        simp [h1, List.cons_lt_cons_iff]
theorem tri : ∀ (a b : List UInt8), a < b ∨ a = b ∨ b < a
  | [], [] => .inr (.inl rfl)
  | [], y :: b => .inl (by simp)
  | x :: a, [] => .inr (.inr (by simp))
  | x :: a, y :: b => by
    rw [List.cons_lt_cons_iff, List.cons_lt_cons_iff]
    rcases Nat.lt_trichotomy x.toNat y.toNat with h | h | h
    · exact .inl (.inl (UInt8.lt_iff_toNat_lt.2 h))
    · have e : x = y := UInt8.toNat_inj.1 h
      subst e
      rcases tri a b with h | h | h
      · exact .inl (.inr ⟨rfl, h⟩)
      · exact .inr (.inl (by rw [h]))
      · exact .inr (.inr (.inr ⟨rfl, h⟩))
    · exact .inr (.inr (.inl (UInt8.lt_iff_toNat_lt.2 h)))
theorem TwoS.mk' (la lb : List UInt8) : ∃ (M K : Nat) (D E : Bool) (C : Int), TwoS la lb (bs la) (bs lb) (bs (34 :: hexL la)) (bs (34 :: hexL lb)) la.length M K D E C := by
  have hl := cmp_lt la lb
  have hD : Op.bytesLess (bs la).toList (bs lb).toList = decide (la < lb) := by rw [bs_list, bs_list, bless_eq]
  have h3 : Op.bytesLess (bs (34 :: hexL la)).toList (bs (34 :: hexL lb)).toList = decide (la < lb) := by
    rw [bs_list, bs_list, bless_eq, decide_eq_decide, List.cons_lt_cons_iff, hexL_lt]
    constructor
    · rintro (h | h)
      · exact absurd h (UInt8.lt_irrefl _)
      · exact h.2
    · exact fun h => .inr ⟨rfl, h⟩
  refine ⟨_, _, _, _, _, rfl, rfl, rfl, rfl, rfl, bs_size la, ?_, rfl, ?_, h3, hD, rfl, rfl, ?_, ?_⟩
  · rw [bs_size, List.length_cons, hexL_len]
  · rw [bs_ext, bs_list]; rfl
  · rw [bs_data, bs_data]
    have hE : ((bs la).toList == (bs lb).toList) = decide (la = lb) := by
      rw [bs_list, bs_list]
      by_cases h : la = lb <;> simp [h]
    rw [hE]
    by_cases h1 : la < lb
    · rw [hl.1 h1, if_pos (by simpa using h1)]
    · rw [if_neg (by simpa using h1)]
      by_cases h2 : la = lb
      · rw [hl.2.2 h2, if_pos (by simpa using h2)]
      · rw [if_neg (by simpa using h2), hl.2.1]
        rcases tri la lb with h | h | h
        · exact absurd h h1
        · exact absurd h h2
        · exact h
  · intro h
    have h1 : la < lb := by simpa using h
    rw [bs_list, bs_list]
    refine beq_eq_false_iff_ne.2 (fun e => ?_)
    rw [e] at h1
    exact List.lt_irrefl _ h1
end Go.Proofs.YtlgabpcjhhihdaaDoor
end

section
namespace Go.Proofs.YtlgabpcjhhihdaaDoor
open Go.RowKit Go.NW
set_option maxRecDepth 100000
theorem Tryd.held29 : Tryd.prog.stoodInHeld 29 = false := by kernel_rfl
theorem Tryd.guard29 : Tryd.prog.eqGuardType Tryd.prog.depth 29 = false := by kernel_rfl
theorem fields29 : ∃ f1 f2 f3 f4 : Field, (Tryd.prog.fieldsOf 29).toList = [f1, f2, f3, f4] ∧ (f1.name ≠ "_" ∧ f1.type = 3 ∧ f1.offset = 0) ∧ (f2.name ≠ "_" ∧ f2.type = 2 ∧ f2.offset = 1) ∧ (f3.name ≠ "_" ∧ f3.type = 9 ∧ f3.offset = 2) ∧ (f4.name ≠ "_" ∧ f4.type = 23 ∧ f4.offset = 3) :=
  by
  have h : (Tryd.prog.fieldsOf 29).toList.map (fun f => (f.name == "_", f.type, f.offset)) = [(false, 3, 0), (false, 2, 1), (false, 9, 2), (false, 23, 3)] := by kernel_rfl
  generalize (Tryd.prog.fieldsOf 29).toList = L at h
  rcases L with _ | ⟨f1, _ | ⟨f2, _ | ⟨f3, _ | ⟨f4, _ | ⟨f5, L⟩⟩⟩⟩⟩ <;> simp at h
  exact ⟨f1, f2, f3, f4, rfl, h.1, h.2.1, h.2.2.1, h.2.2.2⟩
theorem eqA29 (w : World) (k a k' b : Int) (s t : ByteArray) (x y x' y' : Nat) (q : Bool) (hq : (Op.equalIn 9999 23 (.complex .f64 x y) (.complex .f64 x' y')).run Tryd.prog w = .ok q w) : (Op.equalIn 10000 29 (.agg #[.int .i64 k, .int .i64 a, .string s, .complex .f64 x y]) (.agg #[.int .i64 k', .int .i64 b, .string t, .complex .f64 x' y'])).run Tryd.prog w = .ok ((k == k') && ((a == b) && ((s.toList == t.toList) && q))) w := by
  rw [run_equalIn_agg w 9999 29 _ _ Tryd.st29 Tryd.held29]
  obtain ⟨f1, f2, f3, f4, h, ⟨a1, a2, a3⟩, ⟨b1, b2, b3⟩, ⟨c1, c2, c3⟩, d1, d2, d3⟩ := fields29
  rw [h]
  have q3 : (Op.equalIn 9999 3 (.int .i64 k) (.int .i64 k')).run Tryd.prog w = .ok (k == k') w := run_equalIn_int w 9998 3 .i64 .i64 k k' Tryd.underlying3
  have q2 : (Op.equalIn 9999 2 (.int .i64 a) (.int .i64 b)).run Tryd.prog w = .ok (a == b) w := run_equalIn_int w 9998 2 .i64 .i64 a b Tryd.underlying2
  have q9 : (Op.equalIn 9999 9 (.string s) (.string t)).run Tryd.prog w = .ok (s.toList == t.toList) w := run_equalIn_string w 9998 9 _ _ Tryd.underlying9
  simp only [Op.eqFields, a1, a2, a3, b1, b2, b3, c1, c2, c3, d1, d2, d3, if_true, ne_eq, not_false_eq_true]
  simp [part, go_sem, q3, q2, q9, hq]
  by_cases hk : k = k' <;> by_cases ha : a = b <;> by_cases hs : s.toList = t.toList <;> cases q <;> simp [hk, ha, hs, q9, hq]
theorem eqG29 (op : BinOp) (x y : Operand) (xs ys : Array Value) (w : World) : (eqGuard op 29 x y (.agg xs) (.agg ys)).run Tryd.prog w = .ok () w := run_eqGuard_agg w op 29 x y xs ys Tryd.guard29
theorem neqV29 (w : World) (k a k' b : Int) (s t : ByteArray) (x y x' y' : Nat) (q : Bool) (hq : (Op.equalIn 9999 23 (.complex .f64 x y) (.complex .f64 x' y')).run Tryd.prog w = .ok q w) : (binOp .neq 29 (.agg #[.int .i64 k, .int .i64 a, .string s, .complex .f64 x y]) (.agg #[.int .i64 k', .int .i64 b, .string t, .complex .f64 x' y'])).run Tryd.prog w = .ok (.bool (!((k == k') && ((a == b) && ((s.toList == t.toList) && q))))) w := by
  rw [run_neq_struct, eqA29 _ _ _ _ _ _ _ _ _ _ _ _ hq, Result.andThen_ok]
theorem Tryd.lawOf (k n : Int) (s : ByteArray) (x y : Nat) (w : World) : Calls Tryd.prog 9 #[.agg #[.int .i64 k, .int .i64 n, .string s, .complex .f64 x y]] w fun e w' => e = .returned (.agg #[.int .i64 k, .int .i64 n, .string s, .complex .f64 x y]) ∧ Below w.heap.size w w' := by
  have hsc := storeC
  go_enter Tryd.func9, Tryd.ntmps9
  go_wp2_with fail
  refine bodyPost_ret (v := .agg #[.int .i64 k, .int .i64 n, .string s, .complex .f64 x y]) (by simp [results, Tryd.results9, go_sem]) rfl ⟨rfl, ?_⟩
  exact ((Below.refl _ w).alloc (Nat.le_refl _) _).alloc (by simp) _
theorem ccEq {a b : Int} (ha : inP a) (hb : inP b) (d : Nat) (w : World) : (Op.equalIn (d + 1) 23 (.complex .f64 (Fl a) (Fl b)) (.complex .f64 (Fl a) (Fl b))).run Tryd.prog w = .ok true w := by
  have h1 : Op.floatEq .f64 (Fl a) (Fl a) = true := fl_eq ha
  have h2 : Op.floatEq .f64 (Fl b) (Fl b) = true := fl_eq hb
  simp [Op.equalIn, run_underlying Tryd.underlying23, h1, h2]
theorem Bx.of29 (Z : World) (k n : Int) (s : ByteArray) (x y : Nat) : Bx (Z.alloc (.cells #[.int .i64 k, .int .i64 n, .string s, .complex .f64 x y] 29)) Z.heap.size k n s x y := by
  refine ⟨?_, ?_, ?_, ?_⟩ <;> (rw [cell_of_row _ _ _ _ 29 _ (heap_alloc_new _ _)]; rfl)
set_option maxHeartbeats 4000000 in
theorem Tryd.readsWalk {w : World} (hK : Calls Tryd.prog 6 #[] w fun e w' => e = .returned (.bool true) ∧ Below w.heap.size w w') (l : List UInt8) (hl : l.length ≤ 700) (k n : Int) (s : ByteArray) (x y : Nat) (er : Int)
    (hq : ∀ w, (Op.equalIn 9999 23 (.complex .f64 x y) (.complex .f64 x y)).run Tryd.prog w = .ok true w)
    (hP : ∀ w', Below w.heap.size w w' → Calls Tryd.prog 7 #[.string (bs l)] w' fun e w'' => e = .returned (.tuple #[.agg #[.int .i64 k, .int .i64 n, .string s, .complex .f64 x y], .int .i64 er]) ∧ Below w'.heap.size w' w'')
    (hR : ∀ w', Calls Tryd.prog 8 #[.string (bs l)] w' fun e w'' => e = .returned (.tuple #[.agg #[.int .i64 k, .int .i64 n, .string s, .complex .f64 x y], .int .i64 er]) ∧ Below w'.heap.size w' w'')
    (hT : er = 0 → ∀ w', Below w.heap.size w w' → Calls Tryd.prog 10 #[.agg #[.int .i64 k, .int .i64 n, .string s, .complex .f64 x y]] w' fun e w'' => e = .returned (.string (bs l)) ∧ Below w'.heap.size w' w'')
    (hC : er = 0 → ∀ w', Calls Tryd.prog 11 #[.agg #[.int .i64 k, .int .i64 n, .string s, .complex .f64 x y]] w' fun e w'' => e = .returned (.int .i64 0) ∧ Below w'.heap.size w' w'') :
    Calls Tryd.prog 3 #[.string (bs l)] w fun e w' => e = .returned (.bool true) ∧ Below w.heap.size w w' := by
  have hsc := storeC
  have hB' := bs_list
  have HK := Lib.hid hK
  have HP := Lib.hid hP
  have HR := Lib.hid hR
  have HT := Lib.hid hT
  have HC := Lib.hid hC
  obtain ⟨m, hm⟩ : ∃ m, m = l.length := ⟨_, rfl⟩
  have hS1 : (bs l).size = m := by rw [bs_size, hm]
  have g1 : decide ((m : Int) > 700) = false := decide_eq_false (by omega)
  have g2 : decide (700 < m) = false := decide_eq_false (by omega)
  have hG := eqG29
  have hE : ∀ w, (binOp .neq 29 (.agg #[.int .i64 k, .int .i64 n, .string s, .complex .f64 x y]) (.agg #[.int .i64 k, .int .i64 n, .string s, .complex .f64 x y])).run Tryd.prog w = .ok (.bool false) w := fun w => by
    rw [neqV29 w k n k n s s x y x y true (hq w)]
    simp
  have HE := Lib.hid hE
  have HG := Lib.hid hG
  clear hK hP hR hT hC hm hq hE hG hl
  go_enter Tryd.func3, Tryd.ntmps3
  go_wp2_with fail
  refine HK.out.mono ?_
  rintro e v1 ⟨rfl, hb⟩
  have U1 := Lib.hid hb
  clear hb
  go_wp2_with fail
  refine (HP.out _ U1.out).mono ?_
  rintro e v2 ⟨rfl, hb⟩
  have U2 := Lib.hid (U1.out.trans (hb.mono U1.out.size))
  clear hb
  go_wp2_with fail
  have U3 := Lib.hid (U2.out.alloc U2.out.size (.cells #[.int .i64 k, .int .i64 n, .string s, .complex .f64 x y] 25))
  have S3 := Lib.hid (Bx.of v2 k n s x y)
  generalize v2.alloc (.cells #[.int .i64 k, .int .i64 n, .string s, .complex .f64 x y] 25) = v3 at U3 S3 ⊢
  generalize v2.heap.size = x1 at S3 ⊢
  refine (HR.out _).mono ?_
  rintro e v4 ⟨rfl, hb⟩
  have U4 := Lib.hid (U3.out.trans (hb.mono U3.out.size))
  have S4 := Lib.hid (Bx.below S3.out hb)
  clear hb
  have hG := HG.out
  have hE := HE.out
  go_upto_region 7 with fail
  have U5 := Lib.hid (U4.out.alloc U4.out.size (.cells #[.int .i64 k, .int .i64 n, .string s, .complex .f64 x y] 29))
  have S5 := Lib.hid (And.intro (Bx.below S4.out ((Below.refl _ v4).alloc (Nat.le_refl _) (.cells #[.int .i64 k, .int .i64 n, .string s, .complex .f64 x y] 29))) (Bx.of29 v4 k n s x y))
  generalize v4.alloc (.cells #[.int .i64 k, .int .i64 n, .string s, .complex .f64 x y] 29) = V0 at U5 S5 ⊢
  generalize v4.heap.size = x2 at S5 ⊢
  have S0a := S5
  have B0 := Lib.hid U5.out.drew
  have S0 := Lib.hid (And.intro (Bx.below S5.out.1 (Below.refl _ V0).drew) (Bx.below S5.out.2 (Below.refl _ V0).drew))
  refine wp_region_noPanic ?_
  refine wp_region_held_drew (S := (fun Z => Bx Z x1 k n s x y ∧ Bx Z x2 k n s x y)) (by kernel_rfl) ?_ (fun hHeld => ?_)
  · exact S0a.out
  refine wpAnyH_take (i := 0) (oi := { dst := some 22, op := Op.move (Operand.tmp 4), type := 26, pos := "law.go:124", after := #[], guard := none }) (v := ?_) rfl (by kernel_rfl) (by kernel_rfl) (by kernel_rfl) (fun _ _ _ h => h) (Or.inl ⟨by rfl, ?_⟩) (by assumption) ?_
  rotate_left
  · (intro w hSw; (try dsimp only at hSw); go_simp; try with_reducible rfl)
  try simp only [Act.put, List.setIfInBounds_toArray, List.set_cons_zero, List.set_cons_succ]
  refine wpAnyH_take (i := 1) (oi := { dst := some 23, op := Op.move (Operand.tmp 6), type := 3, pos := "law.go:124", after := #[], guard := none }) (v := ?_) rfl (by kernel_rfl) (by kernel_rfl) (by kernel_rfl) (fun _ _ _ h => h) (Or.inl ⟨by rfl, ?_⟩) (by assumption) ?_
  rotate_left
  · (intro w hSw; (try dsimp only at hSw); go_simp; try with_reducible rfl)
  try simp only [Act.put, List.setIfInBounds_toArray, List.set_cons_zero, List.set_cons_succ]
  refine wpAnyH_take (i := 2) (oi := { dst := some 24, op := Op.binOp BinOp.neq 3 (Operand.tmp 22) (Operand.tmp 23) 3, type := 4, pos := "law.go:124", after := #[{ on := 0, ground := Ground.data }, { on := 1, ground := Ground.data }], guard := none }) (v := ?_) rfl (by kernel_rfl) (by kernel_rfl) (by kernel_rfl) (fun _ _ _ h => h) (Or.inl ⟨by rfl, ?_⟩) (by assumption) ?_
  rotate_left
  · (intro w hSw; (try dsimp only at hSw); go_simp; try with_reducible rfl)
  try simp only [Act.put, List.setIfInBounds_toArray, List.set_cons_zero, List.set_cons_succ]
  refine wpAnyH_take (i := 3) (oi := { dst := some 25, op := Op.move (Operand.tmp 24), type := 4, pos := "law.go:124", after := #[{ on := 2, ground := Ground.data }], guard := none }) (v := ?_) rfl (by kernel_rfl) (by kernel_rfl) (by kernel_rfl) (fun _ _ _ h => h) (Or.inl ⟨by rfl, ?_⟩) (by assumption) ?_
  rotate_left
  · (intro w hSw; (try dsimp only at hSw); go_simp; try with_reducible rfl)
  try simp only [Act.put, List.setIfInBounds_toArray, List.set_cons_zero, List.set_cons_succ]
  refine wpAnyH_take (i := 4) (oi := { dst := some 26, op := Op.load 25 (Operand.tmp 3), type := 25, pos := "law.go:124", after := #[{ on := 3, ground := Ground.guard }], guard := some (3, false) }) (v := ?_) rfl (by kernel_rfl) (by kernel_rfl) (by kernel_rfl) (fun _ _ _ h => h) (Or.inl ⟨by rfl, ?_⟩) (by assumption) ?_
  rotate_left
  · (intro w hSw; (try dsimp only at hSw); (obtain ⟨⟨p1, p2, p3, p4⟩, q1, q2, q3, q4⟩ := hSw); go_simp; try with_reducible rfl)
  try simp only [Act.put, List.setIfInBounds_toArray, List.set_cons_zero, List.set_cons_succ]
  refine wpAnyH_take (i := 6) (oi := { dst := some 28, op := Op.load 29 (Operand.tmp 5), type := 29, pos := "law.go:124", after := #[{ on := 3, ground := Ground.guard }], guard := some (3, false) }) (v := ?_) rfl (by kernel_rfl) (by kernel_rfl) (by kernel_rfl) (fun _ _ _ h => h) (Or.inl ⟨by rfl, ?_⟩) (by assumption) ?_
  rotate_left
  · (intro w hSw; (try dsimp only at hSw); (obtain ⟨⟨p1, p2, p3, p4⟩, q1, q2, q3, q4⟩ := hSw); go_simp; try with_reducible rfl)
  try simp only [Act.put, List.setIfInBounds_toArray, List.set_cons_zero, List.set_cons_succ]
  refine wpAnyH_ready (rs := [5]) (by kernel_rfl) (by simp) ?_
  refine AllReadyH.cons (o := { dst := some 27, op := Op.call { callee := Callee.value (Operand.func 9), args := #[Operand.tmp 26], argTypes := #[25] }, type := 29, pos := "law.go:124", after := #[{ on := 4, ground := Ground.data }, { on := 3, ground := Ground.chain }, { on := 3, ground := Ground.guard }], guard := some (3, false) }) rfl (fun K hK => ?_) AllReadyH.nil
  go_simp
  refine (Tryd.lawOf k n s x y _).mono ?_
  rintro e V1 ⟨rfl, hb⟩
  have B1 := Lib.hid (B0.out.trans (hb.mono B0.out.size))
  have S1 := Lib.hid (And.intro (Bx.below S0.out.1 hb) (Bx.below S0.out.2 hb))
  clear hb
  refine hK.out _ _ ?_ (fun hHeld => ?_)
  · exact S1.out
  clear hK K
  try simp only [Act.put, List.setIfInBounds_toArray, List.set_cons_zero, List.set_cons_succ]
  refine wpAnyH_take (i := 7) (oi := { dst := some 29, op := Op.binOp BinOp.neq 29 (Operand.tmp 27) (Operand.tmp 28) 29, type := 4, pos := "law.go:124", after := #[{ on := 5, ground := Ground.data }, { on := 6, ground := Ground.data }, { on := 3, ground := Ground.guard }], guard := some (3, false) }) (v := ?_) rfl (by kernel_rfl) (by kernel_rfl) (by kernel_rfl) (fun _ _ _ h => h) (Or.inl ⟨by rfl, ?_⟩) (by assumption) ?_
  rotate_left
  · (intro w hSw; (try dsimp only at hSw); go_simp; try with_reducible rfl)
  try simp only [Act.put, List.setIfInBounds_toArray, List.set_cons_zero, List.set_cons_succ]
  refine wpAnyH_take (i := 8) (oi := { dst := some 30, op := Op.pick (Operand.tmp 25) (Operand.const (Value.bool true)) (Operand.tmp 29), type := 4, pos := "law.go:124", after := #[{ on := 3, ground := Ground.data }, { on := 7, ground := Ground.data }], guard := none }) (v := ?_) rfl (by kernel_rfl) (by kernel_rfl) (by kernel_rfl) (fun _ _ _ h => h) (Or.inl ⟨by rfl, ?_⟩) (by assumption) ?_
  rotate_left
  · (intro w hSw; (try dsimp only at hSw); go_simp; try with_reducible rfl)
  try simp only [Act.put, List.setIfInBounds_toArray, List.set_cons_zero, List.set_cons_succ]
  refine wpAnyH_done (by kernel_rfl) ?_ _
  refine NoPanic.normal ?_
  clear hHeld
  by_cases h0 : er = 0
  · have HT2 := Lib.hid (HT.out h0)
    have HC2 := Lib.hid (HC.out h0)
    subst h0
    obtain ⟨p1, p2, p3, p4⟩ := S1.out.1
    go_wp2_with fail
    refine (HT2.out _ B1.out).mono ?_
    rintro e v7 ⟨rfl, hb⟩
    have U7 := Lib.hid (B1.out.trans (hb.mono B1.out.size))
    have S7 := Lib.hid (Bx.below S1.out.1 hb)
    clear hb p1 p2 p3 p4
    obtain ⟨p1, p2, p3, p4⟩ := S7.out
    go_wp2_with fail
    refine (HC2.out _).mono ?_
    rintro e v8 ⟨rfl, hb⟩
    have U8 := Lib.hid (U7.out.trans (hb.mono U7.out.size))
    clear hb p1 p2 p3 p4
    go_wp2_with fail
    go_ret
    exact ⟨rfl, U8.out⟩
  · have e1 : (er != 0) = true := by simpa using h0
    have e2 : (er == 0) = false := by simpa using h0
    have e3 : decide (er = 0) = false := decide_eq_false h0
    go_wp2_with fail
    go_ret
    exact ⟨rfl, B1.out⟩
end Go.Proofs.YtlgabpcjhhihdaaDoor
end
