/-
  Texts of a proof over the translated program: proved evaluators and walks, part 3 of 13.
-/
import Derived.Test.YtlgabpcjhhihdaaDoorPartR2
import Derived.Below
import Derived.Deep.RegionHeld3
import Derived.Deep.RegionWith
import Derived.Handy
import Derived.IntWalk
import Derived.Laws.StructEq
import Derived.Lib.Hide
import Derived.LoopTactic
import Derived.Outline
import Derived.OwnWalk
import Derived.Scope
import Derived.ScopeJumps
import Derived.Test.YtlgabpcjhhihdaaDoorProg
import Derived.WalkKit
import Derived.WalkMore
import Derived.WalkSpells
set_option linter.unusedVariables false
set_option linter.unusedSimpArgs false
set_option linter.unusedSectionVars false
set_option linter.unnecessarySimpa false
section
namespace Go.Proofs.YtlgabpcjhhihdaaDoor
open Go.RowKit
set_option maxRecDepth 100000
def vN (n : Int) : Value := .agg #[.int .i64 1, .int .i64 n, .string ⟨#[]⟩, .complex .f64 0 0]
def vS (s : ByteArray) : Value := .agg #[.int .i64 2, .int .i64 0, .string s, .complex .f64 0 0]
def v0 : Value := .agg #[.int .i64 0, .int .i64 0, .string ⟨#[]⟩, .complex .f64 0 0]
theorem storeC (x y : Nat) (w : World) (a : Addr) (m : Mode) : (store a (.complex .f64 x y) m).run Tryd.prog w = stored Tryd.prog w a (.complex .f64 x y) m := run_store Tryd.prog w a _ m rfl
theorem Tryd.nn (n : Int) (w : World) : Calls Tryd.prog 14 #[.int .i64 n] w fun e w' => e = .returned (vN n) ∧ Below w.heap.size w w' := by
  have hsc := storeC
  go_enter Tryd.func14, Tryd.ntmps14
  go_wp2_with fail
  refine bodyPost_ret (v := vN n) (by simp [results, Tryd.results14, go_sem, vN]) rfl ⟨rfl, ?_⟩
  exact (Below.refl _ w).alloc (Nat.le_refl _) _
theorem Tryd.ss (s : ByteArray) (w : World) : Calls Tryd.prog 12 #[.string s] w fun e w' => e = .returned (vS s) ∧ Below w.heap.size w w' := by
  have hsc := storeC
  go_enter Tryd.func12, Tryd.ntmps12
  go_wp2_with fail
  refine bodyPost_ret (v := vS s) (by simp [results, Tryd.results12, go_sem, vS]) rfl ⟨rfl, ?_⟩
  exact (Below.refl _ w).alloc (Nat.le_refl _) _
theorem Tryd.nan (n : Int) (w : World) : Calls Tryd.prog 47 #[.int .i64 n] w fun e w' => e = .returned (.bool false) ∧ w = w' := by
  go_enter Tryd.func47, Tryd.ntmps47
  go_wp2
  go_ret
  exact ⟨rfl, rfl⟩
theorem Tryd.nan3 (n : Int) (w : World) : Calls Tryd.prog 46 #[.int .i64 n] w fun e w' => e = .returned (.bool false) ∧ w = w' := by
  go_enter Tryd.func46, Tryd.ntmps46
  go_wp2
  go_ret
  exact ⟨rfl, rfl⟩
def sgn (a b : Int) : Int := if a < b then -1 else if b < a then 1 else 0
theorem Tryd.cmp (a b : Int) (w : World) : Calls Tryd.prog 31 #[.int .i64 a, .int .i64 b] w fun e w' => e = .returned (.int .i64 (sgn a b)) ∧ w = w' := by
  have e1 : a < b → sgn a b = -1 := fun h => by unfold sgn; rw [if_pos h]
  have e2 : b < a → sgn a b = 1 := fun h => by unfold sgn; rw [if_neg (by omega), if_pos h]
  have e3 : ¬ a < b → ¬ b < a → sgn a b = 0 := fun h h' => by unfold sgn; rw [if_neg h, if_neg h']
  have E1 := Lib.hid e1
  have E2 := Lib.hid e2
  have E3 := Lib.hid e3
  clear e1 e2 e3
  by_cases h1 : a < b
  · have d1 : decide (a < b) = true := by simpa using h1
    rw [E1.out h1]
    clear h1
    go_enter Tryd.func31, Tryd.ntmps31
    go_wp2_with (go_at_call 47; refine (Tryd.nan _ _).mono ?_; rintro e w' ⟨rfl, rfl⟩)
    go_ret
    exact ⟨rfl, rfl⟩
  · have d1 : decide (a < b) = false := by simpa using h1
    by_cases h2 : b < a
    · have d2 : decide (b < a) = true := by simpa using h2
      rw [E2.out h2]
      clear h1 h2
      go_enter Tryd.func31, Tryd.ntmps31
      go_wp2_with (go_at_call 47; refine (Tryd.nan _ _).mono ?_; rintro e w' ⟨rfl, rfl⟩)
      go_ret
      exact ⟨rfl, rfl⟩
    · have d2 : decide (b < a) = false := by simpa using h2
      rw [E3.out h1 h2]
      clear h1 h2
      go_enter Tryd.func31, Tryd.ntmps31
      go_wp2_with (go_at_call 47; refine (Tryd.nan _ _).mono ?_; rintro e w' ⟨rfl, rfl⟩)
      go_ret
      exact ⟨rfl, rfl⟩
theorem Tryd.cmp3 (a b : Int) (w : World) : Calls Tryd.prog 30 #[.int .i64 a, .int .i64 b] w fun e w' => e = .returned (.int .i64 (sgn a b)) ∧ w = w' := by
  have e1 : a < b → sgn a b = -1 := fun h => by unfold sgn; rw [if_pos h]
  have e2 : b < a → sgn a b = 1 := fun h => by unfold sgn; rw [if_neg (by omega), if_pos h]
  have e3 : ¬ a < b → ¬ b < a → sgn a b = 0 := fun h h' => by unfold sgn; rw [if_neg h, if_neg h']
  have E1 := Lib.hid e1
  have E2 := Lib.hid e2
  have E3 := Lib.hid e3
  clear e1 e2 e3
  by_cases h1 : a < b
  · have d1 : decide (a < b) = true := by simpa using h1
    rw [E1.out h1]
    clear h1
    go_enter Tryd.func30, Tryd.ntmps30
    go_wp2_with (go_at_call 46; refine (Tryd.nan3 _ _).mono ?_; rintro e w' ⟨rfl, rfl⟩)
    go_ret
    exact ⟨rfl, rfl⟩
  · have d1 : decide (a < b) = false := by simpa using h1
    by_cases h2 : b < a
    · have d2 : decide (b < a) = true := by simpa using h2
      rw [E2.out h2]
      clear h1 h2
      go_enter Tryd.func30, Tryd.ntmps30
      go_wp2_with (go_at_call 46; refine (Tryd.nan3 _ _).mono ?_; rintro e w' ⟨rfl, rfl⟩)
      go_ret
      exact ⟨rfl, rfl⟩
    · have d2 : decide (b < a) = false := by simpa using h2
      rw [E3.out h1 h2]
      clear h1 h2
      go_enter Tryd.func30, Tryd.ntmps30
      go_wp2_with (go_at_call 46; refine (Tryd.nan3 _ _).mono ?_; rintro e w' ⟨rfl, rfl⟩)
      go_ret
      exact ⟨rfl, rfl⟩
theorem Tryd.compareN (a b : Int) (w : World) : Calls Tryd.prog 13 #[vN a, vN b] w fun e w' => e = .returned (.int .i64 (sgn a b)) ∧ Below w.heap.size w w' := by
  unfold vN
  go_enter Tryd.func13, Tryd.ntmps13
  go_wp2
  refine wp_scope_fwd 1 ?_
  go_wp2_with fail
  go_step3
  refine ⟨_, rfl, ?_⟩
  go_wp2_with (go_at_call 31; refine (Tryd.cmp _ _ _).mono ?_; rintro e w' ⟨rfl, rfl⟩)
  refine (Fwd.other (by intro l; simp)).2 ?_
  go_ret
  refine ⟨rfl, ?_⟩
  exact ((Below.refl _ w).alloc (Nat.le_refl _) _).alloc (by simp) _
theorem Tryd.sameN (a b : Int) (w : World) : Calls Tryd.prog 15 #[vN a, vN b] w fun e w' => e = .returned (.bool (decide (a = b))) ∧ Below w.heap.size w w' := by
  obtain ⟨r, hr⟩ : ∃ r, sgn a b = r := ⟨_, rfl⟩
  have hr0 : decide (r = 0) = decide (a = b) := by
    rw [← hr]
    unfold sgn
    by_cases h : a < b
    · rw [if_pos h, decide_eq_decide]; omega
    · rw [if_neg h]
      by_cases h' : b < a
      · rw [if_pos h', decide_eq_decide]; omega
      · rw [if_neg h', decide_eq_decide]; omega
  have hc := Tryd.compareN a b
  rw [hr] at hc
  unfold vN at hc ⊢
  have HC := Lib.hid hc
  have HR := Lib.hid hr0
  clear hc hr hr0
  go_enter Tryd.func15, Tryd.ntmps15
  go_wp2_with (go_at_call 13; refine (HC.out _).mono ?_; rintro e w1 ⟨rfl, hb⟩)
  have e : (r == 0) = decide (a = b) := by
    rw [← HR.out]
    by_cases h : r = 0 <;> simp [h]
  rw [e]
  go_ret
  refine ⟨rfl, ?_⟩
  exact (((Below.refl _ w).alloc (Nat.le_refl _) _).alloc (by simp) _).trans (hb.mono (by simp; omega))
end Go.Proofs.YtlgabpcjhhihdaaDoor
end
