/-
  Texts of a proof over the translated program: proved evaluators and walks, part 9 of 16.
-/
import Derived.Test.YtockbmppocbpjaaPartM8
import Derived.Below
import Derived.Deep.RegionHeld3
import Derived.Deep.RegionWith
import Derived.Handy
import Derived.IntWalk
import Derived.Lib.Hide
import Derived.LoopTactic
import Derived.Outline
import Derived.OwnWalk
import Derived.Scope
import Derived.ScopeJumps
import Derived.Test.YtockbmppocbpjaaProg
import Derived.WalkKit
import Derived.WalkMore
import Derived.WalkSpells
set_option linter.unusedVariables false
set_option linter.unusedSimpArgs false
set_option linter.unusedSectionVars false
set_option linter.unnecessarySimpa false
section
namespace Go.Proofs
open Go.RowKit
set_option maxRecDepth 100000
def c0 : Value := .complex .f64 0 0
def vN (n : Int) : Value := .agg #[.int .i64 1, .int .i64 n, .string ⟨#[]⟩, .complex .f64 0 0]
def v0 : Value := .agg #[.int .i64 0, .int .i64 0, .string ⟨#[]⟩, .complex .f64 0 0]
theorem storeC (w : World) (a : Addr) (m : Mode) : (store a (.complex .f64 0 0) m).run Try.prog w = stored Try.prog w a (.complex .f64 0 0) m := run_store Try.prog w a _ m rfl
theorem Try.nn (n : Int) (w : World) : Calls Try.prog 8 #[.int .i64 n] w fun e w' => e = .returned (vN n) ∧ Below w.heap.size w w' := by
  have hsc := storeC
  go_enter Try.func8, Try.ntmps8
  go_wp2_with fail
  refine bodyPost_ret (v := vN n) (by simp [results, Try.results8, go_sem, vN]) rfl ⟨rfl, ?_⟩
  exact (Below.refl _ w).alloc (Nat.le_refl _) _
theorem Try.nan (n : Int) (w : World) : Calls Try.prog 86 #[.int .i64 n] w fun e w' => e = .returned (.bool false) ∧ w = w' := by
  go_enter Try.func86, Try.ntmps86
  go_wp2
  go_ret
  exact ⟨rfl, rfl⟩
def sgn (a b : Int) : Int := if a < b then -1 else if b < a then 1 else 0
theorem Try.cmp (a b : Int) (w : World) : Calls Try.prog 55 #[.int .i64 a, .int .i64 b] w fun e w' => e = .returned (.int .i64 (sgn a b)) ∧ w = w' := by
  have e1 : a < b → sgn a b = -1 := fun h => by unfold sgn; rw [if_pos h]
  have e2 : b < a → sgn a b = 1 := fun h => by unfold sgn; rw [if_neg (by omega), if_pos h]
  have e3 : ¬ a < b → ¬ b < a → sgn a b = 0 := fun h h' => by unfold sgn; rw [if_neg h, if_neg h']
  have E1 := Lib.hid e1
  have E2 := Lib.hid e2
  have E3 := Lib.hid e3
  clear e1 e2 e3
  by_cases h1 : a < b
  · have d1 : decide (a < b) = true := by simpa using h1
    rw [E1.out h1]
    clear h1
    go_enter Try.func55, Try.ntmps55
    go_wp2_with (go_at_call 86; refine (Try.nan _ _).mono ?_; rintro e w' ⟨rfl, rfl⟩)
    go_ret
    exact ⟨rfl, rfl⟩
  · have d1 : decide (a < b) = false := by simpa using h1
    by_cases h2 : b < a
    · have d2 : decide (b < a) = true := by simpa using h2
      rw [E2.out h2]
      clear h1 h2
      go_enter Try.func55, Try.ntmps55
      go_wp2_with (go_at_call 86; refine (Try.nan _ _).mono ?_; rintro e w' ⟨rfl, rfl⟩)
      go_ret
      exact ⟨rfl, rfl⟩
    · have d2 : decide (b < a) = false := by simpa using h2
      rw [E3.out h1 h2]
      clear h1 h2
      go_enter Try.func55, Try.ntmps55
      go_wp2_with (go_at_call 86; refine (Try.nan _ _).mono ?_; rintro e w' ⟨rfl, rfl⟩)
      go_ret
      exact ⟨rfl, rfl⟩
theorem Try.compare (a b : Int) (w : World) : Calls Try.prog 25 #[vN a, vN b] w fun e w' => e = .returned (.int .i64 (sgn a b)) ∧ Below w.heap.size w w' := by
  unfold vN
  go_enter Try.func25, Try.ntmps25
  go_wp2
  refine wp_scope_fwd 1 ?_
  go_wp2_with fail
  go_step3
  refine ⟨_, rfl, ?_⟩
  go_wp2_with (go_at_call 55; refine (Try.cmp _ _ _).mono ?_; rintro e w' ⟨rfl, rfl⟩)
  refine (Fwd.other (by intro l; simp)).2 ?_
  go_ret
  refine ⟨rfl, ?_⟩
  exact ((Below.refl _ w).alloc (Nat.le_refl _) _).alloc (by simp) _
end Go.Proofs
end
