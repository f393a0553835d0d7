/-
  Texts of a proof over the translated program: NqXPin.
-/
import Derived.Test.YtignlmfaoagolaaGreatProg
import Derived.Test.YtignlmfaoagolaaGreatLibD5
import Derived.WalkKit
import Derived.Maps.RangeWalk
set_option linter.unusedVariables false
set_option linter.unusedSimpArgs false
set_option linter.unusedSectionVars false
namespace Go.Proofs
open Go.RowKit Go.Maps Go.FM
theorem Tryz.law3 : Keyed Tryz.prog 3 := int_keyed Tryz.underlying3
set_option maxRecDepth 100000 in
set_option maxHeartbeats 2000000 in
theorem Tryz.pinned : PinnedSpec Tryz.prog 19 3 1 3 := by
  intro w kb ko b nn D0 hcell hkb hown hsz
  go_enter Tryz.func19, Tryz.ntmps19
  go_wp2_with (first
    | (at_range; refine wpList_range_own _ rfl _ 122 rfl 3 125 Tryz.law3 Tryz.underlying122 _ b nn _ rfl hown ?_; intro w0 hrg0 hg0 hs0)
    | go_in)
  go_frame
  go_loopw [3, 5] (fun v _ wr => ∃ (left : Lit → Bool) (cnt : Nat) (ss : List Int), wr.ranges Tryz.prog 3 (pinR w 1) b w.heap.size nn D0 left cnt ∧ CollectedI D0 left ss ∧ ss.length + cnt ≤ Maps.size D0 ∧ v = .int .i64 (((ss.filter (posOf D0)).length : Int)) ∧ Below w.heap.size w wr)
    (fun _ _ wr => wr.rangeLeft b w.heap.size)
  case atStart =>
    exact ⟨_, _, [], hrg0, CollectedI.start D0, by simp, rfl, (Below.refl _ w).grown hg0 (Nat.le_refl _) (fun k hk => by cases hk)⟩
  case round =>
    obtain ⟨left, cnt, ss, hrg, hC, hle, hv0, hbel⟩ := hrel
    subst hv0
    go_wp2_with (first
      | (at_next; refine wpList_next_ranges _ rfl _ rfl 3 Tryz.law3 (pinR w 1) (Value.int .i64) id (fun key kl hk => by obtain ⟨x, hx, _⟩ := Maps.keyOf_i64 Tryz.underlying3 hk; exact ⟨x, hx⟩) (fun v _ _ => ⟨v, rfl⟩) b w.heap.size nn _ _ _ rfl hrg ?_ ?_)
      | go_in)
    · intro hc0 hl0
      have hper := hC.perm hown Tryz.law3 Tryz.underlying3 hl0
      have hcnt : (ss.filter (posOf D0)).length = ((intKeys D0).filter (posOf D0)).length := (hper.filter _).length_eq
      rw [hcnt]
      go_wp2
      go_ret
      exact ⟨rfl, hbel⟩
    · intro x c kl yd yp w2 cnt2 hkey hlk hv hat hrg2 hlt hg2 hs2 hen
      obtain ⟨x', ex, rfl, _⟩ := Maps.keyOf_i64 Tryz.underlying3 hkey
      obtain rfl : x = x' := by injection ex
      obtain ⟨pb, po, p, hcv, hpb, hpc, hy⟩ := pinR_some hv
      subst hcv
      simp only [Prod.mk.injEq] at hy
      obtain ⟨rfl, rfl⟩ := hy
      have hbel2 : Below w.heap.size w w2 := hbel.grown hg2 hbel.size (fun k hk => by cases hk; exact Nat.le_refl _)
      have hc2 : w2.cell? ⟨pb, po + 1, none⟩ = some (.int .i64 p) := (hbel2.cell hpb).trans hpc
      have hC2 := hC.step hlk hat
      have hpos : posOf D0 x = decide (p > 0) := by unfold posOf; rw [hat]
      have hll : ss.length + 1 ≤ 100000 := by omega
      have hlf : (ss.filter (posOf D0)).length ≤ ss.length := List.length_filter_le _ _
      clear hs2 hv
      go_wp2
      · have hp1 : posOf D0 x = true := by rw [hpos]; simpa using by assumption
        refine ⟨⟨_, cnt2, ss ++ [x], hrg2, hC2, by simp; omega, ?_, hbel2⟩, ?_⟩
        · simp [List.filter_append, hp1]
        · rw [hrg2.left_eq, hrg.left_eq]; exact hlt
      · have hp1 : posOf D0 x = false := by rw [hpos]; simp; omega
        refine ⟨⟨_, cnt2, ss ++ [x], hrg2, hC2, by simp; omega, ?_, hbel2⟩, ?_⟩
        · simp [List.filter_append, hp1]
        · rw [hrg2.left_eq, hrg.left_eq]; exact hlt
end Go.Proofs
