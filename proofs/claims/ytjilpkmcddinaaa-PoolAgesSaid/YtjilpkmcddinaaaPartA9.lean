/-
  Texts of a proof over the translated program: proved evaluators and walks, part 9 of 20.
-/
import Derived.Test.YtjilpkmcddinaaaPartA8
import Derived.Below
import Derived.Great.BuildSlice
import Derived.Ground.GgzProg
import Derived.Ground.SlgmProg
import Derived.Laws.CopyRow
import Derived.Laws.IdiomStrings
import Derived.Lib.SlKeysI
import Derived.MapKept
import Derived.Maps.Own
import Derived.Orders
import Derived.Shelf.SlIterI.Nil
import Derived.Shelf.SlIterI.Sorted
import Derived.Shelf.SortM.Plain
import Derived.Shelf.SortM.SortNone
import Derived.Test.YtjilpkmcddinaaaProg
import Derived.WalkKit
set_option linter.unusedVariables false
set_option linter.unusedSimpArgs false
set_option linter.unusedSectionVars false
set_option linter.unnecessarySimpa false
section
namespace Go.Proofs
open Go.RowKit Go.Maps Go.Sort Go.Shelf Go.FM
def Try.keysA_ren : Shelf.Ren where
  f := fun x => match x with
    | 7 => 38
    | 10 => 54
    | n => n
  t := fun x => match x with
    | 23 => 59
    | 26 => 3
    | 3 => 71
    | 28 => 87
    | 0 => 0
    | 27 => 86
    | 33 => 107
    | 4 => 4
    | n => n
  g := fun n => n
set_option maxRecDepth 100000 in
theorem Try.keysA : SlLaysZI.n7 Try.prog Try.keysA_ren where
  mixed := by kernel_rfl
  f7 := ⟨ "maps.Keys[map[int]*noria/pool.frame,int,*noria/pool.frame]", by decide +kernel, Eq.trans Try.func38 (by kernel_rfl)⟩
  f10 := ⟨ "maps.Keys[map[int]*noria/pool.frame,int,*noria/pool.frame]$1", by decide +kernel, Eq.trans Try.func54 (by kernel_rfl)⟩
  t0 := Try.underlying0
  a0 := Try.isAgg0
  z0 := Try.sizeOf0
  v0 := Try.zeroValue0
  t4 := Try.underlying4
  a4 := Try.isAgg4
  z4 := Try.sizeOf4
  v4 := Try.zeroValue4
  t23 := Try.underlying59
  a23 := Try.isAgg59
  z23 := Try.sizeOf59
  v23 := Try.zeroValue59
  t26 := Try.underlying3
  a26 := Try.isAgg3
  z26 := Try.sizeOf3
  v26 := Try.zeroValue3
  t27 := Try.underlying86
  a27 := Try.isAgg86
  z27 := Try.sizeOf86
  v27 := Try.zeroValue86
  t28 := Try.underlying87
  a28 := Try.isAgg87
  z28 := Try.sizeOf87
  v28 := Try.zeroValue87
  t33 := Try.underlying107
  a33 := Try.isAgg107
  z33 := Try.sizeOf107
  v33 := Try.zeroValue107
def Try.sortedA_ren : Shelf.Ren where
  f := fun x => match x with
    | 6 => 37
    | 8 => 52
    | 9 => 53
    | 11 => 72
    | 13 => 74
    | 12 => 73
    | 23 => 89
    | 24 => 90
    | 14 => 80
    | 15 => 81
    | 16 => 82
    | 17 => 83
    | 18 => 84
    | 19 => 85
    | 20 => 86
    | 21 => 87
    | 22 => 88
    | 25 => 91
    | 26 => 92
    | 27 => 93
    | 28 => 94
    | 29 => 95
    | 30 => 96
    | 31 => 97
    | n => n
  t := fun x => match x with
    | 26 => 3
    | 28 => 87
    | 24 => 50
    | 0 => 0
    | 3 => 3
    | 37 => 131
    | 48 => 115
    | 50 => 113
    | 4 => 4
    | 40 => 140
    | 39 => 139
    | 45 => 100
    | 5 => 5
    | 9 => 9
    | 51 => 147
    | 55 => 151
    | 57 => 153
    | 58 => 103
    | 33 => 107
    | n => n
  g := fun n => n
set_option maxRecDepth 100000 in
theorem Try.sortedA : SlLaysZI.n6 Try.prog Try.sortedA_ren where
  mixed := by kernel_rfl
  f6 := ⟨ "slices.Sorted[int]", by decide +kernel, Eq.trans Try.func37 (by kernel_rfl)⟩
  f8 := ⟨ "slices.Collect[int]", by decide +kernel, Eq.trans Try.func52 (by kernel_rfl)⟩
  f11 := ⟨ "slices.AppendSeq[[]int,int]", by decide +kernel, Eq.trans Try.func72 (by kernel_rfl)⟩
  t0 := Try.underlying0
  a0 := Try.isAgg0
  z0 := Try.sizeOf0
  v0 := Try.zeroValue0
  t24 := Try.underlying50
  a24 := Try.isAgg50
  z24 := Try.sizeOf50
  v24 := Try.zeroValue50
  t26 := Try.underlying3
  a26 := Try.isAgg3
  z26 := Try.sizeOf3
  v26 := Try.zeroValue3
  t28 := Try.underlying87
  a28 := Try.isAgg87
  z28 := Try.sizeOf87
  v28 := Try.zeroValue87
  i26 := by kernel_rfl
def Try.sortA_ren : Shelf.Ren where
  f := fun x => match x with
    | 5 => 53
    | 8 => 74
    | 7 => 73
    | 19 => 89
    | 20 => 90
    | 10 => 80
    | 11 => 81
    | 12 => 82
    | 13 => 83
    | 14 => 84
    | 15 => 85
    | 16 => 86
    | 17 => 87
    | 18 => 88
    | 30 => 91
    | 31 => 92
    | 32 => 93
    | 33 => 94
    | 34 => 95
    | 35 => 96
    | 40 => 97
    | n => n
  t := fun x => match x with
    | 23 => 50
    | 25 => 3
    | 3 => 3
    | 32 => 131
    | 22 => 50
    | 0 => 0
    | 44 => 115
    | 46 => 113
    | 4 => 4
    | 36 => 140
    | 35 => 139
    | 41 => 100
    | 5 => 5
    | 9 => 9
    | 53 => 147
    | 57 => 151
    | 63 => 153
    | 64 => 103
    | n => n
  g := fun n => n
set_option maxRecDepth 100000 in
theorem Try.sortA : SlLaysM.n5 Try.prog Try.sortA_ren where
  mixed := by kernel_rfl
  f5 := ⟨ "slices.Sort[[]int,int]", by decide +kernel, Eq.trans Try.func53 (by kernel_rfl)⟩
  f7 := ⟨ "slices.pdqsortOrdered[int]", by decide +kernel, Eq.trans Try.func73 (by kernel_rfl)⟩
  f8 := Eq.trans Try.func74 (by kernel_rfl)
  f10 := ⟨ "slices.insertionSortOrdered[int]", by decide +kernel, Eq.trans Try.func80 (by kernel_rfl)⟩
  f11 := ⟨ "slices.heapSortOrdered[int]", by decide +kernel, Eq.trans Try.func81 (by kernel_rfl)⟩
  f12 := ⟨ "slices.breakPatternsOrdered[int]", by decide +kernel, Eq.trans Try.func82 (by kernel_rfl)⟩
  f13 := ⟨ "slices.choosePivotOrdered[int]", by decide +kernel, Eq.trans Try.func83 (by kernel_rfl)⟩
  f14 := ⟨ "slices.reverseRangeOrdered[int]", by decide +kernel, Eq.trans Try.func84 (by kernel_rfl)⟩
  f15 := ⟨ "slices.partialInsertionSortOrdered[int]", by decide +kernel, Eq.trans Try.func85 (by kernel_rfl)⟩
  f16 := ⟨ "cmp.Less[int]", by decide +kernel, Eq.trans Try.func86 (by kernel_rfl)⟩
  f17 := ⟨ "slices.partitionEqualOrdered[int]", by decide +kernel, Eq.trans Try.func87 (by kernel_rfl)⟩
  f18 := ⟨ "slices.partitionOrdered[int]", by decide +kernel, Eq.trans Try.func88 (by kernel_rfl)⟩
  f19 := Eq.trans Try.func89 (by kernel_rfl)
  f20 := Eq.trans Try.func90 (by kernel_rfl)
  f30 := ⟨ "slices.siftDownOrdered[int]", by decide +kernel, Eq.trans Try.func91 (by kernel_rfl)⟩
  f31 := Eq.trans Try.func92 (by kernel_rfl)
  f32 := Eq.trans Try.func93 (by kernel_rfl)
  f33 := ⟨ "slices.medianAdjacentOrdered[int]", by decide +kernel, Eq.trans Try.func94 (by kernel_rfl)⟩
  f34 := ⟨ "slices.medianOrdered[int]", by decide +kernel, Eq.trans Try.func95 (by kernel_rfl)⟩
  f35 := ⟨ "cmp.isNaN[int]", by decide +kernel, Eq.trans Try.func96 (by kernel_rfl)⟩
  f40 := ⟨ "slices.order2Ordered[int]", by decide +kernel, Eq.trans Try.func97 (by kernel_rfl)⟩
  t0 := Try.underlying0
  a0 := Try.isAgg0
  z0 := Try.sizeOf0
  v0 := Try.zeroValue0
  t3 := Try.underlying3
  a3 := Try.isAgg3
  z3 := Try.sizeOf3
  v3 := Try.zeroValue3
  t4 := Try.underlying4
  a4 := Try.isAgg4
  z4 := Try.sizeOf4
  v4 := Try.zeroValue4
  t5 := Try.underlying5
  a5 := Try.isAgg5
  z5 := Try.sizeOf5
  v5 := Try.zeroValue5
  t9 := Try.underlying9
  a9 := Try.isAgg9
  z9 := Try.sizeOf9
  v9 := Try.zeroValue9
  t22 := Try.underlying50
  a22 := Try.isAgg50
  z22 := Try.sizeOf50
  v22 := Try.zeroValue50
  t23 := Try.underlying50
  a23 := Try.isAgg50
  z23 := Try.sizeOf50
  v23 := Try.zeroValue50
  t25 := Try.underlying3
  a25 := Try.isAgg3
  z25 := Try.sizeOf3
  v25 := Try.zeroValue3
  t32 := Try.underlying131
  a32 := Try.isAgg131
  z32 := Try.sizeOf131
  v32 := Try.zeroValue131
  t35 := Try.underlying139
  a35 := Try.isAgg139
  z35 := Try.sizeOf139
  v35 := Try.zeroValue139
  t36 := Try.underlying140
  a36 := Try.isAgg140
  z36 := Try.sizeOf140
  v36 := Try.zeroValue140
  t41 := Try.underlying100
  a41 := Try.isAgg100
  z41 := Try.sizeOf100
  v41 := Try.zeroValue100
  t44 := Try.underlying115
  a44 := Try.isAgg115
  z44 := Try.sizeOf115
  v44 := Try.zeroValue115
  t46 := Try.underlying113
  a46 := Try.isAgg113
  z46 := Try.sizeOf113
  v46 := Try.zeroValue113
  t53 := Try.underlying147
  a53 := Try.isAgg147
  z53 := Try.sizeOf147
  v53 := Try.zeroValue147
  t57 := Try.underlying151
  a57 := Try.isAgg151
  z57 := Try.sizeOf151
  v57 := Try.zeroValue151
  t63 := Try.underlying153
  a63 := Try.isAgg153
  z63 := Try.sizeOf153
  v63 := Try.zeroValue153
  t64 := Try.underlying103
  a64 := Try.isAgg103
  z64 := Try.sizeOf103
  v64 := Try.zeroValue103
theorem Try.sortsA (m : Nat) : AnyZI.SortsIn Try.prog Try.sortedA_ren Fence.wide m :=
  ⟨fun blk off cap ss W hH hblk hsz => callsIn_wide.2 (AnyM.slices_Sort_int Try.sortA blk off cap ss W hH hblk hsz),
   fun p cap W => callsIn_wide.2 (AnyM.slices_Sort_int_none Try.sortA p cap W)⟩
set_option maxHeartbeats 1000000 in
theorem Try.held : HeldSpec Try.prog 20 3 3 3 := by
  intro w kb ko b nn D0 hcell hown hmax hbytes
  refine (callsIn_wide (n := 6)).1 ?_
  have hbl := hown.lt
  have hseq : SeqGives Fence.wide 2 Try.prog 54 #[.pointer (some ⟨w.heap.size, 0, none⟩)] encZ (fun ss => ss.Perm (intKeys D0)) (Maps.size D0) (w.alloc (.cells #[.map (some b)] 59)) :=
    AnyZI.keys_gives (ρ := Try.keysA_ren) { Try.keysA with } Fence.wide _ trivial rfl (by omega) w.heap.size b nn D0 _ (by simp) (by simp) (by
      obtain ⟨es, clock, hb, Ft, hs, hD⟩ := hown
      exact ⟨es, clock, (Below.heap_alloc _ _ b hbl).trans hb, Ft, hs, hD⟩)
  have cK : ∀ mb W, CallsIn Fence.wide 5 Try.prog 38 #[.map mb] W fun e w' => e = .returned (.func (.func 54) #[] #[.pointer (some ⟨W.heap.size, 0, none⟩)]) ∧ w' = W.alloc (.cells #[.map mb] 59) := fun mb W => AnyZI.keys_in Try.keysA Fence.wide 5 trivial rfl mb W
  have cS := AnyZI.sorted_in Try.sortedA Fence.wide 5 trivial trivial trivial trivial rfl (by omega) (Try.sortsA _) (enters_of Try.func53 (by kernel_rfl) rfl) 54 #[.pointer (some ⟨w.heap.size, 0, none⟩)] trivial (enters_of Try.func54 (by kernel_rfl) rfl) _ _ hmax hbytes _ hseq
  change CallsIn _ _ Try.prog 37 _ _ _ at cS
  have hfK : Fence.wide.fn 38 := trivial
  have hfS : Fence.wide.fn 37 := trivial
  refine callsIn_of_wp Try.func20 rfl trivial ?_ rfl
  simp only [Try.ntmps20, List.size_toArray, List.length_cons, List.length_nil, Nat.reduceAdd, Nat.reduceSub, Array.replicate_succ, Array.replicate_zero, List.push_toArray, List.append_toArray, List.nil_append, List.cons_append]
  gi_wp2_with (first
    | (gi_at_call 38; refine (cK _ _).mono ?_; rintro e w' ⟨rfl, rfl⟩)
    | (gi_at_call 37; refine cS.mono ?_; rintro e w' ⟨v, ss, rfl, hS, hrow, hnil, hb⟩))
  go_ret
  exact ⟨v, ss, rfl, hS, ownsRow_base_a hrow (by simp), hnil, ((Below.refl _ w).alloc (Nat.le_refl _) _).trans (hb.mono (by simp))⟩
end Go.Proofs
end
