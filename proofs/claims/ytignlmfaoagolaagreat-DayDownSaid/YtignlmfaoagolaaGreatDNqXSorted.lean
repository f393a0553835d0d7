/-
  Texts of a proof over the translated program: NqXSorted.
-/
import Derived.Shelf.SlIterI.Sorted
import Derived.Shelf.SlIterI.Nil
import Derived.Shelf.SortM.Plain
import Derived.Shelf.SortM.SortNone
import Derived.Ground.GgzProg
import Derived.Ground.SlgmProg
import Derived.Test.YtignlmfaoagolaaGreatProg
import Derived.Test.YtignlmfaoagolaaGreatDFnSorted
set_option linter.unusedVariables false
set_option linter.unusedSimpArgs false
set_option linter.unusedSectionVars false
namespace Go.Proofs
open Go.RowKit Go.Maps Go.Sort Go.Shelf Go.FM
def Tryz.keysA_ren : Shelf.Ren where
  f := fun x => match x with
    | 7 => 47
    | 10 => 82
    | n => n
  t := fun x => match x with
    | 23 => 106
    | 26 => 3
    | 3 => 133
    | 28 => 131
    | 0 => 0
    | 27 => 130
    | 33 => 202
    | 4 => 4
    | n => n
  g := fun n => n
def Tryz.keysB_ren : Shelf.Ren where
  f := fun x => match x with
    | 7 => 52
    | 10 => 84
    | n => n
  t := fun x => match x with
    | 23 => 105
    | 26 => 3
    | 3 => 109
    | 28 => 131
    | 0 => 0
    | 27 => 130
    | 33 => 202
    | 4 => 4
    | n => n
  g := fun n => n
def Tryz.keysC_ren : Shelf.Ren where
  f := fun x => match x with
    | 7 => 144
    | 10 => 208
    | n => n
  t := fun x => match x with
    | 23 => 223
    | 26 => 3
    | 3 => 50
    | 28 => 131
    | 0 => 0
    | 27 => 130
    | 33 => 202
    | 4 => 4
    | n => n
  g := fun n => n
def Tryz.keysD_ren : Shelf.Ren where
  f := fun x => match x with
    | 7 => 362
    | 10 => 371
    | n => n
  t := fun x => match x with
    | 23 => 122
    | 26 => 3
    | 3 => 125
    | 28 => 131
    | 0 => 0
    | 27 => 130
    | 33 => 202
    | 4 => 4
    | n => n
  g := fun n => n
def Tryz.sortedA_ren : Shelf.Ren where
  f := fun x => match x with
    | 6 => 46
    | 8 => 80
    | 9 => 81
    | 11 => 123
    | 13 => 125
    | 12 => 124
    | 23 => 188
    | 24 => 189
    | 14 => 179
    | 15 => 180
    | 16 => 181
    | 17 => 182
    | 18 => 183
    | 19 => 184
    | 20 => 185
    | 21 => 186
    | 22 => 187
    | 25 => 242
    | 26 => 243
    | 27 => 244
    | 28 => 245
    | 29 => 246
    | 30 => 155
    | 31 => 281
    | n => n
  t := fun x => match x with
    | 26 => 3
    | 28 => 131
    | 24 => 59
    | 0 => 0
    | 3 => 3
    | 37 => 76
    | 48 => 319
    | 50 => 80
    | 4 => 4
    | 40 => 312
    | 39 => 311
    | 45 => 316
    | 5 => 5
    | 9 => 9
    | 51 => 374
    | 55 => 378
    | 57 => 425
    | 58 => 426
    | 33 => 202
    | n => n
  g := fun n => n
def Tryz.sortA_ren : Shelf.Ren where
  f := fun x => match x with
    | 5 => 81
    | 8 => 125
    | 7 => 124
    | 19 => 188
    | 20 => 189
    | 10 => 179
    | 11 => 180
    | 12 => 181
    | 13 => 182
    | 14 => 183
    | 15 => 184
    | 16 => 185
    | 17 => 186
    | 18 => 187
    | 30 => 242
    | 31 => 243
    | 32 => 244
    | 33 => 245
    | 34 => 246
    | 35 => 155
    | 40 => 281
    | n => n
  t := fun x => match x with
    | 23 => 59
    | 25 => 3
    | 3 => 3
    | 32 => 76
    | 22 => 59
    | 0 => 0
    | 44 => 319
    | 46 => 80
    | 4 => 4
    | 36 => 312
    | 35 => 311
    | 41 => 316
    | 5 => 5
    | 9 => 9
    | 53 => 374
    | 57 => 378
    | 63 => 425
    | 64 => 426
    | n => n
  g := fun n => n
set_option maxRecDepth 100000 in
theorem Tryz.keysA : SlLaysZI.n7 Tryz.prog Tryz.keysA_ren where
  mixed := by kernel_rfl
  f7 := ⟨ "maps.Keys[map[int]*noria/serve.opened,int,*noria/serve.opened]", by decide +kernel, Eq.trans Tryz.func47 (by kernel_rfl)⟩
  f10 := ⟨ "maps.Keys[map[int]*noria/serve.opened,int,*noria/serve.opened]$1", by decide +kernel, Eq.trans Tryz.func82 (by kernel_rfl)⟩
  t0 := Tryz.underlying0
  a0 := Tryz.isAgg0
  z0 := Tryz.sizeOf0
  v0 := Tryz.zeroValue0
  t4 := Tryz.underlying4
  a4 := Tryz.isAgg4
  z4 := Tryz.sizeOf4
  v4 := Tryz.zeroValue4
  t23 := Tryz.underlying106
  a23 := Tryz.isAgg106
  z23 := Tryz.sizeOf106
  v23 := Tryz.zeroValue106
  t26 := Tryz.underlying3
  a26 := Tryz.isAgg3
  z26 := Tryz.sizeOf3
  v26 := Tryz.zeroValue3
  t27 := Tryz.underlying130
  a27 := Tryz.isAgg130
  z27 := Tryz.sizeOf130
  v27 := Tryz.zeroValue130
  t28 := Tryz.underlying131
  a28 := Tryz.isAgg131
  z28 := Tryz.sizeOf131
  v28 := Tryz.zeroValue131
  t33 := Tryz.underlying202
  a33 := Tryz.isAgg202
  z33 := Tryz.sizeOf202
  v33 := Tryz.zeroValue202
set_option maxRecDepth 100000 in
theorem Tryz.keysB : SlLaysZI.n7 Tryz.prog Tryz.keysB_ren where
  mixed := by kernel_rfl
  f7 := ⟨ "maps.Keys[map[int]*noria/serve.session,int,*noria/serve.session]", by decide +kernel, Eq.trans Tryz.func52 (by kernel_rfl)⟩
  f10 := ⟨ "maps.Keys[map[int]*noria/serve.session,int,*noria/serve.session]$1", by decide +kernel, Eq.trans Tryz.func84 (by kernel_rfl)⟩
  t0 := Tryz.underlying0
  a0 := Tryz.isAgg0
  z0 := Tryz.sizeOf0
  v0 := Tryz.zeroValue0
  t4 := Tryz.underlying4
  a4 := Tryz.isAgg4
  z4 := Tryz.sizeOf4
  v4 := Tryz.zeroValue4
  t23 := Tryz.underlying105
  a23 := Tryz.isAgg105
  z23 := Tryz.sizeOf105
  v23 := Tryz.zeroValue105
  t26 := Tryz.underlying3
  a26 := Tryz.isAgg3
  z26 := Tryz.sizeOf3
  v26 := Tryz.zeroValue3
  t27 := Tryz.underlying130
  a27 := Tryz.isAgg130
  z27 := Tryz.sizeOf130
  v27 := Tryz.zeroValue130
  t28 := Tryz.underlying131
  a28 := Tryz.isAgg131
  z28 := Tryz.sizeOf131
  v28 := Tryz.zeroValue131
  t33 := Tryz.underlying202
  a33 := Tryz.isAgg202
  z33 := Tryz.sizeOf202
  v33 := Tryz.zeroValue202
set_option maxRecDepth 100000 in
theorem Tryz.keysC : SlLaysZI.n7 Tryz.prog Tryz.keysC_ren where
  mixed := by kernel_rfl
  f7 := ⟨ "maps.Keys[map[int]noria/req.Req,int,noria/req.Req]", by decide +kernel, Eq.trans Tryz.func144 (by kernel_rfl)⟩
  f10 := ⟨ "maps.Keys[map[int]noria/req.Req,int,noria/req.Req]$1", by decide +kernel, Eq.trans Tryz.func208 (by kernel_rfl)⟩
  t0 := Tryz.underlying0
  a0 := Tryz.isAgg0
  z0 := Tryz.sizeOf0
  v0 := Tryz.zeroValue0
  t4 := Tryz.underlying4
  a4 := Tryz.isAgg4
  z4 := Tryz.sizeOf4
  v4 := Tryz.zeroValue4
  t23 := Tryz.underlying223
  a23 := Tryz.isAgg223
  z23 := Tryz.sizeOf223
  v23 := Tryz.zeroValue223
  t26 := Tryz.underlying3
  a26 := Tryz.isAgg3
  z26 := Tryz.sizeOf3
  v26 := Tryz.zeroValue3
  t27 := Tryz.underlying130
  a27 := Tryz.isAgg130
  z27 := Tryz.sizeOf130
  v27 := Tryz.zeroValue130
  t28 := Tryz.underlying131
  a28 := Tryz.isAgg131
  z28 := Tryz.sizeOf131
  v28 := Tryz.zeroValue131
  t33 := Tryz.underlying202
  a33 := Tryz.isAgg202
  z33 := Tryz.sizeOf202
  v33 := Tryz.zeroValue202
set_option maxRecDepth 100000 in
theorem Tryz.keysD : SlLaysZI.n7 Tryz.prog Tryz.keysD_ren where
  mixed := by kernel_rfl
  f7 := ⟨ "maps.Keys[map[int]*noria/pool.frame,int,*noria/pool.frame]", by decide +kernel, Eq.trans Tryz.func362 (by kernel_rfl)⟩
  f10 := ⟨ "maps.Keys[map[int]*noria/pool.frame,int,*noria/pool.frame]$1", by decide +kernel, Eq.trans Tryz.func371 (by kernel_rfl)⟩
  t0 := Tryz.underlying0
  a0 := Tryz.isAgg0
  z0 := Tryz.sizeOf0
  v0 := Tryz.zeroValue0
  t4 := Tryz.underlying4
  a4 := Tryz.isAgg4
  z4 := Tryz.sizeOf4
  v4 := Tryz.zeroValue4
  t23 := Tryz.underlying122
  a23 := Tryz.isAgg122
  z23 := Tryz.sizeOf122
  v23 := Tryz.zeroValue122
  t26 := Tryz.underlying3
  a26 := Tryz.isAgg3
  z26 := Tryz.sizeOf3
  v26 := Tryz.zeroValue3
  t27 := Tryz.underlying130
  a27 := Tryz.isAgg130
  z27 := Tryz.sizeOf130
  v27 := Tryz.zeroValue130
  t28 := Tryz.underlying131
  a28 := Tryz.isAgg131
  z28 := Tryz.sizeOf131
  v28 := Tryz.zeroValue131
  t33 := Tryz.underlying202
  a33 := Tryz.isAgg202
  z33 := Tryz.sizeOf202
  v33 := Tryz.zeroValue202
set_option maxRecDepth 100000 in
theorem Tryz.sortedA : SlLaysZI.n6 Tryz.prog Tryz.sortedA_ren where
  mixed := by kernel_rfl
  f6 := ⟨ "slices.Sorted[int]", by decide +kernel, Eq.trans Tryz.func46 (by kernel_rfl)⟩
  f8 := ⟨ "slices.Collect[int]", by decide +kernel, Eq.trans Tryz.func80 (by kernel_rfl)⟩
  f11 := ⟨ "slices.AppendSeq[[]int,int]", by decide +kernel, Eq.trans Tryz.func123 (by kernel_rfl)⟩
  t0 := Tryz.underlying0
  a0 := Tryz.isAgg0
  z0 := Tryz.sizeOf0
  v0 := Tryz.zeroValue0
  t24 := Tryz.underlying59
  a24 := Tryz.isAgg59
  z24 := Tryz.sizeOf59
  v24 := Tryz.zeroValue59
  t26 := Tryz.underlying3
  a26 := Tryz.isAgg3
  z26 := Tryz.sizeOf3
  v26 := Tryz.zeroValue3
  t28 := Tryz.underlying131
  a28 := Tryz.isAgg131
  z28 := Tryz.sizeOf131
  v28 := Tryz.zeroValue131
  i26 := by kernel_rfl
set_option maxRecDepth 100000 in
theorem Tryz.sortA : SlLaysM.n5 Tryz.prog Tryz.sortA_ren where
  mixed := by kernel_rfl
  f5 := ⟨ "slices.Sort[[]int,int]", by decide +kernel, Eq.trans Tryz.func81 (by kernel_rfl)⟩
  f7 := ⟨ "slices.pdqsortOrdered[int]", by decide +kernel, Eq.trans Tryz.func124 (by kernel_rfl)⟩
  f8 := Eq.trans Tryz.func125 (by kernel_rfl)
  f10 := ⟨ "slices.insertionSortOrdered[int]", by decide +kernel, Eq.trans Tryz.func179 (by kernel_rfl)⟩
  f11 := ⟨ "slices.heapSortOrdered[int]", by decide +kernel, Eq.trans Tryz.func180 (by kernel_rfl)⟩
  f12 := ⟨ "slices.breakPatternsOrdered[int]", by decide +kernel, Eq.trans Tryz.func181 (by kernel_rfl)⟩
  f13 := ⟨ "slices.choosePivotOrdered[int]", by decide +kernel, Eq.trans Tryz.func182 (by kernel_rfl)⟩
  f14 := ⟨ "slices.reverseRangeOrdered[int]", by decide +kernel, Eq.trans Tryz.func183 (by kernel_rfl)⟩
  f15 := ⟨ "slices.partialInsertionSortOrdered[int]", by decide +kernel, Eq.trans Tryz.func184 (by kernel_rfl)⟩
  f16 := ⟨ "cmp.Less[int]", by decide +kernel, Eq.trans Tryz.func185 (by kernel_rfl)⟩
  f17 := ⟨ "slices.partitionEqualOrdered[int]", by decide +kernel, Eq.trans Tryz.func186 (by kernel_rfl)⟩
  f18 := ⟨ "slices.partitionOrdered[int]", by decide +kernel, Eq.trans Tryz.func187 (by kernel_rfl)⟩
  f19 := Eq.trans Tryz.func188 (by kernel_rfl)
  f20 := Eq.trans Tryz.func189 (by kernel_rfl)
  f30 := ⟨ "slices.siftDownOrdered[int]", by decide +kernel, Eq.trans Tryz.func242 (by kernel_rfl)⟩
  f31 := Eq.trans Tryz.func243 (by kernel_rfl)
  f32 := Eq.trans Tryz.func244 (by kernel_rfl)
  f33 := ⟨ "slices.medianAdjacentOrdered[int]", by decide +kernel, Eq.trans Tryz.func245 (by kernel_rfl)⟩
  f34 := ⟨ "slices.medianOrdered[int]", by decide +kernel, Eq.trans Tryz.func246 (by kernel_rfl)⟩
  f35 := ⟨ "cmp.isNaN[int]", by decide +kernel, Eq.trans Tryz.func155 (by kernel_rfl)⟩
  f40 := ⟨ "slices.order2Ordered[int]", by decide +kernel, Eq.trans Tryz.func281 (by kernel_rfl)⟩
  t0 := Tryz.underlying0
  a0 := Tryz.isAgg0
  z0 := Tryz.sizeOf0
  v0 := Tryz.zeroValue0
  t3 := Tryz.underlying3
  a3 := Tryz.isAgg3
  z3 := Tryz.sizeOf3
  v3 := Tryz.zeroValue3
  t4 := Tryz.underlying4
  a4 := Tryz.isAgg4
  z4 := Tryz.sizeOf4
  v4 := Tryz.zeroValue4
  t5 := Tryz.underlying5
  a5 := Tryz.isAgg5
  z5 := Tryz.sizeOf5
  v5 := Tryz.zeroValue5
  t9 := Tryz.underlying9
  a9 := Tryz.isAgg9
  z9 := Tryz.sizeOf9
  v9 := Tryz.zeroValue9
  t22 := Tryz.underlying59
  a22 := Tryz.isAgg59
  z22 := Tryz.sizeOf59
  v22 := Tryz.zeroValue59
  t23 := Tryz.underlying59
  a23 := Tryz.isAgg59
  z23 := Tryz.sizeOf59
  v23 := Tryz.zeroValue59
  t25 := Tryz.underlying3
  a25 := Tryz.isAgg3
  z25 := Tryz.sizeOf3
  v25 := Tryz.zeroValue3
  t32 := Tryz.underlying76
  a32 := Tryz.isAgg76
  z32 := Tryz.sizeOf76
  v32 := Tryz.zeroValue76
  t35 := Tryz.underlying311
  a35 := Tryz.isAgg311
  z35 := Tryz.sizeOf311
  v35 := Tryz.zeroValue311
  t36 := Tryz.underlying312
  a36 := Tryz.isAgg312
  z36 := Tryz.sizeOf312
  v36 := Tryz.zeroValue312
  t41 := Tryz.underlying316
  a41 := Tryz.isAgg316
  z41 := Tryz.sizeOf316
  v41 := Tryz.zeroValue316
  t44 := Tryz.underlying319
  a44 := Tryz.isAgg319
  z44 := Tryz.sizeOf319
  v44 := Tryz.zeroValue319
  t46 := Tryz.underlying80
  a46 := Tryz.isAgg80
  z46 := Tryz.sizeOf80
  v46 := Tryz.zeroValue80
  t53 := Tryz.underlying374
  a53 := Tryz.isAgg374
  z53 := Tryz.sizeOf374
  v53 := Tryz.zeroValue374
  t57 := Tryz.underlying378
  a57 := Tryz.isAgg378
  z57 := Tryz.sizeOf378
  v57 := Tryz.zeroValue378
  t63 := Tryz.underlying425
  a63 := Tryz.isAgg425
  z63 := Tryz.sizeOf425
  v63 := Tryz.zeroValue425
  t64 := Tryz.underlying426
  a64 := Tryz.isAgg426
  z64 := Tryz.sizeOf426
  v64 := Tryz.zeroValue426
theorem Tryz.sortsA (m : Nat) : AnyZI.SortsIn Tryz.prog Tryz.sortedA_ren Fence.wide m :=
  ⟨fun blk off cap ss W hH hblk hsz => callsIn_wide.2 (AnyM.slices_Sort_int Tryz.sortA blk off cap ss W hH hblk hsz),
   fun p cap W => callsIn_wide.2 (AnyM.slices_Sort_int_none Tryz.sortA p cap W)⟩
set_option maxHeartbeats 1000000 in
theorem Tryz.srtA : SortedSpec Tryz.prog 46 82 3 3 := by
  intro w kb b nn D0 hcell hkb hown hmax hbytes
  refine (callsIn_wide (n := 5)).1 ?_
  have hseq : SeqGives Fence.wide 2 Tryz.prog 82 #[.pointer (some ⟨kb, 0, none⟩)] encZ (fun ss => ss.Perm (intKeys D0)) (Maps.size D0) w :=
    AnyZI.keys_gives (ρ := Tryz.keysA_ren) { Tryz.keysA with } Fence.wide _ trivial rfl (by omega) kb b nn D0 _ hkb hcell hown
  have cS := AnyZI.sorted_in Tryz.sortedA Fence.wide 5 trivial trivial trivial trivial rfl (by omega) (Tryz.sortsA _) (enters_of Tryz.func81 (by kernel_rfl) rfl) 82 #[.pointer (some ⟨kb, 0, none⟩)] trivial (enters_of Tryz.func82 (by kernel_rfl) rfl) _ _ hmax hbytes _ hseq
  change CallsIn _ _ Tryz.prog 46 _ _ _ at cS
  exact cS
set_option maxHeartbeats 1000000 in
theorem Tryz.srtB : SortedSpec Tryz.prog 46 84 3 3 := by
  intro w kb b nn D0 hcell hkb hown hmax hbytes
  refine (callsIn_wide (n := 5)).1 ?_
  have hseq : SeqGives Fence.wide 2 Tryz.prog 84 #[.pointer (some ⟨kb, 0, none⟩)] encZ (fun ss => ss.Perm (intKeys D0)) (Maps.size D0) w :=
    AnyZI.keys_gives (ρ := Tryz.keysB_ren) { Tryz.keysB with } Fence.wide _ trivial rfl (by omega) kb b nn D0 _ hkb hcell hown
  have cS := AnyZI.sorted_in Tryz.sortedA Fence.wide 5 trivial trivial trivial trivial rfl (by omega) (Tryz.sortsA _) (enters_of Tryz.func81 (by kernel_rfl) rfl) 84 #[.pointer (some ⟨kb, 0, none⟩)] trivial (enters_of Tryz.func84 (by kernel_rfl) rfl) _ _ hmax hbytes _ hseq
  change CallsIn _ _ Tryz.prog 46 _ _ _ at cS
  exact cS
set_option maxHeartbeats 1000000 in
theorem Tryz.srtC : SortedSpec Tryz.prog 46 208 3 3 := by
  intro w kb b nn D0 hcell hkb hown hmax hbytes
  refine (callsIn_wide (n := 5)).1 ?_
  have hseq : SeqGives Fence.wide 2 Tryz.prog 208 #[.pointer (some ⟨kb, 0, none⟩)] encZ (fun ss => ss.Perm (intKeys D0)) (Maps.size D0) w :=
    AnyZI.keys_gives (ρ := Tryz.keysC_ren) { Tryz.keysC with } Fence.wide _ trivial rfl (by omega) kb b nn D0 _ hkb hcell hown
  have cS := AnyZI.sorted_in Tryz.sortedA Fence.wide 5 trivial trivial trivial trivial rfl (by omega) (Tryz.sortsA _) (enters_of Tryz.func81 (by kernel_rfl) rfl) 208 #[.pointer (some ⟨kb, 0, none⟩)] trivial (enters_of Tryz.func208 (by kernel_rfl) rfl) _ _ hmax hbytes _ hseq
  change CallsIn _ _ Tryz.prog 46 _ _ _ at cS
  exact cS
set_option maxHeartbeats 1000000 in
theorem Tryz.srtD : SortedSpec Tryz.prog 46 371 3 3 := by
  intro w kb b nn D0 hcell hkb hown hmax hbytes
  refine (callsIn_wide (n := 5)).1 ?_
  have hseq : SeqGives Fence.wide 2 Tryz.prog 371 #[.pointer (some ⟨kb, 0, none⟩)] encZ (fun ss => ss.Perm (intKeys D0)) (Maps.size D0) w :=
    AnyZI.keys_gives (ρ := Tryz.keysD_ren) { Tryz.keysD with } Fence.wide _ trivial rfl (by omega) kb b nn D0 _ hkb hcell hown
  have cS := AnyZI.sorted_in Tryz.sortedA Fence.wide 5 trivial trivial trivial trivial rfl (by omega) (Tryz.sortsA _) (enters_of Tryz.func81 (by kernel_rfl) rfl) 371 #[.pointer (some ⟨kb, 0, none⟩)] trivial (enters_of Tryz.func371 (by kernel_rfl) rfl) _ _ hmax hbytes _ hseq
  change CallsIn _ _ Tryz.prog 46 _ _ _ at cS
  exact cS
end Go.Proofs
