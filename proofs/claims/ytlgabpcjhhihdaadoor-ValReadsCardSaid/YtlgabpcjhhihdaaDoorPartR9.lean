/-
  Texts of a proof over the translated program: proved evaluators and walks, part 9 of 13.
-/
import Derived.Test.YtlgabpcjhhihdaaDoorPartR8
import Derived.Below
import Derived.Deep.Cut
import Derived.Deep.RegionHeld3
import Derived.Deep.RegionWith
import Derived.Handy
import Derived.IntWalk
import Derived.Laws.Cells
import Derived.Laws.Concat
import Derived.Laws.CopyRow
import Derived.Laws.Externs
import Derived.Laws.Strings
import Derived.Laws.Strings2
import Derived.Laws.Strings3
import Derived.Laws.StructEq
import Derived.Lib.AppendIntMem
import Derived.Lib.Builder
import Derived.Lib.Hide
import Derived.Lib.ItoaLen
import Derived.LoopTactic
import Derived.Outline
import Derived.OwnWalk
import Derived.ProofKit
import Derived.Scope
import Derived.ScopeJumps
import Derived.Shelf.LaysC
import Derived.Shelf.LaysM
import Derived.Shelf.Small.Strs
import Derived.Shelf.Small.Wraps
import Derived.Shelf.Strconv.Clone
import Derived.Shelf.Strconv.ErrVarParseInt
import Derived.Shelf.Strconv.Itoa0
import Derived.Shelf.Strconv.Itoa1
import Derived.Shelf.Strconv.Itoa2
import Derived.Shelf.Strconv.Itoa3
import Derived.Shelf.Strconv.Itoa4
import Derived.Shelf.Strconv.Lower
import Derived.Shelf.Strconv.ParseInt10
import Derived.Shelf.Strconv.ParseInt10All
import Derived.Shelf.Strconv.ParseInt10At16
import Derived.Shelf.Strconv.ParseInt10At32
import Derived.Shelf.Strconv.ParseInt10At64
import Derived.Shelf.Strconv.ParseInt10At8
import Derived.Shelf.Strconv.ParseIntEmpty
import Derived.Shelf.Strconv.ParseIntPublic10
import Derived.Shelf.Strconv.ParseUint10
import Derived.Shelf.Strconv.ParseUint10Any
import Derived.Shelf.Strconv.ParseUint10At
import Derived.Shelf.Strconv.ParseUint10Empty
import Derived.Shelf.Strconv.ParseUint10b16
import Derived.Shelf.Strconv.ParseUint10b32
import Derived.Shelf.Strconv.ParseUint10b64
import Derived.Shelf.Strconv.ParseUint10b8
import Derived.Shelf.Strconv.ParseUintEmpty
import Derived.Shelf.Strconv.RangeError
import Derived.Shelf.Strconv.SyntaxError
import Derived.Shelf.Strconv.ToError
import Derived.Shelf.Strconv.ToErrorRange
import Derived.Shelf.Strings.Builder1
import Derived.Shelf.Strings.BuilderF
import Derived.Shelf.Strings.BuilderK
import Derived.Shelf.Strings.Prefix
import Derived.Shelf.Strings.Search1
import Derived.Test.YtlgabpcjhhihdaaDoorProg
import Derived.WalkKit
import Derived.WalkMore
import Derived.WalkSpells
set_option linter.unusedVariables false
set_option linter.unusedSimpArgs false
set_option linter.unusedSectionVars false
set_option linter.unnecessarySimpa false
section
namespace Go.Proofs.YtlgabpcjhhihdaaDoor
open Go.RowKit Go.NW
set_option maxRecDepth 100000
def vC (x y : Nat) : Value := .agg #[.int .i64 3, .int .i64 0, .string ⟨#[]⟩, .complex .f64 x y]
def vP : Value := vC 13830554455654793216 4611686018427387904
theorem Tryd.parsePoint {B : Nat} {w : World} (hD : DoorI B w) (hB : B ≤ w.heap.size) : Calls Tryd.prog 22 #[.string (bs [45, 49, 43, 50, 105])] w fun e w' => e = .returned (.tuple #[vP, .int .i64 0]) ∧ Below w.heap.size w w' := by
  have hsc := storeC
  have HD := Lib.hid (hD.on ((Below.refl _ w).alloc hB (.cells #[.int .i64 0, .int .i64 0, .string ⟨#[]⟩, .complex .f64 0 0] 25)))
  clear hD
  go_enter Tryd.func22, Tryd.ntmps22
  go_wp2_with fail
  refine (Tryd.pparse HD.out (Nat.le_trans hB (by simp))).mono ?_
  rintro e w1 ⟨rfl, hb⟩
  have HB := Lib.hid (((Below.refl _ w).alloc (Nat.le_refl _) (.cells #[.int .i64 0, .int .i64 0, .string ⟨#[]⟩, .complex .f64 0 0] 25)).trans (hb.mono (by simp)))
  have hcell : w1.heap[w.heap.size]? = some (.cells #[.int .i64 0, .int .i64 0, .string ⟨#[]⟩, .complex .f64 0 0] 25 (0, 0)) := (hb.block _ (by simp)).trans (heap_alloc_new _ _)
  clear hb
  go_wp2_with (refine nw_store_row _ rfl 25 (.tmp 2) (.tmp 16) rfl w.heap.size 25 (cells4 3 0 ⟨#[]⟩ 13830554455654793216 4611686018427387904) zero4 rfl rfl hcell rfl (Tryd.size25 _ rfl) (one4 _ _ _ _ _) ?_)
  refine bodyPost_ret (v := .tuple #[vP, .int .i64 0]) (nw_results (show Tryd.f22.results = #[.cell 2 25, .tmp 3] from rfl) _ _ w.heap.size 25 (cells4 3 0 ⟨#[]⟩ 13830554455654793216 4611686018427387904) _ rfl (setRow_heap' _ _ _ _ _ hcell) (Tryd.size25 _ rfl) Tryd.st25) rfl ⟨rfl, below_setRow HB.out (Nat.le_refl _) _⟩
theorem Tryd.parseP {B : Nat} {w : World} (hD : DoorI B w) (hB : B ≤ w.heap.size) : Calls Tryd.prog 7 #[.string (bs [45, 49, 43, 50, 105])] w fun e w' => e = .returned (.tuple #[vP, .int .i64 0]) ∧ Below w.heap.size w w' := by
  have hsc := storeC
  have hB' := bs_list
  have HD := Lib.hid (hD.on ((Below.refl _ w).alloc hB (.cells #[.int .i64 0, .int .i64 0, .string ⟨#[]⟩, .complex .f64 0 0] 25)))
  have hp := Tryd.pre [45, 49, 43, 50, 105] 34 (by decide)
  have hs := Tryd.suf [45, 49, 43, 50, 105] 105 (by decide)
  rw [show (([45, 49, 43, 50, 105] : List UInt8).head? == some 34) = false by decide] at hp
  rw [show (([45, 49, 43, 50, 105] : List UInt8).getLast? == some 105) = true by decide] at hs
  clear hD
  go_enter Tryd.func7, Tryd.ntmps7
  go_wp2
  refine wp_scope_fwd 1 ?_
  go_wp2_with (first | (go_at_call 18; refine (hp _).mono ?_; rintro e w1 ⟨rfl, rfl⟩) | (go_at_call 19; refine (hs _).mono ?_; rintro e w1 ⟨rfl, rfl⟩))
  go_step3
  refine ⟨_, rfl, ?_⟩
  go_wp2_with fail
  refine (Tryd.parsePoint HD.out (Nat.le_trans hB (by simp))).mono ?_
  rintro e w1 ⟨rfl, hb⟩
  have HB := Lib.hid (((Below.refl _ w).alloc (Nat.le_refl _) (.cells #[.int .i64 0, .int .i64 0, .string ⟨#[]⟩, .complex .f64 0 0] 25)).trans (hb.mono (by simp)))
  have hcell : w1.heap[w.heap.size]? = some (.cells #[.int .i64 0, .int .i64 0, .string ⟨#[]⟩, .complex .f64 0 0] 25 (0, 0)) := (hb.block _ (by simp)).trans (heap_alloc_new _ _)
  clear hb
  go_wp2_with (refine nw_store_row _ rfl 25 (.tmp 2) (.tmp 22) rfl w.heap.size 25 (cells4 3 0 ⟨#[]⟩ 13830554455654793216 4611686018427387904) zero4 rfl rfl hcell rfl (Tryd.size25 _ rfl) (one4 _ _ _ _ _) ?_)
  refine (Fwd.other (by intro l; simp)).2 ?_
  refine bodyPost_ret (v := .tuple #[vP, .int .i64 0]) (nw_results (show Tryd.f7.results = #[.cell 2 25, .tmp 3] from rfl) _ _ w.heap.size 25 (cells4 3 0 ⟨#[]⟩ 13830554455654793216 4611686018427387904) _ rfl (setRow_heap' _ _ _ _ _ hcell) (Tryd.size25 _ rfl) Tryd.st25) rfl ⟨rfl, below_setRow HB.out (Nat.le_refl _) _⟩
theorem cvt (n : Int) (x : Nat) (h : ∀ w : World, (convert 3 57 (.int .i64 n)).run Tryd.prog w = .ok (.float .f64 x) w) (m : Int) (y : Nat) (h' : ∀ w : World, (convert 3 57 (.int .i64 m)).run Tryd.prog w = .ok (.float .f64 y) w) (w : World) :
    Calls Tryd.prog 16 #[.int .i64 n, .int .i64 m] w fun e w' => e = .returned (vC x y) ∧ Below w.heap.size w w' := by
  have hsc := storeC
  have hcx := cplx
  go_enter Tryd.func16, Tryd.ntmps16
  go_wp2_with fail
  refine bodyPost_ret (v := vC x y) (by simp [results, Tryd.results16, go_sem, vC]) rfl ⟨rfl, ?_⟩
  exact (Below.refl _ w).alloc (Nat.le_refl _) _
theorem cM1 (w : World) : (convert 3 57 (.int .i64 (-1))).run Tryd.prog w = .ok (.float .f64 13830554455654793216) w := by
  simp [convert, run_underlying Tryd.underlying3, run_underlying Tryd.underlying57]
  kernel_rfl
theorem c1 (w : World) : (convert 3 57 (.int .i64 1)).run Tryd.prog w = .ok (.float .f64 4607182418800017408) w := by
  simp [convert, run_underlying Tryd.underlying3, run_underlying Tryd.underlying57]
  kernel_rfl
theorem c2 (w : World) : (convert 3 57 (.int .i64 2)).run Tryd.prog w = .ok (.float .f64 4611686018427387904) w := by
  simp [convert, run_underlying Tryd.underlying3, run_underlying Tryd.underlying57]
  kernel_rfl
theorem c0' (w : World) : (convert 3 57 (.int .i64 0)).run Tryd.prog w = .ok (.float .f64 0) w := by
  simp [convert, run_underlying Tryd.underlying3, run_underlying Tryd.underlying57]
  kernel_rfl
theorem c8 (w : World) : (convert 3 57 (.int .i64 8)).run Tryd.prog w = .ok (.float .f64 4620693217682128896) w := by
  simp [convert, run_underlying Tryd.underlying3, run_underlying Tryd.underlying57]
  kernel_rfl
theorem c9 (w : World) : (convert 3 57 (.int .i64 9)).run Tryd.prog w = .ok (.float .f64 4621256167635550208) w := by
  simp [convert, run_underlying Tryd.underlying3, run_underlying Tryd.underlying57]
  kernel_rfl
theorem b1 (w : World) : (convert 57 2 (.float .f64 13830554455654793216)).run Tryd.prog w = .ok (.int .i64 (-1)) w := by
  simp [convert, run_underlying Tryd.underlying2, run_underlying Tryd.underlying57]
  kernel_rfl
theorem b2 (w : World) : (convert 57 2 (.float .f64 4611686018427387904)).run Tryd.prog w = .ok (.int .i64 2) w := by
  simp [convert, run_underlying Tryd.underlying2, run_underlying Tryd.underlying57]
  kernel_rfl
theorem Tryd.ptext {B : Nat} {w : World} (hD : DoorI B w) (hB : B ≤ w.heap.size) : Calls Tryd.prog 28 #[.complex .f64 13830554455654793216 4611686018427387904] w fun e w' => e = .returned (.string (bs [45, 49, 43, 50, 105])) ∧ Below w.heap.size w w' := by
  have h1 := b1
  have h2 := b2
  have h3 := realC
  have h4 := imagC
  have i1 : Lib.itoa (-1) = [45, 49] := by decide +kernel
  have i2 : Lib.itoa 2 = [50] := by decide +kernel
  have I1 := Lib.hid i1
  have I2 := Lib.hid i2
  have HD := Lib.hid hD
  have a1 : ∀ w, (Op.stringOp .add (bs [45, 49]) ⟨#[43]⟩).run Tryd.prog w = .ok (.string (bs [45, 49, 43])) w := fun w => by
    rw [run_string_add_sum w _ _ (by decide)]
    rfl
  have a2 : ∀ w, (Op.stringOp .add (bs [45, 49, 43]) (bs [50])).run Tryd.prog w = .ok (.string (bs [45, 49, 43, 50])) w := fun w => by
    rw [run_string_add_sum w _ _ (by decide)]
    rfl
  have a3 : ∀ w, (Op.stringOp .add (bs [45, 49, 43, 50]) ⟨#[105]⟩).run Tryd.prog w = .ok (.string (bs [45, 49, 43, 50, 105])) w := fun w => by
    rw [run_string_add_sum w _ _ (by decide)]
    rfl
  clear i1 i2 hD
  go_enter Tryd.func28, Tryd.ntmps28
  go_wp2_with fail
  refine (Tryd.formatC HD.out (-1) (by omega) (by omega)).mono ?_
  rintro e w1 ⟨rfl, hb⟩
  rw [I1.out]
  have W1 := Lib.hid hb
  clear hb
  go_wp2_with fail
  refine (Tryd.formatC (HD.out.on (W1.out.mono hB)) 2 (by omega) (by omega)).mono ?_
  rintro e w2 ⟨rfl, hb⟩
  rw [I2.out]
  have W2 := Lib.hid (W1.out.trans (hb.mono W1.out.size))
  clear hb
  go_wp2_with fail
  go_ret
  exact ⟨rfl, W2.out⟩
theorem Tryd.textP {B : Nat} {w : World} (hD : DoorI B w) (hB : B ≤ w.heap.size) : Calls Tryd.prog 10 #[vP] w fun e w' => e = .returned (.string (bs [45, 49, 43, 50, 105])) ∧ Below w.heap.size w w' := by
  have HD := Lib.hid (hD.on ((Below.refl _ w).alloc hB (.cells #[.int .i64 3, .int .i64 0, .string ⟨#[]⟩, .complex .f64 13830554455654793216 4611686018427387904] 25)))
  clear hD
  unfold vP vC
  go_enter Tryd.func10, Tryd.ntmps10
  go_wp2
  refine wp_scope_fwd 1 ?_
  go_wp2_with fail
  go_step3
  refine ⟨_, rfl, ?_⟩
  go_wp2_with fail
  refine (Tryd.ptext HD.out (Nat.le_trans hB (by simp))).mono ?_
  rintro e w1 ⟨rfl, hb⟩
  have HB := Lib.hid (((Below.refl _ w).alloc (Nat.le_refl _) (.cells #[.int .i64 3, .int .i64 0, .string ⟨#[]⟩, .complex .f64 13830554455654793216 4611686018427387904] 25)).trans (hb.mono (by simp)))
  clear hb
  go_wp2_with fail
  refine (Fwd.other (by intro l; simp)).2 ?_
  go_ret
  exact ⟨rfl, HB.out⟩
theorem Tryd.text0 (w : World) : Calls Tryd.prog 10 #[v0] w fun e w' => e = .returned (.string (bs [45])) ∧ Below w.heap.size w w' := by
  unfold v0
  go_enter Tryd.func10, Tryd.ntmps10
  go_wp2
  refine wp_scope_fwd 0 ?_
  go_wp2_with fail
  refine (Fwd.other (by intro l; simp)).2 ?_
  go_ret
  exact ⟨rfl, (Below.refl _ w).alloc (Nat.le_refl _) _⟩
end Go.Proofs.YtlgabpcjhhihdaaDoor
end

section
namespace Go.Proofs.YtlgabpcjhhihdaaDoor
open Go.RowKit Go.NW
set_option maxRecDepth 100000
def ppt (l : List UInt8) : Value × Int := match ppS l with
  | none => (v0, 2)
  | some (x, y) => match ptOf x y with
    | some (a, b) => (vC a b, 0)
    | none => (v0, 1)
theorem ppt_cases (l : List UInt8) : (∃ k : Int, (k = 1 ∨ k = 2) ∧ ppV l = .tuple #[.complex .f64 0 0, .int .i64 k] ∧ ppt l = (v0, k)) ∨ ∃ a b, ppV l = .tuple #[.complex .f64 a b, .int .i64 0] ∧ ppt l = (vC a b, 0) := by
  unfold ppV ppt
  rcases ppS l with _ | ⟨x, y⟩
  · exact .inl ⟨2, .inr rfl, rfl, rfl⟩
  · dsimp only
    rcases ptOf x y with _ | ⟨a, b⟩
    · exact .inl ⟨1, .inl rfl, rfl, rfl⟩
    · exact .inr ⟨a, b, rfl, rfl⟩
theorem ppt_v4 (l : List UInt8) : ∃ CS, (ppt l).1 = .agg CS ∧ V4 CS := by
  rcases ppt_cases l with ⟨k, _, _, h⟩ | ⟨a, b, _, h⟩
  · rw [h]; exact ⟨_, rfl, v4 0 0 ⟨#[]⟩ 0 0⟩
  · rw [h]; exact ⟨_, rfl, v4 3 0 ⟨#[]⟩ a b⟩
theorem Tryd.parsePointC {B : Nat} {w : World} (hD : DoorI B w) (hB : B ≤ w.heap.size) (l : List UInt8) (hl : l.length < 2 ^ 39) : Calls Tryd.prog 22 #[.string (bs l)] w fun e w' => e = .returned (.tuple #[(ppt l).1, .int .i64 (ppt l).2]) ∧ Below w.heap.size w w' := by
  have hsc := storeC
  have HD := Lib.hid (hD.on ((Below.refl _ w).alloc hB (.cells #[.int .i64 0, .int .i64 0, .string ⟨#[]⟩, .complex .f64 0 0] 25)))
  clear hD
  have hpp := Tryd.pparseC HD.out (Nat.le_trans hB (by simp)) l hl
  rcases ppt_cases l with ⟨k, hk, h1, h2⟩ | ⟨x, y, h1, h2⟩
  · rw [h2]
    rw [h1] at hpp
    have HP := Lib.hid hpp
    have k1 : (k != 0) = true := by rcases hk with rfl | rfl <;> rfl
    have k2 : (k == 0) = false := by rcases hk with rfl | rfl <;> rfl
    have k3 : decide (k = 0) = false := by rcases hk with rfl | rfl <;> rfl
    clear hpp h1 h2 hk
    unfold v0
    go_enter Tryd.func22, Tryd.ntmps22
    go_wp2_with fail
    refine HP.out.mono ?_
    rintro e w1 ⟨rfl, hb⟩
    have HB := Lib.hid (((Below.refl _ w).alloc (Nat.le_refl _) (.cells #[.int .i64 0, .int .i64 0, .string ⟨#[]⟩, .complex .f64 0 0] 25)).trans (hb.mono (by simp)))
    have hcell : w1.heap[w.heap.size]? = some (.cells #[.int .i64 0, .int .i64 0, .string ⟨#[]⟩, .complex .f64 0 0] 25 (0, 0)) := (hb.block _ (by simp)).trans (heap_alloc_new _ _)
    clear hb
    go_wp2_with (refine nw_store_row _ rfl 25 (.tmp 2) (.tmp 13) rfl w.heap.size 25 (cells4 0 0 ⟨#[]⟩ 0 0) zero4 rfl rfl hcell rfl (Tryd.size25 _ rfl) (one4 _ _ _ _ _) ?_)
    refine bodyPost_ret (v := .tuple #[v0, .int .i64 k]) (nw_results (show Tryd.f22.results = #[.cell 2 25, .tmp 3] from rfl) _ _ w.heap.size 25 (cells4 0 0 ⟨#[]⟩ 0 0) _ rfl (setRow_heap' _ _ _ _ _ hcell) (Tryd.size25 _ rfl) Tryd.st25) rfl ⟨rfl, below_setRow HB.out (Nat.le_refl _) _⟩
  · rw [h2]
    rw [h1] at hpp
    have HP := Lib.hid hpp
    clear hpp h1 h2
    go_enter Tryd.func22, Tryd.ntmps22
    go_wp2_with fail
    refine HP.out.mono ?_
    rintro e w1 ⟨rfl, hb⟩
    have HB := Lib.hid (((Below.refl _ w).alloc (Nat.le_refl _) (.cells #[.int .i64 0, .int .i64 0, .string ⟨#[]⟩, .complex .f64 0 0] 25)).trans (hb.mono (by simp)))
    have hcell : w1.heap[w.heap.size]? = some (.cells #[.int .i64 0, .int .i64 0, .string ⟨#[]⟩, .complex .f64 0 0] 25 (0, 0)) := (hb.block _ (by simp)).trans (heap_alloc_new _ _)
    clear hb
    go_wp2_with (refine nw_store_row _ rfl 25 (.tmp 2) (.tmp 16) rfl w.heap.size 25 (cells4 3 0 ⟨#[]⟩ x y) zero4 rfl rfl hcell rfl (Tryd.size25 _ rfl) (one4 _ _ _ _ _) ?_)
    refine bodyPost_ret (v := .tuple #[vC x y, .int .i64 0]) (nw_results (show Tryd.f22.results = #[.cell 2 25, .tmp 3] from rfl) _ _ w.heap.size 25 (cells4 3 0 ⟨#[]⟩ x y) _ rfl (setRow_heap' _ _ _ _ _ hcell) (Tryd.size25 _ rfl) Tryd.st25) rfl ⟨rfl, below_setRow HB.out (Nat.le_refl _) _⟩
theorem Tryd.parsePC {B : Nat} {w : World} (hD : DoorI B w) (hB : B ≤ w.heap.size) (l : List UInt8) (hl : l.length < 2 ^ 39) (h1 : (l == [45]) = false) (h2 : (l.head? == some 34) = false) (h3 : (l.getLast? == some 105) = true) :
    Calls Tryd.prog 7 #[.string (bs l)] w fun e w' => e = .returned (.tuple #[(ppt l).1, .int .i64 (ppt l).2]) ∧ Below w.heap.size w w' := by
  have hsc := storeC
  have hB' := bs_list
  have HD := Lib.hid (hD.on ((Below.refl _ w).alloc hB (.cells #[.int .i64 0, .int .i64 0, .string ⟨#[]⟩, .complex .f64 0 0] 25)))
  have hp := Tryd.pre l 34 (by omega)
  have hs := Tryd.suf l 105 (by omega)
  rw [h2] at hp
  rw [h3] at hs
  have hc := Tryd.parsePointC HD.out (Nat.le_trans hB (by simp)) l hl
  have HC := Lib.hid hc
  obtain ⟨CS, hCS, hsz4, ho⟩ := ppt_v4 l
  have hsz : CS.size = zero4.size := hsz4
  have HSZ := Lib.hid hsz
  have HSZ4 := Lib.hid hsz4
  have HO := Lib.hid ho
  generalize ppt l = R at HC hCS ⊢
  obtain ⟨R1, R2⟩ := R
  obtain rfl : R1 = .agg CS := hCS
  clear hsz hsz4 ho
  clear hD h2 h3 hc
  go_enter Tryd.func7, Tryd.ntmps7
  go_wp2
  refine wp_scope_fwd 1 ?_
  go_wp2_with (first | (go_at_call 18; refine (hp _).mono ?_; rintro e w1 ⟨rfl, rfl⟩) | (go_at_call 19; refine (hs _).mono ?_; rintro e w1 ⟨rfl, rfl⟩))
  go_step3
  refine ⟨_, rfl, ?_⟩
  go_wp2_with fail
  refine (HC.out).mono ?_
  rintro e w1 ⟨rfl, hb⟩
  have HB := Lib.hid (((Below.refl _ w).alloc (Nat.le_refl _) (.cells #[.int .i64 0, .int .i64 0, .string ⟨#[]⟩, .complex .f64 0 0] 25)).trans (hb.mono (by simp)))
  have hcell : w1.heap[w.heap.size]? = some (.cells #[.int .i64 0, .int .i64 0, .string ⟨#[]⟩, .complex .f64 0 0] 25 (0, 0)) := (hb.block _ (by simp)).trans (heap_alloc_new _ _)
  clear hb
  go_wp2_with (refine nw_store_row _ rfl 25 (.tmp 2) (.tmp 22) rfl w.heap.size 25 CS zero4 rfl rfl hcell HSZ.out (Tryd.size25 _ HSZ4.out) HO.out ?_)
  refine (Fwd.other (by intro l; simp)).2 ?_
  refine bodyPost_ret (v := .tuple #[.agg CS, .int .i64 R2]) (nw_results (show Tryd.f7.results = #[.cell 2 25, .tmp 3] from rfl) _ _ w.heap.size 25 CS _ rfl (setRow_heap' _ _ _ _ _ hcell) (Tryd.size25 _ HSZ4.out) Tryd.st25) rfl ⟨rfl, below_setRow HB.out (Nat.le_refl _) _⟩
end Go.Proofs.YtlgabpcjhhihdaaDoor
end

section
namespace Go.Proofs.YtlgabpcjhhihdaaDoor
open Go.RowKit Go.NW
set_option maxRecDepth 100000
theorem Tryd.size29 : ∀ n, n = 4 → (Tryd.prog.info? 29).map (·.size) = some n := fun n h => by subst h; kernel_rfl
theorem Tryd.st29 : Tryd.prog.underlying 29 = some (.struct (Tryd.prog.fieldsOf 29)) := by kernel_rfl
theorem Tryd.rvalNull (w : World) : Calls Tryd.prog 8 #[.string (bs [45])] w fun e w' => e = .returned (.tuple #[v0, .int .i64 0]) ∧ Below w.heap.size w w' := by
  have hsc := storeC
  have hB' := bs_list
  have HB := Lib.hid ((Below.refl _ w).alloc (Nat.le_refl _) (.cells #[.int .i64 0, .int .i64 0, .string ⟨#[]⟩, .complex .f64 0 0] 29))
  have hcell := heap_alloc_new w (.cells #[.int .i64 0, .int .i64 0, .string ⟨#[]⟩, .complex .f64 0 0] 29)
  go_enter Tryd.func8, Tryd.ntmps8
  go_wp2_with (refine nw_store_row _ rfl 29 (.tmp 2) (.tmp 14) rfl w.heap.size 29 (cells4 0 0 ⟨#[]⟩ 0 0) zero4 rfl rfl hcell rfl (Tryd.size29 _ rfl) (one4 _ _ _ _ _) ?_)
  refine bodyPost_ret (v := .tuple #[v0, .int .i64 0]) (nw_results (show Tryd.f8.results = #[.cell 2 29, .tmp 3] from rfl) _ _ w.heap.size 29 (cells4 0 0 ⟨#[]⟩ 0 0) _ rfl (setRow_heap' _ _ _ _ _ hcell) (Tryd.size29 _ rfl) Tryd.st29) rfl ⟨rfl, below_setRow HB.out (Nat.le_refl _) _⟩
theorem Tryd.rvalEmpty (w : World) : Calls Tryd.prog 8 #[.string (bs [])] w fun e w' => e = .returned (.tuple #[v0, .int .i64 2]) ∧ Below w.heap.size w w' := by
  have hsc := storeC
  have hB' := bs_list
  have HB := Lib.hid ((Below.refl _ w).alloc (Nat.le_refl _) (.cells #[.int .i64 0, .int .i64 0, .string ⟨#[]⟩, .complex .f64 0 0] 29))
  have hcell := heap_alloc_new w (.cells #[.int .i64 0, .int .i64 0, .string ⟨#[]⟩, .complex .f64 0 0] 29)
  go_enter Tryd.func8, Tryd.ntmps8
  go_wp2_with (refine nw_store_row _ rfl 29 (.tmp 2) (.tmp 17) rfl w.heap.size 29 (cells4 0 0 ⟨#[]⟩ 0 0) zero4 rfl rfl hcell rfl (Tryd.size29 _ rfl) (one4 _ _ _ _ _) ?_)
  refine bodyPost_ret (v := .tuple #[v0, .int .i64 2]) (nw_results (show Tryd.f8.results = #[.cell 2 29, .tmp 3] from rfl) _ _ w.heap.size 29 (cells4 0 0 ⟨#[]⟩ 0 0) _ rfl (setRow_heap' _ _ _ _ _ hcell) (Tryd.size29 _ rfl) Tryd.st29) rfl ⟨rfl, below_setRow HB.out (Nat.le_refl _) _⟩
theorem rpt_cases (l : List UInt8) : (∃ k : Int, (k = 1 ∨ k = 2) ∧ rpt l = .tuple #[.complex .f64 0 0, .int .i64 k] ∧ ppt l = (v0, k)) ∨ ∃ a b, rpt l = .tuple #[.complex .f64 a b, .int .i64 0] ∧ ppt l = (vC a b, 0) := by
  unfold rpt ppt
  rcases ppS l with _ | ⟨x, y⟩
  · exact .inl ⟨2, .inr rfl, rfl, rfl⟩
  · dsimp only
    rcases ptOf x y with _ | ⟨a, b⟩
    · exact .inl ⟨1, .inl rfl, rfl, rfl⟩
    · exact .inr ⟨a, b, rfl, rfl⟩
theorem Tryd.rvalP (l : List UInt8) (hl : l.length < 2 ^ 40) (h2 : (l.head? == some 34) = false) (h3 : l.getLast? = some 105) (w : World) : Calls Tryd.prog 8 #[.string (bs l)] w fun e w' => e = .returned (.tuple #[(ppt l).1, .int .i64 (ppt l).2]) ∧ Below w.heap.size w w' := by
  have hsc := storeC
  have hB' := bs_list
  have hG := bs_get
  have HB := Lib.hid ((Below.refl _ w).alloc (Nat.le_refl _) (.cells #[.int .i64 0, .int .i64 0, .string ⟨#[]⟩, .complex .f64 0 0] 29))
  have hcell := heap_alloc_new w (.cells #[.int .i64 0, .int .i64 0, .string ⟨#[]⟩, .complex .f64 0 0] 29)
  have HP := Lib.hid (Tryd.rpoint l hl h3 (w.alloc (.cells #[.int .i64 0, .int .i64 0, .string ⟨#[]⟩, .complex .f64 0 0] 29)))
  obtain ⟨c, r, hcr⟩ : ∃ c r, l = c :: r := by
    rcases l with _ | ⟨c, r⟩
    · cases h3
    · exact ⟨c, r, rfl⟩
  have hc34 : c.toNat ≠ 34 := fun h => by
    have : c = 34 := UInt8.toNat_inj.1 h
    rw [hcr, this] at h2
    simp at h2
  have hne1 : (l == [45]) = false := by
    rw [beq_eq_false_iff_ne]
    rintro rfl
    cases h3
  have hne2 : (l == []) = false := by rw [hcr]; rfl
  have hne3 : l.isEmpty = false := by rw [hcr]; rfl
  have hl0 : ∀ h, l[0]'h = c := fun h => by subst hcr; rfl
  have u1 : ((c.toNat : Int) == 34) = false := by simp; omega
  have u2 : decide ((c.toNat : Int) = 34) = false := decide_eq_false (by omega)
  obtain ⟨m, hm⟩ : ∃ m, m = l.length := ⟨_, rfl⟩
  have hS1 : (bs l).size = m := by rw [bs_size, hm]
  have hm1 : 1 ≤ m := by rw [hm, hcr]; simp
  obtain ⟨n, hn⟩ : ∃ n, m = n + 1 := ⟨m - 1, by omega⟩
  have hnm : (n : Int) < m := by omega
  have hnm3 : n < m := by omega
  have hm0 : 0 < m := by omega
  have w1 : IntKind.i64.wrap ((m : Int) - 1) = n := by rw [IntKind.wrap_i64]; omega
  have hli : ∀ h, l[n]'h = 105 := fun h => by
    rw [List.getLast?_eq_getElem?] at h3
    rw [show l.length - 1 = n from by omega] at h3
    exact (List.getElem?_eq_some_iff.1 h3).2
  rcases rpt_cases l with ⟨k, hk, hr1, hr2⟩ | ⟨x, y, hr1, hr2⟩
  · rw [hr1] at HP
    rw [hr2]
    have k1 : (k != 0) = true := by rcases hk with rfl | rfl <;> rfl
    have k2 : (k == 0) = false := by rcases hk with rfl | rfl <;> rfl
    have k3 : decide (k = 0) = false := by rcases hk with rfl | rfl <;> rfl
    clear hr1 hr2 hk hcr hc34 h2 h3 hm hn
    go_enter Tryd.func8, Tryd.ntmps8
    go_wp2_with fail
    refine HP.out.mono ?_
    rintro e w1 ⟨rfl, rfl⟩
    go_wp2_with (refine nw_store_row _ rfl 29 (.tmp 2) (.tmp 76) rfl w.heap.size 29 (cells4 0 0 ⟨#[]⟩ 0 0) zero4 rfl rfl hcell rfl (Tryd.size29 _ rfl) (one4 _ _ _ _ _) ?_)
    refine bodyPost_ret (v := .tuple #[v0, .int .i64 k]) (nw_results (show Tryd.f8.results = #[.cell 2 29, .tmp 3] from rfl) _ _ w.heap.size 29 (cells4 0 0 ⟨#[]⟩ 0 0) _ rfl (setRow_heap' _ _ _ _ _ hcell) (Tryd.size29 _ rfl) Tryd.st29) rfl ⟨rfl, below_setRow HB.out (Nat.le_refl _) _⟩
  · rw [hr1] at HP
    rw [hr2]
    clear hr1 hr2 hcr hc34 h2 h3 hm hn
    go_enter Tryd.func8, Tryd.ntmps8
    go_wp2_with fail
    refine HP.out.mono ?_
    rintro e w1 ⟨rfl, rfl⟩
    go_wp2_with (refine nw_store_row _ rfl 29 (.tmp 2) (.tmp 79) rfl w.heap.size 29 (cells4 3 0 ⟨#[]⟩ x y) zero4 rfl rfl hcell rfl (Tryd.size29 _ rfl) (one4 _ _ _ _ _) ?_)
    refine bodyPost_ret (v := .tuple #[vC x y, .int .i64 0]) (nw_results (show Tryd.f8.results = #[.cell 2 29, .tmp 3] from rfl) _ _ w.heap.size 29 (cells4 3 0 ⟨#[]⟩ x y) _ rfl (setRow_heap' _ _ _ _ _ hcell) (Tryd.size29 _ rfl) Tryd.st29) rfl ⟨rfl, below_setRow HB.out (Nat.le_refl _) _⟩
theorem Tryd.rvalN (l : List UInt8) (hl : l.length < 2 ^ 40) (h0 : l ≠ []) (h1 : (l == [45]) = false) (h2 : (l.head? == some 34) = false) (h3 : (l.getLast? == some 105) = false) (w : World) : Calls Tryd.prog 8 #[.string (bs l)] w fun e w' => e = .returned (.tuple #[(pint l).1, .int .i64 (pint l).2]) ∧ Below w.heap.size w w' := by
  have hsc := storeC
  have hB' := bs_list
  have hG := bs_get
  have HB := Lib.hid ((Below.refl _ w).alloc (Nat.le_refl _) (.cells #[.int .i64 0, .int .i64 0, .string ⟨#[]⟩, .complex .f64 0 0] 29))
  have hcell := heap_alloc_new w (.cells #[.int .i64 0, .int .i64 0, .string ⟨#[]⟩, .complex .f64 0 0] 29)
  have HP := Lib.hid (Tryd.rnum l hl (w.alloc (.cells #[.int .i64 0, .int .i64 0, .string ⟨#[]⟩, .complex .f64 0 0] 29)))
  obtain ⟨c, r, hcr⟩ : ∃ c r, l = c :: r := by
    rcases l with _ | ⟨c, r⟩
    · exact absurd rfl h0
    · exact ⟨c, r, rfl⟩
  have hc34 : c.toNat ≠ 34 := fun h => by
    have : c = 34 := UInt8.toNat_inj.1 h
    rw [hcr, this] at h2
    simp at h2
  have hne2 : (l == []) = false := by rw [hcr]; rfl
  have hne3 : l.isEmpty = false := by rw [hcr]; rfl
  have hl0 : ∀ h, l[0]'h = c := fun h => by subst hcr; rfl
  have u1 : ((c.toNat : Int) == 34) = false := by simp; omega
  have u2 : decide ((c.toNat : Int) = 34) = false := decide_eq_false (by omega)
  obtain ⟨m, hm⟩ : ∃ m, m = l.length := ⟨_, rfl⟩
  have hS1 : (bs l).size = m := by rw [bs_size, hm]
  have hm1 : 1 ≤ m := by rw [hm, hcr]; simp
  obtain ⟨n, hn⟩ : ∃ n, m = n + 1 := ⟨m - 1, by omega⟩
  have hnm : (n : Int) < m := by omega
  have hnm3 : n < m := by omega
  have hm0 : 0 < m := by omega
  have w1 : IntKind.i64.wrap ((m : Int) - 1) = n := by rw [IntKind.wrap_i64]; omega
  obtain ⟨z, hz⟩ : ∃ z, l[n]? = some z := ⟨_, List.getElem?_eq_getElem (by omega)⟩
  have hli : ∀ h, l[n]'h = z := fun h => (List.getElem?_eq_some_iff.1 hz).2
  have hz105 : z.toNat ≠ 105 := fun h => by
    have : z = 105 := UInt8.toNat_inj.1 h
    rw [List.getLast?_eq_getElem?, show l.length - 1 = n from by omega, hz, this] at h3
    simp at h3
  have v1 : ((z.toNat : Int) == 105) = false := by simp; omega
  have v2 : decide ((z.toNat : Int) = 105) = false := decide_eq_false (by omega)
  rw [pint_pnum]
  obtain ⟨⟨x, k⟩, hp⟩ : ∃ p, pnum l = p := ⟨_, rfl⟩
  rw [hp] at HP ⊢
  dsimp only at HP ⊢
  by_cases hk : k = 0
  · subst hk
    rw [if_pos rfl]
    clear hp hcr hc34 h2 h3 hm hn hz hz105 h0
    go_enter Tryd.func8, Tryd.ntmps8
    go_wp2_with fail
    refine HP.out.mono ?_
    rintro e w1 ⟨rfl, rfl⟩
    go_wp2_with (refine nw_store_row _ rfl 29 (.tmp 2) (.tmp 90) rfl w.heap.size 29 (cells4 1 x ⟨#[]⟩ 0 0) zero4 rfl rfl hcell rfl (Tryd.size29 _ rfl) (one4 _ _ _ _ _) ?_)
    refine bodyPost_ret (v := .tuple #[vN x, .int .i64 0]) (nw_results (show Tryd.f8.results = #[.cell 2 29, .tmp 3] from rfl) _ _ w.heap.size 29 (cells4 1 x ⟨#[]⟩ 0 0) _ rfl (setRow_heap' _ _ _ _ _ hcell) (Tryd.size29 _ rfl) Tryd.st29) rfl ⟨rfl, below_setRow HB.out (Nat.le_refl _) _⟩
  · rw [if_neg hk]
    have k1 : (k != 0) = true := by simpa using hk
    have k2 : (k == 0) = false := by simpa using hk
    have k3 : decide (k = 0) = false := decide_eq_false hk
    clear hp hcr hc34 h2 h3 hm hn hz hz105 h0 hk
    go_enter Tryd.func8, Tryd.ntmps8
    go_wp2_with fail
    refine HP.out.mono ?_
    rintro e w1 ⟨rfl, rfl⟩
    go_wp2_with (refine nw_store_row _ rfl 29 (.tmp 2) (.tmp 87) rfl w.heap.size 29 (cells4 0 0 ⟨#[]⟩ 0 0) zero4 rfl rfl hcell rfl (Tryd.size29 _ rfl) (one4 _ _ _ _ _) ?_)
    refine bodyPost_ret (v := .tuple #[v0, .int .i64 k]) (nw_results (show Tryd.f8.results = #[.cell 2 29, .tmp 3] from rfl) _ _ w.heap.size 29 (cells4 0 0 ⟨#[]⟩ 0 0) _ rfl (setRow_heap' _ _ _ _ _ hcell) (Tryd.size29 _ rfl) Tryd.st29) rfl ⟨rfl, below_setRow HB.out (Nat.le_refl _) _⟩
end Go.Proofs.YtlgabpcjhhihdaaDoor
end
