/-
  Texts of a proof over the translated program: proved evaluators and walks, part 23 of 23.
-/
import Derived.Test.YtcogajgikmcfpaaGreatDoorPartQ22
import Derived.Below
import Derived.Deep.Cut
import Derived.Deep.RegionHeld3
import Derived.Deep.RegionWith
import Derived.Great.BuildSlice
import Derived.Handy
import Derived.IntWalk
import Derived.LaidLaws
import Derived.LaidMore
import Derived.Laws.Cells
import Derived.Laws.CopyRow
import Derived.Laws.Externs
import Derived.Laws.IdiomStrings
import Derived.Laws.Strings
import Derived.Laws.Strings2
import Derived.Laws.Strings3
import Derived.Laws.StructEq
import Derived.Lay
import Derived.Lib.AppendIntMem
import Derived.Lib.Builder
import Derived.Lib.Bytealg
import Derived.Lib.Hide
import Derived.Lib.ItoaLen
import Derived.Lib.ItoaNum
import Derived.Lib.Join
import Derived.Lib.LaidTab
import Derived.Lib.ParseIntB
import Derived.LoopTactic
import Derived.MapKept
import Derived.Orders
import Derived.Outline
import Derived.OwnWalk
import Derived.ProofKit
import Derived.Scope
import Derived.ScopeJumps
import Derived.Shelf.LaysC
import Derived.Shelf.LaysM
import Derived.Shelf.Small.Strs
import Derived.Shelf.Strconv.Clone
import Derived.Shelf.Strconv.ErrVarParseInt
import Derived.Shelf.Strconv.Itoa0
import Derived.Shelf.Strconv.Itoa1
import Derived.Shelf.Strconv.Itoa2
import Derived.Shelf.Strconv.Itoa3
import Derived.Shelf.Strconv.Itoa4
import Derived.Shelf.Strconv.Lower
import Derived.Shelf.Strconv.ParseInt10
import Derived.Shelf.Strconv.ParseInt10All
import Derived.Shelf.Strconv.ParseInt10At16
import Derived.Shelf.Strconv.ParseInt10At32
import Derived.Shelf.Strconv.ParseInt10At64
import Derived.Shelf.Strconv.ParseInt10At8
import Derived.Shelf.Strconv.ParseIntEmpty
import Derived.Shelf.Strconv.ParseIntPublic10
import Derived.Shelf.Strconv.ParseUint10
import Derived.Shelf.Strconv.ParseUint10Any
import Derived.Shelf.Strconv.ParseUint10At
import Derived.Shelf.Strconv.ParseUint10Empty
import Derived.Shelf.Strconv.ParseUint10b16
import Derived.Shelf.Strconv.ParseUint10b32
import Derived.Shelf.Strconv.ParseUint10b64
import Derived.Shelf.Strconv.ParseUint10b8
import Derived.Shelf.Strconv.ParseUintEmpty
import Derived.Shelf.Strconv.RangeError
import Derived.Shelf.Strconv.SyntaxError
import Derived.Shelf.Strconv.ToError
import Derived.Shelf.Strconv.ToErrorRange
import Derived.Shelf.Strings.Builder1
import Derived.Shelf.Strings.Builder2
import Derived.Shelf.Strings.BuilderF
import Derived.Shelf.Strings.BuilderK
import Derived.Shelf.Strings.OnBuilder
import Derived.Shelf.Strings.Prefix
import Derived.Shelf.Strings.Search1
import Derived.Stop.Joined
import Derived.Stop.LaidErr
import Derived.Test.YtcogajgikmcfpaaGreatDoorProg
import Derived.Test.YtcogajgikmcfpaaGreatDoorRows
import Derived.WalkKit
import Derived.WalkMore
import Derived.WalkSpells
import Derived.BigQuiet
import Derived.Deep.Draws
import Derived.Deep.QuietTactic
import Derived.Laws.AppendOwn
import Derived.Laws.OwnMore
import Derived.Laws.Rows
import Derived.Lib.AppendStr
set_option linter.unusedVariables false
set_option linter.unusedSimpArgs false
set_option linter.unusedSectionVars false
set_option linter.unnecessarySimpa false
section
namespace Go.Proofs.YtcogajgikmcfpaaGreatDoor
open Go.RowKit Go
set_option maxRecDepth 100000
theorem gTab : Tryz.prog.globalNamed "internal/strconv.uint64pow10" = some 1 := by kernel_rfl
theorem gTabType : (Tryz.prog.globals[1]?).map (·.type) = some 169 := by kernel_rfl
theorem cells146 : Tryz.prog.cellsOf 146 = 1 := by kernel_rfl
theorem cells169 : Tryz.prog.cellsOf 169 = 20 := by kernel_rfl
def laid7 : List (String × DataW Unit) := [("math/bits.deBruijn32tab", Rows.laid_math_bits_deBruijn32tab), ("math/bits.deBruijn64tab", Rows.laid_math_bits_deBruijn64tab), ("internal/strconv.uint64pow10", Rows.laid_internal_strconv_uint64pow10), ("unicode/utf8.acceptRanges", Rows.laid_unicode_utf8_acceptRanges), ("strconv.ErrRange", Rows.laid_strconv_ErrRange), ("strconv.ErrSyntax", Rows.laid_strconv_ErrSyntax), ("unicode/utf8.first", Rows.laid_unicode_utf8_first)]
theorem laid_met (os : Os) (args : Array Value) : laidMet Tryz.prog laid7 ((World.laidAll Tryz.prog os laid7).forCall (fun _ _ => 0) ⟨#[], args, []⟩).memory :=
  laidMet_laidAll _ (by kernel_rfl) (by kernel_rfl)
end Go.Proofs.YtcogajgikmcfpaaGreatDoor
end

section
namespace Go.Proofs.YtcogajgikmcfpaaGreatDoor
open Go.RowKit Go.NW Go.NR
set_option maxRecDepth 100000
theorem gES : Tryz.prog.globalNamed "strconv.ErrSyntax" = some 2 := by kernel_rfl
theorem gER : Tryz.prog.globalNamed "strconv.ErrRange" = some 3 := by kernel_rfl
theorem gESType : (Tryz.prog.globals[2]?).map (·.type) = some 93 := by kernel_rfl
theorem gERType : (Tryz.prog.globals[3]?).map (·.type) = some 93 := by kernel_rfl
theorem cells191 : Tryz.prog.cellsOf 191 = 1 := by kernel_rfl
theorem cells9 : Tryz.prog.cellsOf 9 = 1 := by kernel_rfl
theorem star : "*" ++ "errors.errorString" = "*errors.errorString" := by decide
theorem row189 (u : TypeId) (h : Tryz.prog.typeName? 3 u = some "*errors.errorString") : u = 189 :=
  typeName_ptr_named (nm := "errors.errorString") (by rw [star]; kernel_rfl) (by kernel_rfl) (by decide) u (by rw [star]; exact h)
theorem var_below {w w' : World} {P : Program} {n : String} {cs : Array Value} (h : w.var? P n = some cs) (hb : Below w.heap.size w w') : w'.var? P n = some cs := by
  unfold World.var? at *
  cases hg : P.globalNamed n with
  | none => simp [hg] at h
  | some g =>
    simp only [hg, Option.bind_some] at h ⊢
    have hlt : g < w.heap.size := by
      rcases Nat.lt_or_ge g w.heap.size with h1 | h1
      · exact h1
      · simp [Array.getElem?_eq_none h1] at h
    rw [hb.block g hlt]
    exact h
theorem DoorI.of {w : World} (h1 : Lib.TabIs Tryz.prog w "internal/strconv.uint64pow10" .u64 Lib.pow10Tab) (h2 : ∃ tp p, w.var? Tryz.prog "strconv.ErrSyntax" = some #[.iface tp p]) (h3 : ∃ tp p, w.var? Tryz.prog "strconv.ErrRange" = some #[.iface tp p]) : DoorI w.heap.size w := by
  intro w' hb
  obtain ⟨a, b, h2⟩ := h2
  obtain ⟨c, d, h3⟩ := h3
  exact ⟨var_below h1 hb, ⟨a, b, var_below h2 hb⟩, c, d, var_below h3 hb⟩
theorem tab7 {W : World} (hL : laidMet Tryz.prog laid7 W) : TabY W := Lib.tabIs_of_head gTab gTabType Tryz.underlying169 Tryz.underlying146 cells146 cells169 hL.tail.tail
theorem doorI_of {W : World} (hL : laidMet Tryz.prog laid7 W) : DoorI W.heap.size W := by
  have h3 := hL.tail.tail
  have h4 := h3.tail.tail
  have h5 := h4.tail
  obtain ⟨a0, s0, hv0, -, -, -⟩ := laid_sentinel h4 gER gERType Tryz.underlying93 row189 Tryz.underlying189 Tryz.underlying191 rfl rfl Tryz.underlying9 cells191 cells9
  obtain ⟨a1, s1, hv1, -, -, -⟩ := laid_sentinel h5 gES gESType Tryz.underlying93 row189 Tryz.underlying189 Tryz.underlying191 rfl rfl Tryz.underlying9 cells191 cells9
  exact DoorI.of (tab7 hL) ⟨_, _, hv1⟩ ⟨_, _, hv0⟩
theorem i64_wf {a : Int} (h : (Lit.int .i64 a).wf = true) : -9223372036854775808 ≤ a ∧ a ≤ 9223372036854775807 := by
  have e1 : IntKind.i64.min = -9223372036854775808 := rfl
  have e2 : IntKind.i64.max = 9223372036854775807 := rfl
  simp [Lit.wf, e1, e2] at h
  omega
def IsRow (k : IntKind) (w : World) (a : Option Addr) (len cap : Nat) (zs : List Int) : Prop :=
  (a = none ∧ len = 0 ∧ cap = 0 ∧ zs = []) ∨
  ∃ x, a = some x ∧ len ≤ cap ∧ cap ≤ maxLen ∧ zs.length = cap ∧ (∀ i, i < zs.length → w.cell? (x.add i) = some (.int k (zs.getD i 0))) ∧ ∀ n ∈ zs, (Lit.int k n).wf = true
theorem Tryz.lawFree {w : World} (hT : TabY w) (A : Option Addr) (n c0 : Nat) (b : Int) (hn : n = 0 ∨ 60 < n) (hm : n ≤ 9223372036854775807) :
    Calls Tryz.prog 4 #[.slice A n c0, .int .u8 b] w fun e w' => e = .returned (.bool true) ∧ Below w.heap.size w w' := by
  have HK := Lib.hid (known_calls w hT)
  rcases hn with rfl | hn
  · clear hT
    go_enter Tryz.func4, Tryz.ntmps4
    go_wp2_with fail
    refine HK.out.mono ?_
    rintro e w1 ⟨rfl, b1⟩
    have B1 := Lib.hid b1
    clear b1 HK
    go_wp2_with fail
    go_ret
    exact ⟨rfl, B1.out⟩
  · have e0 : decide ((n : Int) = 0) = false := decide_eq_false (by omega)
    have e0' : ((n : Int) == 0) = false := by simp; omega
    have e0'' : decide (n = 0) = false := decide_eq_false (by omega)
    have e1 : decide ((n : Int) > 60) = true := decide_eq_true (by omega)
    have e1' : decide (60 < (n : Int)) = true := decide_eq_true (by omega)
    have e1'' : decide (60 < n) = true := decide_eq_true (by omega)
    clear hT
    go_enter Tryz.func4, Tryz.ntmps4
    go_wp2_with fail
    refine HK.out.mono ?_
    rintro e w1 ⟨rfl, b1⟩
    have B1 := Lib.hid b1
    clear b1 HK
    go_wp2_with fail
    go_ret
    exact ⟨rfl, B1.out⟩
theorem u8_wf {a : Int} (h : (Lit.int .u8 a).wf = true) : 0 ≤ a ∧ a ≤ 255 := by
  have e1 : IntKind.u8.min = 0 := rfl
  have e2 : IntKind.u8.max = 255 := rfl
  simp [Lit.wf, e1, e2] at h
  omega
theorem rowsZ (A : Option Addr) (n c0 : Nat) (zs : List Int) (b : Int) (W : World) (hL : laidMet Tryz.prog laid7 W) (wa : IsRow .i64 W A n c0 zs) (wb : (Lit.int .u8 b).wf = true) :
    Calls Tryz.prog 4 #[.slice A n c0, .int .u8 b] W fun e w' => e = .returned (.bool true) ∧ Below W.heap.size W w' := by
  have hm : n ≤ 9223372036854775807 := by
    rcases wa with ⟨_, rfl, _⟩ | ⟨x, _, h1, h2, _⟩
    · omega
    · unfold maxLen at h2; omega
  by_cases hn : n = 0 ∨ 60 < n
  · exact Tryz.lawFree (tab7 hL) A n c0 b hn hm
  · obtain ⟨b', rfl⟩ : ∃ b' : Nat, b = (b' : Int) := ⟨b.toNat, by have := u8_wf wb; omega⟩
    have hz : ∀ j, I64 (zs.getD j 0) := by
      intro j
      rcases wa with ⟨_, _, _, rfl⟩ | ⟨x, _, _, _, _, _, h5⟩
      · simp [I64]
      · rw [List.getD_eq_getElem?_getD]
        rcases hj : zs[j]? with _ | y
        · simp [I64]
        · exact i64_wf (h5 y (List.mem_of_getElem? hj))
    refine Tryz.lawWalk (doorI_of hL) (tab7 hL) A n c0 b' (fun j => zs.getD j 0) (by have := u8_wf wb; omega) hz ?_ (by omega) (by omega)
    intro j hj
    rcases wa with ⟨_, rfl, _⟩ | ⟨x, rfl, h1, h2, h3, h4, h5⟩
    · omega
    · exact ⟨x, rfl, h4 j (by omega)⟩
end Go.Proofs.YtcogajgikmcfpaaGreatDoor
end
