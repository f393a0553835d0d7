/-
  Texts of a proof over the translated program: proved evaluators and walks, part 18 of 23.
-/
import Derived.Test.YtcogajgikmcfpaaGreatDoorPartQ17
import Derived.Below
import Derived.Deep.Cut
import Derived.Deep.RegionHeld3
import Derived.Deep.RegionWith
import Derived.Handy
import Derived.IntWalk
import Derived.Laws.Cells
import Derived.Laws.CopyRow
import Derived.Laws.Externs
import Derived.Laws.Strings
import Derived.Laws.Strings2
import Derived.Laws.Strings3
import Derived.Laws.StructEq
import Derived.Lib.Builder
import Derived.Lib.Hide
import Derived.LoopTactic
import Derived.Outline
import Derived.OwnWalk
import Derived.ProofKit
import Derived.Scope
import Derived.ScopeJumps
import Derived.Shelf.LaysC
import Derived.Shelf.LaysM
import Derived.Shelf.Small.Strs
import Derived.Shelf.Strconv.Clone
import Derived.Shelf.Strconv.ErrVarParseInt
import Derived.Shelf.Strconv.Itoa0
import Derived.Shelf.Strconv.Itoa1
import Derived.Shelf.Strconv.Itoa2
import Derived.Shelf.Strconv.Itoa3
import Derived.Shelf.Strconv.Itoa4
import Derived.Shelf.Strconv.Lower
import Derived.Shelf.Strconv.ParseInt10
import Derived.Shelf.Strconv.ParseInt10All
import Derived.Shelf.Strconv.ParseInt10At16
import Derived.Shelf.Strconv.ParseInt10At32
import Derived.Shelf.Strconv.ParseInt10At64
import Derived.Shelf.Strconv.ParseInt10At8
import Derived.Shelf.Strconv.ParseIntEmpty
import Derived.Shelf.Strconv.ParseIntPublic10
import Derived.Shelf.Strconv.ParseUint10
import Derived.Shelf.Strconv.ParseUint10Any
import Derived.Shelf.Strconv.ParseUint10At
import Derived.Shelf.Strconv.ParseUint10Empty
import Derived.Shelf.Strconv.ParseUint10b16
import Derived.Shelf.Strconv.ParseUint10b32
import Derived.Shelf.Strconv.ParseUint10b64
import Derived.Shelf.Strconv.ParseUint10b8
import Derived.Shelf.Strconv.ParseUintEmpty
import Derived.Shelf.Strconv.RangeError
import Derived.Shelf.Strconv.SyntaxError
import Derived.Shelf.Strconv.ToError
import Derived.Shelf.Strconv.ToErrorRange
import Derived.Shelf.Strings.Builder1
import Derived.Shelf.Strings.BuilderF
import Derived.Shelf.Strings.BuilderK
import Derived.Shelf.Strings.Prefix
import Derived.Shelf.Strings.Search1
import Derived.Test.YtcogajgikmcfpaaGreatDoorProg
import Derived.WalkKit
import Derived.WalkMore
import Derived.WalkSpells
set_option linter.unusedVariables false
set_option linter.unusedSimpArgs false
set_option linter.unusedSectionVars false
set_option linter.unnecessarySimpa false
section
namespace Go.Proofs.YtcogajgikmcfpaaGreatDoor
open Go.RowKit Go.NW
set_option maxRecDepth 100000
theorem Tryz.check2 (b : Nat) (w : World) (h0 : w.cell? ⟨b, 0, none⟩ = some (.pointer (some ⟨b, 0, none⟩))) :
    Calls Tryz.prog 65 #[.pointer (some ⟨b, 0, none⟩)] w fun e w' => e = .returned (.tuple #[]) ∧ w' = w := by
  obtain ⟨j, hj, _⟩ := Option.map_eq_some_iff.1 Tryz.Builder_Extra_169.sizeBuilder
  go_enter Tryz.func65, Tryz.ntmps65
  go_wp2
  rw [Lib.run_neq_ptr_same w _ Tryz.underlying88 hj]
  go_wp2
  go_end0
  exact ⟨rfl, rfl⟩
theorem Tryz.check1 (b : Nat) (w : World) (h0 : w.cell? ⟨b, 0, none⟩ = some (.pointer none)) (hsh : w.shape? b = some (90, 2)) (hfz : w.frozen? ⟨b, 0, none⟩ = false) :
    Calls Tryz.prog 65 #[.pointer (some ⟨b, 0, none⟩)] w fun e w' => e = .returned (.tuple #[]) ∧ w' = w.setCell ⟨b, 0, none⟩ (.pointer (some ⟨b, 0, none⟩)) := by
  obtain ⟨j, hj, hjs⟩ := Option.map_eq_some_iff.1 Tryz.Builder_Extra_169.sizeBuilder
  go_enter Tryz.func65, Tryz.ntmps65
  go_wp2
  rw [Lib.run_to_unsafe w ⟨b, 0, none⟩ Tryz.underlying88 Tryz.underlying141 hj (by rw [hjs]; decide) hsh (Nat.zero_lt_succ 1)]
  simp only [Result.andThen]
  rw [Oper.upon_value]
  go_wp2
  rw [run_callFunc_extern Tryz.func88 (by kernel_rfl) (by kernel_rfl) (by kernel_rfl) (e := Extern.AbiNoEscape.same) (by kernel_rfl)]
  rw [Lib.run_noEscape]
  simp only [Result.andThen]
  rw [Oper.upon_value]
  go_wp2
  rw [Lib.run_from_unsafe w ⟨b, 0, none⟩ Tryz.underlying141 Tryz.underlying88 hj hsh Tryz.Builder_Extra_169.liesBuilder]
  simp only [Result.andThen]
  rw [Oper.upon_value]
  go_wp2
  go_end0
  exact ⟨rfl, rfl⟩
theorem Tryz.copyCheck (B b : Nat) (xs : List Value) (w : World) (h : Lib.IsBuilder 90 5 B b xs w) :
    Calls Tryz.prog 65 #[.pointer (some ⟨b, 0, none⟩)] w fun e w' => e = .returned (.tuple #[]) ∧ (Lib.BuilderAt 90 5 B b (.pointer (some ⟨b, 0, none⟩)) xs w' ∧ Below B w w') := by
  rcases h with h | h
  · refine (Tryz.check1 b w h.cell0 h.shape h.frozen0).mono ?_
    rintro e w' ⟨rfl, rfl⟩
    exact ⟨rfl, h.used _, (Below.refl B w).setCell (p := ⟨b, 0, none⟩) h.1 _⟩
  · refine (Tryz.check2 b w h.cell0).mono ?_
    rintro e w' ⟨rfl, rfl⟩
    exact ⟨rfl, h, Below.refl B _⟩
theorem Tryz.writeByte (B b : Nat) (xs : List Value) (c : Int) (w : World) (h : Lib.IsBuilder 90 5 B b xs w) (hlen : xs.length + 1 ≤ 140737488355328) (hBw : B ≤ w.heap.size) :
    Calls Tryz.prog 50 #[.pointer (some ⟨b, 0, none⟩), .int .u8 c] w fun e w' => e = .returned .nilIface ∧ (Lib.IsBuilder 90 5 B b (xs ++ [.int .u8 c]) w' ∧ Below B w w') := by
  obtain ⟨i0, hi, hz0, hz1, hz2⟩ := info_parts Tryz.Builder_Extra_169.infoByte
  go_enter Tryz.func50, Tryz.ntmps50
  go_wp2_with (go_at_call 65; refine (Tryz.copyCheck B b xs _ h).mono ?_)
  rintro e w1 ⟨rfl, h1, hb1⟩
  obtain ⟨hB, v, hbk, hown, hne⟩ := h1
  have c0 : w1.cell? ⟨b, 0, none⟩ = some (.pointer (some ⟨b, 0, none⟩)) := by rw [Lib.cell_of_heap hbk]; rfl
  have c1 : w1.cell? ⟨b, 1, none⟩ = some v := by rw [Lib.cell_of_heap hbk]; rfl
  go_wp2_with (at_builtin; refine wpList_append_own _ rfl _ _ 71 rfl B 5 i0 (.int .u8 0) 1 1 Tryz.underlying71 hi hz0 hz1 hz2 rfl (by decide) _ _ _ rfl (hown.alloc _) ⟨w1.heap.size, 0, none⟩ 1 1 [.int .u8 c] rfl rfl ?c1 ?c2 ?c3 ?c4 ?c5 ?_)
  case c1 =>
    intro j u hj
    match j, hj with
    | 0, hj => simp at hj; subst hj; simp [Addr.add]
  case c2 => intro u hu; simp at hu; subst hu; rfl
  case c3 => unfold maxLen; omega
  case c4 => omega
  case c5 => have := hb1.size; simp; omega
  intro v' w2 hown' hgrow _
  have hlt : b < w1.heap.size := by
    rcases Nat.lt_or_ge b w1.heap.size with h' | h'
    · exact h'
    · simp [Array.getElem?_eq_none h'] at hbk
  have hb2 : w2.heap[b]? = some (.cells #[.pointer (some ⟨b, 0, none⟩), v] 90 (0, 0)) := by
    rw [hgrow.block b (by simp; omega) (fun e => hne e.symm), Lib.alloc_old w1 _ b hlt]
    exact hbk
  have d0 : w2.cell? ⟨b, 0, none⟩ = some (.pointer (some ⟨b, 0, none⟩)) := by rw [Lib.cell_of_heap hb2]; rfl
  have d1 : w2.cell? ⟨b, 1, none⟩ = some v := by rw [Lib.cell_of_heap hb2]; rfl
  have f1 : w2.frozen? ⟨b, 1, none⟩ = false := Lib.frozen_of_heap hb2 1
  obtain ⟨g, cap, rfl⟩ : ∃ g cap, v' = .slice (some ⟨g, 0, none⟩) (xs.length + 1) cap := by
    rcases hown'.2 with ⟨_, h0⟩ | ⟨g, cap, cur, hv, _⟩
    · omega
    · exact ⟨g, cap, hv⟩
  go_wp2
  go_ret
  refine ⟨rfl, .inr ?_, ?_⟩
  · exact Lib.BuilderAt.put (T := 90) (e := 5) hB hb2 (bs' := xs ++ [.int .u8 c]) (by simpa using hown') (by decide)
  · exact ((hb1.alloc (by have := hb1.size; omega) _).grown hgrow (by have := hb1.size; simp; omega) (fun k hk => (hown.lt k hk).1)).setCell (p := ⟨b, 1, none⟩) hB _
theorem Tryz.digit (c : UInt8) (w : World) : Calls Tryz.prog 120 #[.int .u8 (c.toNat : Int)] w fun e w' => e = .returned (.int .i64 (Lib.indexByte [48, 49, 50, 51, 52, 53, 54, 55, 56, 57, 97, 98, 99, 100, 101, 102] c)) ∧ w' = w := by
  have hc := Tryz.strings_IndexByte ⟨#[48, 49, 50, 51, 52, 53, 54, 55, 56, 57, 97, 98, 99, 100, 101, 102]⟩ (c.toNat : Int)
  have e : ((c.toNat : Int)).toNat.toUInt8 = c := by simp
  rw [e] at hc
  generalize hR : Lib.indexByte [48, 49, 50, 51, 52, 53, 54, 55, 56, 57, 97, 98, 99, 100, 101, 102] c = R
  rw [show Lib.indexByte (⟨#[48, 49, 50, 51, 52, 53, 54, 55, 56, 57, 97, 98, 99, 100, 101, 102]⟩ : ByteArray).data.toList c = R from hR] at hc
  clear hR e
  go_enter Tryz.func120, Tryz.ntmps120
  go_wp2_with (go_at_call 57; refine (hc _).mono ?_; rintro e w1 ⟨rfl, rfl⟩)
  go_ret
  exact ⟨rfl, rfl⟩
end Go.Proofs.YtcogajgikmcfpaaGreatDoor
end

section
namespace Go.Proofs.YtcogajgikmcfpaaGreatDoor
open Go.RowKit Go.NW
set_option maxRecDepth 100000
def hexD (k : Nat) : UInt8 := [48, 49, 50, 51, 52, 53, 54, 55, 56, 57, 97, 98, 99, 100, 101, 102].getD k 0
def hexL (l : List UInt8) : List UInt8 := l.flatMap fun c => [hexD (c.toNat / 16), hexD (c.toNat % 16)]
theorem dget (p : Nat) (h : p < (⟨#[48, 49, 50, 51, 52, 53, 54, 55, 56, 57, 97, 98, 99, 100, 101, 102]⟩ : ByteArray).size) : (⟨#[48, 49, 50, 51, 52, 53, 54, 55, 56, 57, 97, 98, 99, 100, 101, 102]⟩ : ByteArray)[p]'h = hexD p := by
  have := bs_get [48, 49, 50, 51, 52, 53, 54, 55, 56, 57, 97, 98, 99, 100, 101, 102] p h
  refine this.trans ?_
  unfold hexD
  rw [List.getD_eq_getElem?_getD, List.getElem?_eq_getElem (show p < 16 from h)]
  rfl
theorem hexL_snoc (l : List UInt8) (i : Nat) (y : UInt8) (h : l[i]? = some y) : hexL (l.take (i + 1)) = hexL (l.take i) ++ [hexD (y.toNat / 16)] ++ [hexD (y.toNat % 16)] := by
  unfold hexL
  rw [List.take_add_one, h, List.flatMap_append]
  simp
theorem hexL_len (l : List UInt8) : (hexL l).length = 2 * l.length := by
  unfold hexL
  induction l with
  | nil => rfl
  | cons c r ih =>
    rw [List.flatMap_cons, List.length_append, ih]
    simp
    omega
theorem bc_snoc (l : List UInt8) (c : UInt8) : Lib.byteCells l ++ [.int .u8 (c.toNat : Int)] = Lib.byteCells (l ++ [c]) := by simp [Lib.byteCells]
theorem bc_len (l : List UInt8) : (Lib.byteCells l).length = l.length := by simp [Lib.byteCells]
theorem Tryz.hex (l : List UInt8) (hl : l.length < 2 ^ 40) (w : World) : Calls Tryz.prog 68 #[.string (bs l)] w fun e w' => e = .returned (.string (bs (hexL l))) ∧ Below w.heap.size w w' := by
  obtain ⟨m, hm⟩ : ∃ m, m = l.length := ⟨_, rfl⟩
  have hS1 : (bs l).size = m := by rw [bs_size, hm]
  have hG := bs_get
  have HM := Lib.hid hm
  rw [← hm] at hl
  clear hm
  go_enter Tryz.func68, Tryz.ntmps68
  go_wp2_with fail
  have hfb := Lib.fresh_isBuilder 90 5 w
  go_loopw [7] (fun t7 W => ∃ i : Nat, i ≤ m ∧ t7 = .int .i64 i ∧ Hid (Lib.IsBuilder 90 5 w.heap.size w.heap.size (Lib.byteCells (hexL (l.take i))) W) ∧ Hid (Below w.heap.size w W)) (fun t7 _ => m - (intO t7).toNat)
  case atStart => exact ⟨0, Nat.zero_le _, rfl, Lib.hid (by simpa [hexL, Lib.byteCells] using hfb), Lib.hid ((Below.refl _ w).alloc (Nat.le_refl _) _)⟩
  case round =>
    rename World => W
    obtain ⟨i, him, rfl, HI, HB⟩ := hrel
    by_cases hlt : i < m
    · have t1 : decide ((i : Int) < m) = true := decide_eq_true (by omega)
      have t2 : decide (i < m) = true := decide_eq_true hlt
      obtain ⟨y, hy⟩ : ∃ y, l[i]'(by rw [← HM.out]; exact hlt) = y := ⟨_, rfl⟩
      have hy2 : l[i]? = some y := by rw [List.getElem?_eq_getElem (by rw [← HM.out]; exact hlt), hy]
      have HSN := Lib.hid (hexL_snoc l i y hy2)
      have hy256 : y.toNat < 256 := y.toNat_lt
      obtain ⟨p, hp⟩ : ∃ p, p = y.toNat / 16 := ⟨_, rfl⟩
      obtain ⟨q, hq⟩ : ∃ q, q = y.toNat % 16 := ⟨_, rfl⟩
      have hpI : (y.toNat : Int) / 16 = (p : Int) := by omega
      have hqI : (y.toNat : Int) % 16 = (q : Int) := by omega
      have hp16 : p < 16 := by omega
      have hq16 : q < 16 := by omega
      have hp16' : (p : Int) < 16 := by omega
      have hq16' : (q : Int) < 16 := by omega
      have hD := dget
      have HP := Lib.hid hp
      have HQ := Lib.hid hq
      have hlen : (Lib.byteCells (hexL (l.take i))).length ≤ 2 * m := by rw [bc_len, hexL_len, List.length_take]; omega
      have HLN := Lib.hid hlen
      obtain ⟨X, hX⟩ : ∃ X, X = hexL (l.take i) := ⟨_, rfl⟩
      rw [← hX] at HI HSN HLN
      have HX := Lib.hid hX
      clear hp hq hy2 hlen hX
      go_wp2_with fail
      refine (Tryz.writeByte _ _ _ _ _ HI.out (by have := HLN.out; omega) HB.out.size).mono ?_
      rintro e W1 ⟨rfl, h1, hb1⟩
      rw [bc_snoc] at h1
      have H1 := Lib.hid h1
      have B1 := Lib.hid (HB.out.trans hb1)
      clear h1 hb1
      go_wp2_with fail
      refine (Tryz.writeByte _ _ _ _ _ H1.out (by have := HLN.out; rw [bc_len] at this ⊢; rw [List.length_append]; simp; omega) B1.out.size).mono ?_
      rintro e W2 ⟨rfl, h2, hb2⟩
      rw [bc_snoc] at h2
      have H2 := Lib.hid h2
      have B2 := Lib.hid (B1.out.trans hb2)
      clear h2 hb2
      go_wp2_with fail
      refine ⟨⟨i + 1, by omega, rfl, Lib.hid ?_, B2⟩, by simp [intO]; omega⟩
      rw [HSN.out, ← HP.out, ← HQ.out]
      exact H2.out
    · obtain rfl : i = m := by omega
      have t1 : decide ((i : Int) < i) = false := decide_eq_false (by omega)
      have t2 : decide (i < i) = false := decide_eq_false (by omega)
      have hI := HI.out
      rw [show l.take i = l by rw [HM.out, List.take_length]] at hI
      have HJ := Lib.hid hI
      clear hI HI
      go_wp2_with fail
      refine (Tryz.Builder_String_any _ _ _ _ HJ.out HB.out.size).mono ?_
      rintro e W1 ⟨rfl, hb1⟩
      have B1 := Lib.hid (HB.out.trans hb1)
      clear hb1
      go_wp2_with fail
      go_ret
      exact ⟨rfl, B1.out⟩
end Go.Proofs.YtcogajgikmcfpaaGreatDoor
end

section
namespace Go.Proofs.YtcogajgikmcfpaaGreatDoor
open Go.RowKit Go.NW
set_option maxRecDepth 100000
def zero4 : Array Value := #[.int .i64 0, .int .i64 0, .string ⟨#[]⟩, .complex .f64 0 0]
def cells4 (k n : Int) (s : ByteArray) (x y : Nat) : Array Value := #[.int .i64 k, .int .i64 n, .string s, .complex .f64 x y]
theorem one4 (k n : Int) (s : ByteArray) (x y : Nat) : ∀ u ∈ (cells4 k n s x y).toList, u.oneCell' = true := by
  intro u hu
  simp [cells4] at hu
  rcases hu with rfl | rfl | rfl | rfl <;> rfl
theorem Tryz.size25 : ∀ n, n = 4 → (Tryz.prog.info? 25).map (·.size) = some n := fun n h => by subst h; kernel_rfl
theorem Tryz.st25 : Tryz.prog.underlying 25 = some (.struct (Tryz.prog.fieldsOf 25)) := by kernel_rfl
end Go.Proofs.YtcogajgikmcfpaaGreatDoor
end

section
namespace Go.Proofs.YtcogajgikmcfpaaGreatDoor
open Go.RowKit Go.NW
set_option maxRecDepth 100000
theorem bs_data (l : List UInt8) : (bs l).data.toList = l := by simp [bs]
def DoorI (B : Nat) (w : World) : Prop := ∀ w', Below B w w' → Lib.TabIs Tryz.prog w' "internal/strconv.uint64pow10" .u64 Lib.pow10Tab ∧ (∃ tp p, w'.var? Tryz.prog "strconv.ErrSyntax" = some #[.iface tp p]) ∧ ∃ tp p, w'.var? Tryz.prog "strconv.ErrRange" = some #[.iface tp p]
theorem DoorI.on {B : Nat} {w w' : World} (h : DoorI B w) (hb : Below B w w') : DoorI B w' := fun w2 h2 => h w2 (hb.trans h2)
def pint (l : List UInt8) : Value × Int := if decB l = true then match Lib.parseIntB 64 l with
  | .ok v => (vN v, 0)
  | _ => (v0, 1) else (v0, 2)
theorem Tryz.parseIntC {B : Nat} {w : World} (hD : DoorI B w) (l : List UInt8) (hl : l.length < 2 ^ 40) :
    Calls Tryz.prog 60 #[.string (bs l), .int .i64 10, .int .i64 64] w fun e w' => (∃ v, Lib.parseIntB 64 l = .ok v ∧ e = .returned (.tuple #[.int .i64 v, .nilIface]) ∧ Below w.heap.size w w') ∨ (∃ n tp p, (∀ v, Lib.parseIntB 64 l ≠ .ok v) ∧ e = .returned (.tuple #[.int .i64 n, .iface tp p]) ∧ Below w.heap.size w w') := by
  obtain ⟨_, ⟨t1, p1, h1⟩, t2, p2, h2⟩ := hD w (Below.refl _ _)
  have hs : (bs l).size = l.length := bs_size l
  rcases hp : Lib.parseIntB 64 l with v | _ | _
  · refine (Tryz.strconv_ParseInt_10_at64_ok (bs l) (by omega) v (by rw [bs_data]; exact hp) w).mono ?_
    rintro e w' ⟨rfl, hw⟩
    refine .inl ⟨v, rfl, rfl, ?_⟩
    rcases hw with rfl | ⟨t, rfl⟩
    · exact Below.refl _ _
    · exact Lib.bytesWorld_below _ _ _
  · have hc : Calls Tryz.prog 60 #[.string (bs l), .int .i64 10, .int .i64 64] w fun e w' => ∃ N, e = .returned (.tuple #[.int .i64 (0), .iface 164 (.pointer (some ⟨N, 0, none⟩))]) ∧ w.heap.size ≤ N ∧ w'.heap[N]? = some (.cells #[.string ⟨#[80, 97, 114, 115, 101, 73, 110, 116]⟩, .string (bs l), .iface t1 p1] 179 (0, 0)) ∧ Below w.heap.size w w' :=
      Any.strconv_ParseInt_10_at64_syntax_var Tryz.laysC174 (bs l) (by omega) (by rw [bs_data]; exact hp) t1 p1 w h1
    refine hc.mono ?_
    rintro e w' ⟨N, rfl, _, _, hb⟩
    exact .inr ⟨_, _, _, (fun v h => by cases h), rfl, hb⟩
  · refine (Tryz.strconv_ParseInt_10_at64_range_var (bs l) (by omega) (by rw [bs_data]; exact hp) t2 p2 w h2).mono ?_
    rintro e w' ⟨N, rfl, _, _, hb⟩
    exact .inr ⟨_, _, _, (fun v h => by cases h), rfl, hb⟩
theorem pint_no {l : List UInt8} (h : decB l = false) : pint l = (v0, 2) := by
  unfold pint
  rw [h]
  rfl
theorem pint_ok {l : List UInt8} (h : decB l = true) {v : Int} (hp : Lib.parseIntB 64 l = .ok v) : pint l = (vN v, 0) := by
  unfold pint
  rw [h, hp]
  rfl
theorem pint_err {l : List UInt8} (h : decB l = true) (hp : ∀ v, Lib.parseIntB 64 l ≠ .ok v) : pint l = (v0, 1) := by
  unfold pint
  rw [h]
  rcases hq : Lib.parseIntB 64 l with v | _ | _
  · exact absurd hq (hp v)
  · rfl
  · rfl
theorem Tryz.parseInt {B : Nat} {w : World} (hD : DoorI B w) (hB : B ≤ w.heap.size) (l : List UInt8) (hl : l.length < 2 ^ 40) :
    Calls Tryz.prog 98 #[.string (bs l)] w fun e w' => e = .returned (.tuple #[(pint l).1, .int .i64 (pint l).2]) ∧ Below w.heap.size w w' := by
  have hsc := storeC
  have hdec := Tryz.decimal l (by omega)
  cases hdb : decB l with
  | false =>
    rw [hdb] at hdec
    rw [pint_no hdb]
    clear hdb hD
    unfold v0
    go_enter Tryz.func98, Tryz.ntmps98
    go_wp2_with (go_at_call 119; refine (hdec _).mono ?_; rintro e w1 ⟨rfl, rfl⟩)
    refine bodyPost_ret (v := .tuple #[v0, .int .i64 2]) (by simp [results, Tryz.results20, go_sem, v0]) rfl ⟨rfl, ?_⟩
    exact (Below.refl _ w).alloc (Nat.le_refl _) _
  | true =>
    rw [hdb] at hdec
    have hok : ∀ v, Lib.parseIntB 64 l = .ok v → pint l = (vN v, 0) := fun v h => pint_ok hdb h
    have herr : (∀ v, Lib.parseIntB 64 l ≠ .ok v) → pint l = (v0, 1) := fun h => pint_err hdb h
    have HO := Lib.hid hok
    have HE := Lib.hid herr
    have HD : Hid (DoorI B (w.alloc (.cells #[.int .i64 0, .int .i64 0, .string ⟨#[]⟩, .complex .f64 0 0] 25))) := Lib.hid (hD.on ((Below.refl _ w).alloc hB _))
    generalize pint l = R at HO HE ⊢
    clear hdb hD hok herr
    go_enter Tryz.func98, Tryz.ntmps98
    go_wp2_with (go_at_call 119; refine (hdec _).mono ?_; rintro e w1 ⟨rfl, rfl⟩; refine Hid.out ?_)
    refine Lib.hid ?_
    go_wp2_with fail
    refine (Tryz.parseIntC HD.out l hl).mono ?_
    rintro e w1 (⟨v, hp, rfl, hb⟩ | ⟨n, tp, p, hp, rfl, hb⟩)
    · obtain rfl := HO.out v hp
      have HB := Lib.hid (((Below.refl _ w).alloc (Nat.le_refl _) (.cells #[.int .i64 0, .int .i64 0, .string ⟨#[]⟩, .complex .f64 0 0] 25)).trans (hb.mono (by simp)))
      have hcell : w1.heap[w.heap.size]? = some (.cells #[.int .i64 0, .int .i64 0, .string ⟨#[]⟩, .complex .f64 0 0] 25 (0, 0)) := (hb.block _ (by simp)).trans (heap_alloc_new _ _)
      clear HO HE hp hb
      go_wp2_with (refine nw_store_row _ rfl 25 (.tmp 2) (.tmp 19) rfl w.heap.size 25 (cells4 1 v ⟨#[]⟩ 0 0) zero4 rfl rfl hcell rfl (Tryz.size25 _ rfl) (one4 _ _ _ _ _) ?_)
      refine bodyPost_ret (v := .tuple #[vN v, .int .i64 0]) (nw_results (show Tryz.f98.results = #[.cell 2 25, .tmp 3] from rfl) _ _ w.heap.size 25 (cells4 1 v ⟨#[]⟩ 0 0) _ rfl (setRow_heap' _ _ _ _ _ hcell) (Tryz.size25 _ rfl) Tryz.st25) rfl ⟨rfl, below_setRow HB.out (Nat.le_refl _) _⟩
    · obtain rfl := HE.out hp
      have HB := Lib.hid (((Below.refl _ w).alloc (Nat.le_refl _) (.cells #[.int .i64 0, .int .i64 0, .string ⟨#[]⟩, .complex .f64 0 0] 25)).trans (hb.mono (by simp)))
      have hcell : w1.heap[w.heap.size]? = some (.cells #[.int .i64 0, .int .i64 0, .string ⟨#[]⟩, .complex .f64 0 0] 25 (0, 0)) := (hb.block _ (by simp)).trans (heap_alloc_new _ _)
      clear HO HE hp hb
      go_wp2_with (refine nw_store_row _ rfl 25 (.tmp 2) (.tmp 17) rfl w.heap.size 25 (cells4 0 0 ⟨#[]⟩ 0 0) zero4 rfl rfl hcell rfl (Tryz.size25 _ rfl) (one4 _ _ _ _ _) ?_)
      refine bodyPost_ret (v := .tuple #[v0, .int .i64 1]) (nw_results (show Tryz.f98.results = #[.cell 2 25, .tmp 3] from rfl) _ _ w.heap.size 25 (cells4 0 0 ⟨#[]⟩ 0 0) _ rfl (setRow_heap' _ _ _ _ _ hcell) (Tryz.size25 _ rfl) Tryz.st25) rfl ⟨rfl, below_setRow HB.out (Nat.le_refl _) _⟩
end Go.Proofs.YtcogajgikmcfpaaGreatDoor
end
