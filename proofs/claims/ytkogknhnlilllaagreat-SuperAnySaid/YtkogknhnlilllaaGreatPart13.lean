/-
  Texts of a proof over the translated program: proved evaluators and walks, part 13 of 13.
-/
import Derived.Test.YtkogknhnlilllaaGreatPart12
import Derived.Below
import Derived.Deep.Cut
import Derived.Deep.RegionHeld3
import Derived.Deep.RegionWith
import Derived.Great.BuildSlice
import Derived.Handy
import Derived.IntWalk
import Derived.Laws.AppendOwnNone
import Derived.Laws.BitsLemmas
import Derived.Laws.BytesArg
import Derived.Laws.BytesString
import Derived.Laws.Closers25b
import Derived.Laws.CopyOwn
import Derived.Laws.CopyRow
import Derived.Laws.IdiomStrings
import Derived.Laws.MakeOwn
import Derived.Laws.StructEq
import Derived.Lib.Hide
import Derived.Lib.SlBytesRow
import Derived.LoopTactic
import Derived.MapKept
import Derived.Orders
import Derived.Outline
import Derived.OwnWalk
import Derived.Scope
import Derived.ScopeJumps
import Derived.Test.YtkogknhnlilllaaGreatProg
import Derived.WalkKit
import Derived.WalkMore
import Derived.WalkSpells
set_option linter.unusedVariables false
set_option linter.unusedSimpArgs false
set_option linter.unusedSectionVars false
set_option linter.unnecessarySimpa false
section
namespace Go.Proofs
open Go.RowKit Go.FM
set_option maxRecDepth 100000
def YesV (w : World) (e : Ending) (w' : World) : Prop := e = .returned (.bool true) ∧ Below w.heap.size w w'
open Classical in
noncomputable def LS (e : Nat) (a n : Int) : List UInt8 := if okS e a n then supB e a.toNat n.toNat else []
open Classical in
noncomputable def ES (e : Nat) (a n : Int) : Int := if okS e a n then 0 else 1
theorem SupP.out {w w' : World} {e : Nat} {a n : Int} {x : Ending} (h : SupP w e a n x w') : ∃ A c, x = .returned (.tuple #[.slice A (LS e a n).length c, .int .i64 (ES e a n)]) ∧ DI w' A (LS e a n).length c (LS e a n) ∧ Below w.heap.size w w' := by
  rcases h with ⟨hok, ⟨v, rfl, ho⟩, hb⟩ | ⟨hno, rfl, hb⟩
  · obtain ⟨A, c, hv, hd⟩ := ho.di
    refine ⟨A, c, ?_, ?_, hb⟩
    · unfold LS ES
      rw [if_pos hok, if_pos hok, hv]
    · unfold LS
      rw [if_pos hok]
      exact hd
  · refine ⟨none, 0, ?_, ?_, hb⟩
    · unfold LS ES
      rw [if_neg hno, if_neg hno]
      rfl
    · unfold LS
      rw [if_neg hno]
      exact di_nil _
noncomputable def GV (l : List UInt8) : Nat × Nat × Nat × Int := match supG l with | some (e, a, n) => (e, a, n, 0) | none => (0, 0, 0, 12)
theorem GetP.out {w w' : World} {l : List UInt8} {x : Ending} (h : GetP w l x w') : x = .returned (.tuple #[.agg #[.int .u64 (GV l).1, .int .i64 (GV l).2.1, .int .i64 (GV l).2.2.1], .int .i64 (GV l).2.2.2]) ∧ (GV l).1 < 18446744073709551616 ∧ Below w.heap.size w w' := by
  obtain ⟨hb, ⟨e, a, n, hs, he, rfl⟩ | ⟨hs, rfl⟩⟩ := h
  · unfold GV
    rw [hs]
    exact ⟨rfl, he, hb⟩
  · unfold GV
    rw [hs]
    exact ⟨rfl, by decide, hb⟩
theorem Tryz.any_cut (w : World) (e a n : Int) (A : Option Addr) (m c : Nat) (h : 300 < m) : Calls Tryz.prog 3 #[.agg #[.int .u64 e, .int .i64 a, .int .i64 n], .slice A m c] w (YesV w) := by
  have g1 : decide ((300 : Int) < m) = true := decide_eq_true (by omega)
  have g1' : decide (300 < m) = true := decide_eq_true h
  have BB := Lib.hid ((Below.refl _ w).alloc (Nat.le_refl _) (.cells #[.int .u64 e, .int .i64 a, .int .i64 n] 26))
  clear h
  go_enter Tryz.func3, Tryz.ntmps3
  go_wp2_with fail
  refine (Tryz.known4 _).mono ?_
  rintro x w1 ⟨rfl, hb⟩
  have HB := Lib.hid ((BB.out).trans (hb.mono (BB.out).size))
  clear hb
  go_wp2_with fail
  go_ret
  exact ⟨rfl, HB.out⟩
set_option maxHeartbeats 16000000 in
theorem Tryz.any (w : World) (e : Nat) (a n : Int) {A : Option Addr} {m c : Nat} {l : List UInt8} (hD : DI w A m c l) (hm : m ≤ 300) (he : e < 18446744073709551616) (ha : -9223372036854775808 ≤ a ∧ a ≤ 9223372036854775807) (hn : -9223372036854775808 ≤ n ∧ n ≤ 9223372036854775807) :
    Calls Tryz.prog 3 #[.agg #[.int .u64 e, .int .i64 a, .int .i64 n], .slice A m c] w (YesV w) := by
  have HD := Lib.hid hD
  have HA := Lib.hid ha
  have HN := Lib.hid hn
  have HE := Lib.hid he
  have g1 : decide ((300 : Int) < m) = false := decide_eq_false (by omega)
  have g1' : decide (300 < m) = false := decide_eq_false (by omega)
  have VB := Lib.hid (heap_alloc_new w (.cells #[.int .u64 e, .int .i64 a, .int .i64 n] 26))
  have BB := Lib.hid ((Below.refl _ w).alloc (Nat.le_refl _) (.cells #[.int .u64 e, .int .i64 a, .int .i64 n] 26))
  obtain ⟨wb, hwb⟩ : ∃ wb, w.alloc (.cells #[.int .u64 e, .int .i64 a, .int .i64 n] 26) = wb := ⟨_, rfl⟩
  obtain ⟨b2, hb2⟩ : ∃ b2, w.heap.size = b2 := ⟨_, rfl⟩
  rw [hwb] at VB BB
  rw [hb2] at VB
  have HB2 := Lib.hid hb2
  clear hD ha hn he
  go_enter Tryz.func3, Tryz.ntmps3
  go_upto_region 1 with fail
  clear hwb hb2
  go_wp2_with fail
  refine (Tryz.known4 wb).mono ?_
  rintro x w1 ⟨rfl, hb⟩
  have V1 := Lib.hid ((hb.block b2 (Array.getElem?_eq_some_iff.1 VB.out).1).trans VB.out)
  have B1 := Lib.hid ((BB.out).trans (hb.mono (BB.out).size))
  clear hb
  go_wp2_with (refine wpList_load_row _ rfl 26 (.tmp 2) rfl b2 26 #[.int .u64 e, .int .i64 a, .int .i64 n] _ rfl (V1.out) size26 st26 ?_)
  refine (Tryz.sput w1 e a n HE.out HA.out HN.out).mono ?_
  intro x w2 hS
  obtain ⟨A1, c1, rfl, hd1, hb⟩ := hS.out
  have D2 := Lib.hid hd1
  have V2 := Lib.hid ((hb.block b2 (Array.getElem?_eq_some_iff.1 V1.out).1).trans V1.out)
  have B2 := Lib.hid ((B1.out).trans (hb.mono (B1.out).size))
  clear hS hd1 hb V1
  obtain ⟨L, hL⟩ : ∃ L, LS e a n = L := ⟨_, rfl⟩
  obtain ⟨E, hE⟩ : ∃ E, ES e a n = E := ⟨_, rfl⟩
  rw [hL] at D2
  rw [hL, hE]
  have HL := Lib.hid hL
  have HEE := Lib.hid hE
  obtain ⟨q, hq⟩ : ∃ q, L.length = q := ⟨_, rfl⟩
  rw [hq] at D2 ⊢
  have HQ := Lib.hid hq
  clear hL hE hq
  go_wp2_with (refine wpList_load_row _ rfl 26 (.tmp 2) rfl b2 26 #[.int .u64 e, .int .i64 a, .int .i64 n] _ rfl (V2.out) size26 st26 ?_)
  refine (Tryz.sOf e a n w2).mono ?_
  rintro x w3 ⟨rfl, hb⟩
  have D3 := Lib.hid ((D2.out).below hb)
  have V3 := Lib.hid ((hb.block b2 (Array.getElem?_eq_some_iff.1 V2.out).1).trans V2.out)
  have B3 := Lib.hid ((B2.out).trans (hb.mono (B2.out).size))
  clear hb D2 V2
  go_wp2_with fail
  refine (Tryz.rsput w3 e a n HE.out HA.out HN.out).mono ?_
  intro x w4 hS
  obtain ⟨A2, c2, rfl, hd2, hb⟩ := hS.out
  rw [HL.out, HQ.out] at hd2
  rw [HL.out, HEE.out, HQ.out]
  have F4 := Lib.hid hd2
  have D4 := Lib.hid ((D3.out).below hb)
  have V4 := Lib.hid ((hb.block b2 (Array.getElem?_eq_some_iff.1 V3.out).1).trans V3.out)
  have B4 := Lib.hid ((B3.out).trans (hb.mono (B3.out).size))
  clear hS hd2 hb D3 V3
  go_upto_region 7 with fail
  have k0 : w4.cell? ⟨b2, 0, none⟩ = some (.int .u64 e) := cell_of_row w4 b2 0 _ 26 _ V4.out
  have k1 := ((D4.out).below ((Below.refl _ w4).drew)).conv
  have k2 := ((F4.out).below ((Below.refl _ w4).drew)).conv
  refine wp_region_noPanic ?_
  refine wp_region_held_drew (S := (fun W => W.cell? ⟨b2, 0, none⟩ = some (.int .u64 e) ∧ (convert 27 9 (.slice A1 q c1)).run Tryz.prog W = .ok (.string (strOf L)) W ∧ (convert 27 9 (.slice A2 q c2)).run Tryz.prog W = .ok (.string (strOf L)) W)) (by kernel_rfl) ?_ (fun hHeld => ?_)
  · exact ⟨k0, k1, k2⟩
  refine wpAnyH_take (i := 0) (oi := { dst := some 33, op := Op.move (Operand.tmp 6), type := 29, pos := "law.go:58", after := #[], guard := none }) (v := ?_) rfl (by kernel_rfl) (by kernel_rfl) (by kernel_rfl) (fun _ _ _ h => h) (Or.inl ⟨by rfl, ?_⟩) (by assumption) ?_
  rotate_left
  · (intro w hSw; (try dsimp only at hSw); go_simp; try with_reducible rfl)
  try simp only [Act.put, List.setIfInBounds_toArray, List.set_cons_zero, List.set_cons_succ]
  refine wpAnyH_take (i := 1) (oi := { dst := some 34, op := Op.move (Operand.tmp 8), type := 3, pos := "law.go:58", after := #[], guard := none }) (v := ?_) rfl (by kernel_rfl) (by kernel_rfl) (by kernel_rfl) (fun _ _ _ h => h) (Or.inl ⟨by rfl, ?_⟩) (by assumption) ?_
  rotate_left
  · (intro w hSw; (try dsimp only at hSw); go_simp; try with_reducible rfl)
  try simp only [Act.put, List.setIfInBounds_toArray, List.set_cons_zero, List.set_cons_succ]
  refine wpAnyH_take (i := 2) (oi := { dst := some 35, op := Op.binOp BinOp.neq 3 (Operand.tmp 33) (Operand.tmp 34) 3, type := 4, pos := "law.go:58", after := #[{ on := 0, ground := Ground.data }, { on := 1, ground := Ground.data }], guard := none }) (v := ?_) rfl (by kernel_rfl) (by kernel_rfl) (by kernel_rfl) (fun _ _ _ h => h) (Or.inl ⟨by rfl, ?_⟩) (by assumption) ?_
  rotate_left
  · (intro w hSw; (try dsimp only at hSw); go_simp; try with_reducible rfl)
  try simp only [Act.put, List.setIfInBounds_toArray, List.set_cons_zero, List.set_cons_succ]
  refine wpAnyH_take (i := 3) (oi := { dst := some 36, op := Op.move (Operand.tmp 35), type := 4, pos := "law.go:58", after := #[{ on := 2, ground := Ground.data }], guard := none }) (v := ?_) rfl (by kernel_rfl) (by kernel_rfl) (by kernel_rfl) (fun _ _ _ h => h) (Or.inl ⟨by rfl, ?_⟩) (by assumption) ?_
  rotate_left
  · (intro w hSw; (try dsimp only at hSw); go_simp; try with_reducible rfl)
  try simp only [Act.put, List.setIfInBounds_toArray, List.set_cons_zero, List.set_cons_succ]
  refine wpAnyH_take (i := 4) (oi := { dst := some 37, op := Op.move (Operand.tmp 5), type := 27, pos := "law.go:58", after := #[{ on := 3, ground := Ground.guard }], guard := some (3, false) }) (v := ?_) rfl (by kernel_rfl) (by kernel_rfl) (by kernel_rfl) (fun _ _ _ h => h) (Or.inl ⟨by rfl, ?_⟩) (by assumption) ?_
  rotate_left
  · (intro w hSw; (try dsimp only at hSw); go_simp; try with_reducible rfl)
  try simp only [Act.put, List.setIfInBounds_toArray, List.set_cons_zero, List.set_cons_succ]
  refine wpAnyH_take (i := 5) (oi := { dst := some 38, op := Op.convert 27 9 (Operand.tmp 37), type := 9, pos := "law.go:58", after := #[{ on := 4, ground := Ground.data }, { on := 3, ground := Ground.guard }], guard := some (3, false) }) (v := ?_) rfl (by kernel_rfl) (by kernel_rfl) (by kernel_rfl) (fun _ _ _ h => h) (Or.inl ⟨by rfl, ?_⟩) (by assumption) ?_
  rotate_left
  · (intro w hSw; (try dsimp only at hSw); go_simp; try with_reducible rfl)
  try simp only [Act.put, List.setIfInBounds_toArray, List.set_cons_zero, List.set_cons_succ]
  refine wpAnyH_take (i := 6) (oi := { dst := some 39, op := Op.move (Operand.tmp 7), type := 27, pos := "law.go:58", after := #[{ on := 3, ground := Ground.guard }], guard := some (3, false) }) (v := ?_) rfl (by kernel_rfl) (by kernel_rfl) (by kernel_rfl) (fun _ _ _ h => h) (Or.inl ⟨by rfl, ?_⟩) (by assumption) ?_
  rotate_left
  · (intro w hSw; (try dsimp only at hSw); go_simp; try with_reducible rfl)
  try simp only [Act.put, List.setIfInBounds_toArray, List.set_cons_zero, List.set_cons_succ]
  refine wpAnyH_take (i := 7) (oi := { dst := some 40, op := Op.convert 27 9 (Operand.tmp 39), type := 9, pos := "law.go:58", after := #[{ on := 6, ground := Ground.data }, { on := 3, ground := Ground.guard }], guard := some (3, false) }) (v := ?_) rfl (by kernel_rfl) (by kernel_rfl) (by kernel_rfl) (fun _ _ _ h => h) (Or.inl ⟨by rfl, ?_⟩) (by assumption) ?_
  rotate_left
  · (intro w hSw; (try dsimp only at hSw); go_simp; try with_reducible rfl)
  try simp only [Act.put, List.setIfInBounds_toArray, List.set_cons_zero, List.set_cons_succ]
  refine wpAnyH_take (i := 8) (oi := { dst := some 41, op := Op.binOp BinOp.neq 9 (Operand.tmp 38) (Operand.tmp 40) 9, type := 4, pos := "law.go:58", after := #[{ on := 5, ground := Ground.data }, { on := 7, ground := Ground.data }, { on := 3, ground := Ground.guard }], guard := some (3, false) }) (v := ?_) rfl (by kernel_rfl) (by kernel_rfl) (by kernel_rfl) (fun _ _ _ h => h) (Or.inl ⟨by rfl, ?_⟩) (by assumption) ?_
  rotate_left
  · (intro w hSw; (try dsimp only at hSw); go_simp; try with_reducible rfl)
  try simp only [Act.put, List.setIfInBounds_toArray, List.set_cons_zero, List.set_cons_succ]
  refine wpAnyH_take (i := 9) (oi := { dst := some 42, op := Op.pick (Operand.tmp 36) (Operand.const (Value.bool true)) (Operand.tmp 41), type := 4, pos := "law.go:58", after := #[{ on := 3, ground := Ground.data }, { on := 8, ground := Ground.data }], guard := none }) (v := ?_) rfl (by kernel_rfl) (by kernel_rfl) (by kernel_rfl) (fun _ _ _ h => h) (Or.inl ⟨by rfl, ?_⟩) (by assumption) ?_
  rotate_left
  · (intro w hSw; (try dsimp only at hSw); go_simp; try with_reducible rfl)
  try simp only [Act.put, List.setIfInBounds_toArray, List.set_cons_zero, List.set_cons_succ]
  refine wpAnyH_take (i := 10) (oi := { dst := some 43, op := Op.move (Operand.tmp 42), type := 4, pos := "law.go:58", after := #[{ on := 9, ground := Ground.data }, { on := 3, ground := Ground.chain }], guard := none }) (v := ?_) rfl (by kernel_rfl) (by kernel_rfl) (by kernel_rfl) (fun _ _ _ h => h) (Or.inl ⟨by rfl, ?_⟩) (by assumption) ?_
  rotate_left
  · (intro w hSw; (try dsimp only at hSw); go_simp; try with_reducible rfl)
  try simp only [Act.put, List.setIfInBounds_toArray, List.set_cons_zero, List.set_cons_succ]
  refine wpAnyH_take (i := 11) (oi := { dst := some 44, op := Op.fieldAddr 26 (Operand.tmp 2) 0, type := 0, pos := "law.go:58", after := #[{ on := 10, ground := Ground.guard }], guard := some (10, false) }) (v := ?_) rfl (by kernel_rfl) (by kernel_rfl) (by kernel_rfl) (fun _ _ _ h => h) (Or.inl ⟨by rfl, ?_⟩) (by assumption) ?_
  rotate_left
  · (intro w hSw; (try dsimp only at hSw); go_simp; try with_reducible rfl)
  try simp only [Act.put, List.setIfInBounds_toArray, List.set_cons_zero, List.set_cons_succ]
  refine wpAnyH_take (i := 12) (oi := { dst := some 45, op := Op.load 22 (Operand.tmp 44), type := 22, pos := "law.go:58", after := #[{ on := 11, ground := Ground.data }, { on := 10, ground := Ground.guard }], guard := some (10, false) }) (v := ?_) rfl (by kernel_rfl) (by kernel_rfl) (by kernel_rfl) (fun _ _ _ h => h) (Or.inl ⟨by rfl, ?_⟩) (by assumption) ?_
  rotate_left
  · (intro w hSw; (try dsimp only at hSw); go_simp; try with_reducible rfl)
  try simp only [Act.put, List.setIfInBounds_toArray, List.set_cons_zero, List.set_cons_succ]
  refine wpAnyH_take (i := 14) (oi := { dst := some 47, op := Op.fieldAddr 26 (Operand.tmp 2) 0, type := 0, pos := "law.go:58", after := #[{ on := 10, ground := Ground.guard }], guard := some (10, false) }) (v := ?_) rfl (by kernel_rfl) (by kernel_rfl) (by kernel_rfl) (fun _ _ _ h => h) (Or.inl ⟨by rfl, ?_⟩) (by assumption) ?_
  rotate_left
  · (intro w hSw; (try dsimp only at hSw); go_simp; try with_reducible rfl)
  try simp only [Act.put, List.setIfInBounds_toArray, List.set_cons_zero, List.set_cons_succ]
  refine wpAnyH_take (i := 15) (oi := { dst := some 48, op := Op.load 22 (Operand.tmp 47), type := 22, pos := "law.go:58", after := #[{ on := 14, ground := Ground.data }, { on := 10, ground := Ground.guard }], guard := some (10, false) }) (v := ?_) rfl (by kernel_rfl) (by kernel_rfl) (by kernel_rfl) (fun _ _ _ h => h) (Or.inl ⟨by rfl, ?_⟩) (by assumption) ?_
  rotate_left
  · (intro w hSw; (try dsimp only at hSw); go_simp; try with_reducible rfl)
  try simp only [Act.put, List.setIfInBounds_toArray, List.set_cons_zero, List.set_cons_succ]
  refine wpAnyH_ready (rs := [13]) (by kernel_rfl) (by simp) ?_
  refine AllReadyH.cons (o := { dst := some 46, op := Op.call { callee := Callee.value (Operand.func 8), args := #[Operand.tmp 45], argTypes := #[22] }, type := 3, pos := "law.go:58", after := #[{ on := 12, ground := Ground.data }, { on := 10, ground := Ground.chain }, { on := 10, ground := Ground.guard }], guard := some (10, false) }) rfl (fun K hK => ?_) AllReadyH.nil
  go_simp
  refine (Tryz.slot e HE.out _).mono ?_
  rintro x5 w5 ⟨rfl, hw5⟩
  rw [hw5]
  clear hw5 w5
  refine hK.out _ _ ?_ (fun hHeld => ?_)
  · assumption
  clear hK K
  try simp only [Act.put, List.setIfInBounds_toArray, List.set_cons_zero, List.set_cons_succ]
  refine wpAnyH_ready (rs := [16]) (by kernel_rfl) (by simp) ?_
  refine AllReadyH.cons (o := { dst := some 49, op := Op.call { callee := Callee.value (Operand.func 9), args := #[Operand.tmp 48], argTypes := #[22] }, type := 3, pos := "law.go:58", after := #[{ on := 15, ground := Ground.data }, { on := 13, ground := Ground.chain }, { on := 10, ground := Ground.guard }], guard := some (10, false) }) rfl (fun K hK => ?_) AllReadyH.nil
  go_simp
  refine (Tryz.rslot e HE.out _).mono ?_
  rintro x5 w5 ⟨rfl, hw5⟩
  rw [hw5]
  clear hw5 w5
  refine hK.out _ _ ?_ (fun hHeld => ?_)
  · assumption
  clear hK K
  try simp only [Act.put, List.setIfInBounds_toArray, List.set_cons_zero, List.set_cons_succ]
  refine wpAnyH_take (i := 17) (oi := { dst := some 50, op := Op.binOp BinOp.neq 3 (Operand.tmp 46) (Operand.tmp 49) 3, type := 4, pos := "law.go:58", after := #[{ on := 13, ground := Ground.data }, { on := 16, ground := Ground.data }, { on := 10, ground := Ground.guard }], guard := some (10, false) }) (v := ?_) rfl (by kernel_rfl) (by kernel_rfl) (by kernel_rfl) (fun _ _ _ h => h) (Or.inl ⟨by rfl, ?_⟩) (by assumption) ?_
  rotate_left
  · (intro w hSw; (try dsimp only at hSw); go_simp; try with_reducible rfl)
  try simp only [Act.put, List.setIfInBounds_toArray, List.set_cons_zero, List.set_cons_succ]
  refine wpAnyH_take (i := 18) (oi := { dst := some 51, op := Op.pick (Operand.tmp 43) (Operand.const (Value.bool true)) (Operand.tmp 50), type := 4, pos := "law.go:58", after := #[{ on := 10, ground := Ground.data }, { on := 17, ground := Ground.data }], guard := none }) (v := ?_) rfl (by kernel_rfl) (by kernel_rfl) (by kernel_rfl) (fun _ _ _ h => h) (Or.inl ⟨by rfl, ?_⟩) (by assumption) ?_
  rotate_left
  · (intro w hSw; (try dsimp only at hSw); go_simp; try with_reducible rfl)
  try simp only [Act.put, List.setIfInBounds_toArray, List.set_cons_zero, List.set_cons_succ]
  refine wpAnyH_done (by kernel_rfl) ?_ _
  refine NoPanic.normal ?_
  obtain ⟨w5, hw5⟩ : ∃ w5, w4.drew = w5 := ⟨_, rfl⟩
  have D5 : Hid (DI w5 A1 q c1 L) := Lib.hid (by rw [← hw5]; exact (D4.out).below ((Below.refl _ w4).drew))
  have V5 : Hid (w5.heap[b2]? = some (.cells #[.int .u64 e, .int .i64 a, .int .i64 n] 26 (0, 0))) := Lib.hid (by rw [← hw5]; exact V4.out)
  have B5 : Hid (Below w.heap.size w w5) := Lib.hid (by rw [← hw5]; exact (B4.out).drew)
  rw [hw5]
  clear k0 k1 k2 hHeld hw5 D4 F4 V4 B4
  go_upto_region 9 with fail
  by_cases hok : okS e a n
  · obtain ⟨a, rfl⟩ : ∃ a' : Nat, a = (a' : Int) := ⟨a.toNat, by unfold okS at hok; omega⟩
    obtain ⟨n, rfl⟩ : ∃ n' : Nat, n = (n' : Int) := ⟨n.toNat, by unfold okS at hok; omega⟩
    have hE0 : E = 0 := by rw [← HEE.out]; unfold ES; rw [if_pos hok]
    have hL0 : supG L = some (e, a, n) := by
      rw [← HL.out]; unfold LS; rw [if_pos hok, Int.toNat_natCast, Int.toNat_natCast]; exact supG_put hok HE.out
    have hGV : GV L = (e, a, n, 0) := by unfold GV; rw [hL0]
    have HGL := Lib.hid hGV
    have hq64 : q ≤ 400 := by rw [← HQ.out, ← HL.out]; unfold LS; rw [if_pos hok, supB_len]; omega
    subst hE0
    clear hok hL0 hGV
    go_wp2_with fail
    refine (Tryz.sget w5 D5.out hq64).mono ?_
    intro x w6 hG
    obtain ⟨rfl, hge0, hb⟩ := hG.out
    rw [HGL.out]
    dsimp only
    have V6 := Lib.hid ((hb.block b2 (Array.getElem?_eq_some_iff.1 V5.out).1).trans V5.out)
    have B6 := Lib.hid ((B5.out).trans (hb.mono (B5.out).size))
    clear hG hb hge0 V5 B5 D5
    go_upto_region 11 with fail
    have Y6 := Lib.hid (heap_alloc_new w6 (.cells #[.int .u64 e, .int .i64 a, .int .i64 n] 26))
    have BA6 := Lib.hid ((Below.refl w6.heap.size w6).alloc (Nat.le_refl _) (.cells #[.int .u64 e, .int .i64 a, .int .i64 n] 26))
    obtain ⟨w7, hw7⟩ : ∃ w7, w6.alloc (.cells #[.int .u64 e, .int .i64 a, .int .i64 n] 26) = w7 := ⟨_, rfl⟩
    obtain ⟨b9, hb9⟩ : ∃ b9, w6.heap.size = b9 := ⟨_, rfl⟩
    rw [hw7] at Y6 BA6
    rw [hb9] at Y6
    have V7 := Lib.hid (((BA6.out).block b2 (Array.getElem?_eq_some_iff.1 V6.out).1).trans V6.out)
    have B7 := Lib.hid ((B6.out).trans ((BA6.out).mono (B6.out).size))
    rw [hw7, hb9]
    clear hw7 hb9
    have y0 : w7.cell? ⟨b9, 0, none⟩ = some (.int .u64 e) := cell_of_row w7 b9 0 _ 26 _ Y6.out
    have y1 : w7.cell? ⟨b9, 1, none⟩ = some (.int .i64 a) := cell_of_row w7 b9 1 _ 26 _ Y6.out
    have y2 : w7.cell? ⟨b9, 2, none⟩ = some (.int .i64 n) := cell_of_row w7 b9 2 _ 26 _ Y6.out
    have x0 : w7.cell? ⟨b2, 0, none⟩ = some (.int .u64 e) := cell_of_row w7 b2 0 _ 26 _ V7.out
    have x1 : w7.cell? ⟨b2, 1, none⟩ = some (.int .i64 a) := cell_of_row w7 b2 1 _ 26 _ V7.out
    have x2 : w7.cell? ⟨b2, 2, none⟩ = some (.int .i64 n) := cell_of_row w7 b2 2 _ 26 _ V7.out
    have DW7 := Lib.hid ((HD.out).below B7.out)
    clear Y6 BA6 V6 B6 V7
    go_upto_region 13 with fail
    clear y0 y1 y2 x0 x1 x2
    go_wp2_with fail
    refine (Tryz.sget w7 DW7.out (by omega)).mono ?_
    intro x w8 hG
    obtain ⟨rfl, hge, hb⟩ := hG.out
    obtain ⟨⟨e2, a2, n2, k2⟩, hgv⟩ : ∃ g, GV l = g := ⟨_, rfl⟩
    rw [hgv] at hge ⊢
    dsimp only at hge ⊢
    have HGV := Lib.hid hgv
    have D8 := Lib.hid ((DW7.out).below hb)
    have B8 := Lib.hid ((B7.out).trans (hb.mono (B7.out).size))
    clear hG hb hgv
    go_upto_region 14 with fail
    have Y8 := Lib.hid (heap_alloc_new w8 (.cells #[.int .u64 e2, .int .i64 a2, .int .i64 n2] 26))
    have BA0 := Lib.hid ((Below.refl w8.heap.size w8).alloc (Nat.le_refl _) (.cells #[.int .u64 e2, .int .i64 a2, .int .i64 n2] 26))
    obtain ⟨wA, hwA⟩ : ∃ wA, w8.alloc (.cells #[.int .u64 e2, .int .i64 a2, .int .i64 n2] 26) = wA := ⟨_, rfl⟩
    obtain ⟨b11, hb11⟩ : ∃ b11, w8.heap.size = b11 := ⟨_, rfl⟩
    rw [hwA] at Y8 BA0
    rw [hb11] at Y8
    have YA := Lib.hid (show wA.heap[b11]? = some (.cells #[.int .u64 e2, .int .i64 a2, .int .i64 n2] 26 (0, 0)) from Y8.out)
    have DA := Lib.hid ((D8.out).below BA0.out)
    have BA := Lib.hid ((B8.out).trans ((BA0.out).mono (B8.out).size))
    rw [hwA, hb11]
    clear hwA hb11 Y8 BA0 D8 B8
    go_wp2_with fail
    refine (Tryz.rsget wA DA.out (by omega)).mono ?_
    intro x w9 hG
    obtain ⟨rfl, hge2, hb⟩ := hG.out
    rw [HGV.out]
    dsimp only
    have Y9 := Lib.hid ((hb.block b11 (Array.getElem?_eq_some_iff.1 YA.out).1).trans YA.out)
    have D9 := Lib.hid ((DA.out).below hb)
    have B9 := Lib.hid ((BA.out).trans (hb.mono (BA.out).size))
    clear hG hb hge2 YA DA BA
    go_upto_region 15 with fail
    have ZB := Lib.hid (heap_alloc_new w9 (.cells #[.int .u64 e2, .int .i64 a2, .int .i64 n2] 36))
    have BB0 := Lib.hid ((Below.refl w9.heap.size w9).alloc (Nat.le_refl _) (.cells #[.int .u64 e2, .int .i64 a2, .int .i64 n2] 36))
    obtain ⟨wB, hwB⟩ : ∃ wB, w9.alloc (.cells #[.int .u64 e2, .int .i64 a2, .int .i64 n2] 36) = wB := ⟨_, rfl⟩
    obtain ⟨b13, hb13⟩ : ∃ b13, w9.heap.size = b13 := ⟨_, rfl⟩
    rw [hwB] at ZB BB0
    rw [hb13] at ZB
    have YB := Lib.hid (((BB0.out).block b11 (Array.getElem?_eq_some_iff.1 Y9.out).1).trans Y9.out)
    have DB := Lib.hid ((D9.out).below BB0.out)
    have B10 := Lib.hid ((B9.out).trans ((BB0.out).mono (B9.out).size))
    rw [hwB, hb13]
    clear hwB hb13 BB0 D9 B9 Y9
    have y0 : wB.cell? ⟨b11, 0, none⟩ = some (.int .u64 e2) := cell_of_row wB b11 0 _ 26 _ YB.out
    have y1 : wB.cell? ⟨b11, 1, none⟩ = some (.int .i64 a2) := cell_of_row wB b11 1 _ 26 _ YB.out
    have y2 : wB.cell? ⟨b11, 2, none⟩ = some (.int .i64 n2) := cell_of_row wB b11 2 _ 26 _ YB.out
    have z0 : wB.cell? ⟨b13, 0, none⟩ = some (.int .u64 e2) := cell_of_row wB b13 0 _ 36 _ ZB.out
    have z1 : wB.cell? ⟨b13, 1, none⟩ = some (.int .i64 a2) := cell_of_row wB b13 1 _ 36 _ ZB.out
    have z2 : wB.cell? ⟨b13, 2, none⟩ = some (.int .i64 n2) := cell_of_row wB b13 2 _ 36 _ ZB.out
    have Y0 := Lib.hid y0
    have Y1 := Lib.hid y1
    have Y2 := Lib.hid y2
    have Z0 := Lib.hid z0
    have Z1 := Lib.hid z1
    have Z2 := Lib.hid z2
    refine wp_region_noPanic ?_
    refine wp_region_held_drew (S := (fun W => W.cell? ⟨b11, 0, none⟩ = some (.int .u64 e2) ∧ W.cell? ⟨b11, 1, none⟩ = some (.int .i64 a2) ∧ W.cell? ⟨b11, 2, none⟩ = some (.int .i64 n2) ∧ W.cell? ⟨b13, 0, none⟩ = some (.int .u64 e2) ∧ W.cell? ⟨b13, 1, none⟩ = some (.int .i64 a2) ∧ W.cell? ⟨b13, 2, none⟩ = some (.int .i64 n2))) (by kernel_rfl) ?_ (fun hHeld => ?_)
    · exact ⟨y0, y1, y2, z0, z1, z2⟩
    refine wpAnyH_take (i := 0) (oi := { dst := some 76, op := Op.move (Operand.tmp 12), type := 29, pos := "law.go:69", after := #[], guard := none }) (v := ?_) rfl (by kernel_rfl) (by kernel_rfl) (by kernel_rfl) (fun _ _ _ h => h) (Or.inl ⟨by rfl, ?_⟩) (by assumption) ?_
    rotate_left
    · (intro w hSw; (try dsimp only at hSw); go_simp; try with_reducible rfl)
    try simp only [Act.put, List.setIfInBounds_toArray, List.set_cons_zero, List.set_cons_succ]
    refine wpAnyH_take (i := 1) (oi := { dst := some 77, op := Op.move (Operand.tmp 14), type := 3, pos := "law.go:69", after := #[], guard := none }) (v := ?_) rfl (by kernel_rfl) (by kernel_rfl) (by kernel_rfl) (fun _ _ _ h => h) (Or.inl ⟨by rfl, ?_⟩) (by assumption) ?_
    rotate_left
    · (intro w hSw; (try dsimp only at hSw); go_simp; try with_reducible rfl)
    try simp only [Act.put, List.setIfInBounds_toArray, List.set_cons_zero, List.set_cons_succ]
    refine wpAnyH_take (i := 2) (oi := { dst := some 78, op := Op.binOp BinOp.neq 3 (Operand.tmp 76) (Operand.tmp 77) 3, type := 4, pos := "law.go:69", after := #[{ on := 0, ground := Ground.data }, { on := 1, ground := Ground.data }], guard := none }) (v := ?_) rfl (by kernel_rfl) (by kernel_rfl) (by kernel_rfl) (fun _ _ _ h => h) (Or.inl ⟨by rfl, ?_⟩) (by assumption) ?_
    rotate_left
    · (intro w hSw; (try dsimp only at hSw); go_simp; try with_reducible rfl)
    try simp only [Act.put, List.setIfInBounds_toArray, List.set_cons_zero, List.set_cons_succ]
    refine wpAnyH_take (i := 3) (oi := { dst := some 79, op := Op.move (Operand.tmp 78), type := 4, pos := "law.go:69", after := #[{ on := 2, ground := Ground.data }], guard := none }) (v := ?_) rfl (by kernel_rfl) (by kernel_rfl) (by kernel_rfl) (fun _ _ _ h => h) (Or.inl ⟨by rfl, ?_⟩) (by assumption) ?_
    rotate_left
    · (intro w hSw; (try dsimp only at hSw); go_simp; try with_reducible rfl)
    try simp only [Act.put, List.setIfInBounds_toArray, List.set_cons_zero, List.set_cons_succ]
    refine wpAnyH_take (i := 4) (oi := { dst := some 80, op := Op.load 26 (Operand.tmp 11), type := 26, pos := "law.go:69", after := #[{ on := 3, ground := Ground.guard }], guard := some (3, false) }) (v := ?_) rfl (by kernel_rfl) (by kernel_rfl) (by kernel_rfl) (fun _ _ _ h => h) (Or.inl ⟨by rfl, ?_⟩) (by assumption) ?_
    rotate_left
    · (intro w hSw; (try dsimp only at hSw); go_simp; try with_reducible rfl)
    try simp only [Act.put, List.setIfInBounds_toArray, List.set_cons_zero, List.set_cons_succ]
    refine wpAnyH_take (i := 6) (oi := { dst := some 82, op := Op.load 36 (Operand.tmp 13), type := 36, pos := "law.go:69", after := #[{ on := 3, ground := Ground.guard }], guard := some (3, false) }) (v := ?_) rfl (by kernel_rfl) (by kernel_rfl) (by kernel_rfl) (fun _ _ _ h => h) (Or.inl ⟨by rfl, ?_⟩) (by assumption) ?_
    rotate_left
    · (intro w hSw; (try dsimp only at hSw); go_simp; try with_reducible rfl)
    try simp only [Act.put, List.setIfInBounds_toArray, List.set_cons_zero, List.set_cons_succ]
    refine wpAnyH_ready (rs := [5]) (by kernel_rfl) (by simp) ?_
    refine AllReadyH.cons (o := { dst := some 81, op := Op.call { callee := Callee.value (Operand.func 7), args := #[Operand.tmp 80], argTypes := #[26] }, type := 36, pos := "law.go:69", after := #[{ on := 4, ground := Ground.data }, { on := 3, ground := Ground.chain }, { on := 3, ground := Ground.guard }], guard := some (3, false) }) rfl (fun K hK => ?_) AllReadyH.nil
    go_simp
    refine (Tryz.sOf e2 a2 n2 _).mono ?_
    rintro xC wC ⟨rfl, hbC⟩
    have BC : Below wB.heap.size wB wC := ((Below.refl _ wB).drew).trans hbC
    refine hK.out _ _ ?_ (fun hHeld => ?_)
    · exact ⟨cellW Y0.out BC, cellW Y1.out BC, cellW Y2.out BC, cellW Z0.out BC, cellW Z1.out BC, cellW Z2.out BC⟩
    clear hK K
    try simp only [Act.put, List.setIfInBounds_toArray, List.set_cons_zero, List.set_cons_succ]
    refine wpAnyH_take (i := 7) (oi := { dst := some 83, op := Op.binOp BinOp.neq 36 (Operand.tmp 81) (Operand.tmp 82) 36, type := 4, pos := "law.go:69", after := #[{ on := 5, ground := Ground.data }, { on := 6, ground := Ground.data }, { on := 3, ground := Ground.guard }], guard := some (3, false) }) (v := ?_) rfl (by kernel_rfl) (by kernel_rfl) (by kernel_rfl) (fun _ _ _ h => h) (Or.inl ⟨by rfl, ?_⟩) (by assumption) ?_
    rotate_left
    · (intro w hSw; (try dsimp only at hSw); go_simp; try with_reducible rfl)
    try simp only [Act.put, List.setIfInBounds_toArray, List.set_cons_zero, List.set_cons_succ]
    refine wpAnyH_take (i := 8) (oi := { dst := some 84, op := Op.pick (Operand.tmp 79) (Operand.const (Value.bool true)) (Operand.tmp 83), type := 4, pos := "law.go:69", after := #[{ on := 3, ground := Ground.data }, { on := 7, ground := Ground.data }], guard := none }) (v := ?_) rfl (by kernel_rfl) (by kernel_rfl) (by kernel_rfl) (fun _ _ _ h => h) (Or.inl ⟨by rfl, ?_⟩) (by assumption) ?_
    rotate_left
    · (intro w hSw; (try dsimp only at hSw); go_simp; try with_reducible rfl)
    try simp only [Act.put, List.setIfInBounds_toArray, List.set_cons_zero, List.set_cons_succ]
    refine wpAnyH_done (by kernel_rfl) ?_ _
    refine NoPanic.normal ?_
    have DC := Lib.hid ((DB.out).below BC)
    have BCC := Lib.hid ((B10.out).trans (BC.mono (B10.out).size))
    have YC := Lib.hid ((BC.block b11 (Array.getElem?_eq_some_iff.1 YB.out).1).trans YB.out)
    clear y0 y1 y2 z0 z1 z2 Y0 Y1 Y2 Z0 Z1 Z2 hHeld hbC BC DB B10 YB ZB
    rcases hsg : supG l with _ | ⟨e3, a3, n3⟩
    · have hk : k2 = 12 := by have := HGV.out; unfold GV at this; rw [hsg] at this; cases this; rfl
      subst hk
      clear hsg
      go_wp2_with fail
      go_ret
      exact ⟨rfl, BCC.out⟩
    · have hk : e2 = e3 ∧ a2 = a3 ∧ n2 = n3 ∧ k2 = 0 := by have := HGV.out; unfold GV at this; rw [hsg] at this; cases this; exact ⟨rfl, rfl, rfl, rfl⟩
      obtain ⟨rfl, rfl, rfl, rfl⟩ := hk
      have hbk := supG_back hsg
      have HOK := Lib.hid hbk.1
      have HBK := Lib.hid hbk.2
      clear hsg hbk
      go_wp2_with (refine wpList_load_row _ rfl 26 (.tmp 11) rfl b11 26 #[.int .u64 e2, .int .i64 a2, .int .i64 n2] _ rfl (YC.out) size26 st26 ?_)
      refine (Tryz.sput wC e2 a2 n2 hge (by have := HOK.out; unfold okS at this; omega) (by have := HOK.out; unfold okS at this; omega)).mono ?_
      intro x wD hS
      obtain ⟨AD, cD, rfl, hdD, hb⟩ := hS.out
      have hLD : LS e2 (a2 : Int) (n2 : Int) = l := by unfold LS; rw [if_pos HOK.out, Int.toNat_natCast, Int.toNat_natCast]; exact HBK.out
      have hED : ES e2 (a2 : Int) (n2 : Int) = 0 := by unfold ES; rw [if_pos HOK.out]
      rw [hLD] at hdD ⊢
      rw [hED]
      have f1 := hdD.conv
      have f2 := ((DC.out).below hb).conv
      have BD := Lib.hid ((BCC.out).trans (hb.mono (BCC.out).size))
      obtain ⟨ql, hql⟩ : ∃ ql, l.length = ql := ⟨_, rfl⟩
      rw [hql] at f1 ⊢
      clear hS hdD hb hLD hED hql
      go_wp2_with fail
      go_ret
      exact ⟨rfl, BD.out⟩
  · have hE1 : E = 1 := by rw [← HEE.out]; unfold ES; rw [if_neg hok]
    subst hE1
    have DW5 := Lib.hid ((HD.out).below B5.out)
    clear hok V5 D5
    go_wp2_with fail
    refine (Tryz.sget w5 DW5.out (by omega)).mono ?_
    intro x w8 hG
    obtain ⟨rfl, hge, hb⟩ := hG.out
    obtain ⟨⟨e2, a2, n2, k2⟩, hgv⟩ : ∃ g, GV l = g := ⟨_, rfl⟩
    rw [hgv] at hge ⊢
    dsimp only at hge ⊢
    have HGV := Lib.hid hgv
    have D8 := Lib.hid ((DW5.out).below hb)
    have B8 := Lib.hid ((B5.out).trans (hb.mono (B5.out).size))
    clear hG hb hgv
    go_upto_region 14 with fail
    have Y8 := Lib.hid (heap_alloc_new w8 (.cells #[.int .u64 e2, .int .i64 a2, .int .i64 n2] 26))
    have BA0 := Lib.hid ((Below.refl w8.heap.size w8).alloc (Nat.le_refl _) (.cells #[.int .u64 e2, .int .i64 a2, .int .i64 n2] 26))
    obtain ⟨wA, hwA⟩ : ∃ wA, w8.alloc (.cells #[.int .u64 e2, .int .i64 a2, .int .i64 n2] 26) = wA := ⟨_, rfl⟩
    obtain ⟨b11, hb11⟩ : ∃ b11, w8.heap.size = b11 := ⟨_, rfl⟩
    rw [hwA] at Y8 BA0
    rw [hb11] at Y8
    have YA := Lib.hid (show wA.heap[b11]? = some (.cells #[.int .u64 e2, .int .i64 a2, .int .i64 n2] 26 (0, 0)) from Y8.out)
    have DA := Lib.hid ((D8.out).below BA0.out)
    have BA := Lib.hid ((B8.out).trans ((BA0.out).mono (B8.out).size))
    rw [hwA, hb11]
    clear hwA hb11 Y8 BA0 D8 B8
    go_wp2_with fail
    refine (Tryz.rsget wA DA.out (by omega)).mono ?_
    intro x w9 hG
    obtain ⟨rfl, hge2, hb⟩ := hG.out
    rw [HGV.out]
    dsimp only
    have Y9 := Lib.hid ((hb.block b11 (Array.getElem?_eq_some_iff.1 YA.out).1).trans YA.out)
    have D9 := Lib.hid ((DA.out).below hb)
    have B9 := Lib.hid ((BA.out).trans (hb.mono (BA.out).size))
    clear hG hb hge2 YA DA BA
    go_upto_region 15 with fail
    have ZB := Lib.hid (heap_alloc_new w9 (.cells #[.int .u64 e2, .int .i64 a2, .int .i64 n2] 36))
    have BB0 := Lib.hid ((Below.refl w9.heap.size w9).alloc (Nat.le_refl _) (.cells #[.int .u64 e2, .int .i64 a2, .int .i64 n2] 36))
    obtain ⟨wB, hwB⟩ : ∃ wB, w9.alloc (.cells #[.int .u64 e2, .int .i64 a2, .int .i64 n2] 36) = wB := ⟨_, rfl⟩
    obtain ⟨b13, hb13⟩ : ∃ b13, w9.heap.size = b13 := ⟨_, rfl⟩
    rw [hwB] at ZB BB0
    rw [hb13] at ZB
    have YB := Lib.hid (((BB0.out).block b11 (Array.getElem?_eq_some_iff.1 Y9.out).1).trans Y9.out)
    have DB := Lib.hid ((D9.out).below BB0.out)
    have B10 := Lib.hid ((B9.out).trans ((BB0.out).mono (B9.out).size))
    rw [hwB, hb13]
    clear hwB hb13 BB0 D9 B9 Y9
    have y0 : wB.cell? ⟨b11, 0, none⟩ = some (.int .u64 e2) := cell_of_row wB b11 0 _ 26 _ YB.out
    have y1 : wB.cell? ⟨b11, 1, none⟩ = some (.int .i64 a2) := cell_of_row wB b11 1 _ 26 _ YB.out
    have y2 : wB.cell? ⟨b11, 2, none⟩ = some (.int .i64 n2) := cell_of_row wB b11 2 _ 26 _ YB.out
    have z0 : wB.cell? ⟨b13, 0, none⟩ = some (.int .u64 e2) := cell_of_row wB b13 0 _ 36 _ ZB.out
    have z1 : wB.cell? ⟨b13, 1, none⟩ = some (.int .i64 a2) := cell_of_row wB b13 1 _ 36 _ ZB.out
    have z2 : wB.cell? ⟨b13, 2, none⟩ = some (.int .i64 n2) := cell_of_row wB b13 2 _ 36 _ ZB.out
    have Y0 := Lib.hid y0
    have Y1 := Lib.hid y1
    have Y2 := Lib.hid y2
    have Z0 := Lib.hid z0
    have Z1 := Lib.hid z1
    have Z2 := Lib.hid z2
    refine wp_region_noPanic ?_
    refine wp_region_held_drew (S := (fun W => W.cell? ⟨b11, 0, none⟩ = some (.int .u64 e2) ∧ W.cell? ⟨b11, 1, none⟩ = some (.int .i64 a2) ∧ W.cell? ⟨b11, 2, none⟩ = some (.int .i64 n2) ∧ W.cell? ⟨b13, 0, none⟩ = some (.int .u64 e2) ∧ W.cell? ⟨b13, 1, none⟩ = some (.int .i64 a2) ∧ W.cell? ⟨b13, 2, none⟩ = some (.int .i64 n2))) (by kernel_rfl) ?_ (fun hHeld => ?_)
    · exact ⟨y0, y1, y2, z0, z1, z2⟩
    refine wpAnyH_take (i := 0) (oi := { dst := some 76, op := Op.move (Operand.tmp 12), type := 29, pos := "law.go:69", after := #[], guard := none }) (v := ?_) rfl (by kernel_rfl) (by kernel_rfl) (by kernel_rfl) (fun _ _ _ h => h) (Or.inl ⟨by rfl, ?_⟩) (by assumption) ?_
    rotate_left
    · (intro w hSw; (try dsimp only at hSw); go_simp; try with_reducible rfl)
    try simp only [Act.put, List.setIfInBounds_toArray, List.set_cons_zero, List.set_cons_succ]
    refine wpAnyH_take (i := 1) (oi := { dst := some 77, op := Op.move (Operand.tmp 14), type := 3, pos := "law.go:69", after := #[], guard := none }) (v := ?_) rfl (by kernel_rfl) (by kernel_rfl) (by kernel_rfl) (fun _ _ _ h => h) (Or.inl ⟨by rfl, ?_⟩) (by assumption) ?_
    rotate_left
    · (intro w hSw; (try dsimp only at hSw); go_simp; try with_reducible rfl)
    try simp only [Act.put, List.setIfInBounds_toArray, List.set_cons_zero, List.set_cons_succ]
    refine wpAnyH_take (i := 2) (oi := { dst := some 78, op := Op.binOp BinOp.neq 3 (Operand.tmp 76) (Operand.tmp 77) 3, type := 4, pos := "law.go:69", after := #[{ on := 0, ground := Ground.data }, { on := 1, ground := Ground.data }], guard := none }) (v := ?_) rfl (by kernel_rfl) (by kernel_rfl) (by kernel_rfl) (fun _ _ _ h => h) (Or.inl ⟨by rfl, ?_⟩) (by assumption) ?_
    rotate_left
    · (intro w hSw; (try dsimp only at hSw); go_simp; try with_reducible rfl)
    try simp only [Act.put, List.setIfInBounds_toArray, List.set_cons_zero, List.set_cons_succ]
    refine wpAnyH_take (i := 3) (oi := { dst := some 79, op := Op.move (Operand.tmp 78), type := 4, pos := "law.go:69", after := #[{ on := 2, ground := Ground.data }], guard := none }) (v := ?_) rfl (by kernel_rfl) (by kernel_rfl) (by kernel_rfl) (fun _ _ _ h => h) (Or.inl ⟨by rfl, ?_⟩) (by assumption) ?_
    rotate_left
    · (intro w hSw; (try dsimp only at hSw); go_simp; try with_reducible rfl)
    try simp only [Act.put, List.setIfInBounds_toArray, List.set_cons_zero, List.set_cons_succ]
    refine wpAnyH_take (i := 4) (oi := { dst := some 80, op := Op.load 26 (Operand.tmp 11), type := 26, pos := "law.go:69", after := #[{ on := 3, ground := Ground.guard }], guard := some (3, false) }) (v := ?_) rfl (by kernel_rfl) (by kernel_rfl) (by kernel_rfl) (fun _ _ _ h => h) (Or.inl ⟨by rfl, ?_⟩) (by assumption) ?_
    rotate_left
    · (intro w hSw; (try dsimp only at hSw); go_simp; try with_reducible rfl)
    try simp only [Act.put, List.setIfInBounds_toArray, List.set_cons_zero, List.set_cons_succ]
    refine wpAnyH_take (i := 6) (oi := { dst := some 82, op := Op.load 36 (Operand.tmp 13), type := 36, pos := "law.go:69", after := #[{ on := 3, ground := Ground.guard }], guard := some (3, false) }) (v := ?_) rfl (by kernel_rfl) (by kernel_rfl) (by kernel_rfl) (fun _ _ _ h => h) (Or.inl ⟨by rfl, ?_⟩) (by assumption) ?_
    rotate_left
    · (intro w hSw; (try dsimp only at hSw); go_simp; try with_reducible rfl)
    try simp only [Act.put, List.setIfInBounds_toArray, List.set_cons_zero, List.set_cons_succ]
    refine wpAnyH_ready (rs := [5]) (by kernel_rfl) (by simp) ?_
    refine AllReadyH.cons (o := { dst := some 81, op := Op.call { callee := Callee.value (Operand.func 7), args := #[Operand.tmp 80], argTypes := #[26] }, type := 36, pos := "law.go:69", after := #[{ on := 4, ground := Ground.data }, { on := 3, ground := Ground.chain }, { on := 3, ground := Ground.guard }], guard := some (3, false) }) rfl (fun K hK => ?_) AllReadyH.nil
    go_simp
    refine (Tryz.sOf e2 a2 n2 _).mono ?_
    rintro xC wC ⟨rfl, hbC⟩
    have BC : Below wB.heap.size wB wC := ((Below.refl _ wB).drew).trans hbC
    refine hK.out _ _ ?_ (fun hHeld => ?_)
    · exact ⟨cellW Y0.out BC, cellW Y1.out BC, cellW Y2.out BC, cellW Z0.out BC, cellW Z1.out BC, cellW Z2.out BC⟩
    clear hK K
    try simp only [Act.put, List.setIfInBounds_toArray, List.set_cons_zero, List.set_cons_succ]
    refine wpAnyH_take (i := 7) (oi := { dst := some 83, op := Op.binOp BinOp.neq 36 (Operand.tmp 81) (Operand.tmp 82) 36, type := 4, pos := "law.go:69", after := #[{ on := 5, ground := Ground.data }, { on := 6, ground := Ground.data }, { on := 3, ground := Ground.guard }], guard := some (3, false) }) (v := ?_) rfl (by kernel_rfl) (by kernel_rfl) (by kernel_rfl) (fun _ _ _ h => h) (Or.inl ⟨by rfl, ?_⟩) (by assumption) ?_
    rotate_left
    · (intro w hSw; (try dsimp only at hSw); go_simp; try with_reducible rfl)
    try simp only [Act.put, List.setIfInBounds_toArray, List.set_cons_zero, List.set_cons_succ]
    refine wpAnyH_take (i := 8) (oi := { dst := some 84, op := Op.pick (Operand.tmp 79) (Operand.const (Value.bool true)) (Operand.tmp 83), type := 4, pos := "law.go:69", after := #[{ on := 3, ground := Ground.data }, { on := 7, ground := Ground.data }], guard := none }) (v := ?_) rfl (by kernel_rfl) (by kernel_rfl) (by kernel_rfl) (fun _ _ _ h => h) (Or.inl ⟨by rfl, ?_⟩) (by assumption) ?_
    rotate_left
    · (intro w hSw; (try dsimp only at hSw); go_simp; try with_reducible rfl)
    try simp only [Act.put, List.setIfInBounds_toArray, List.set_cons_zero, List.set_cons_succ]
    refine wpAnyH_done (by kernel_rfl) ?_ _
    refine NoPanic.normal ?_
    have DC := Lib.hid ((DB.out).below BC)
    have BCC := Lib.hid ((B10.out).trans (BC.mono (B10.out).size))
    have YC := Lib.hid ((BC.block b11 (Array.getElem?_eq_some_iff.1 YB.out).1).trans YB.out)
    clear y0 y1 y2 z0 z1 z2 Y0 Y1 Y2 Z0 Z1 Z2 hHeld hbC BC DB B10 YB ZB
    rcases hsg : supG l with _ | ⟨e3, a3, n3⟩
    · have hk : k2 = 12 := by have := HGV.out; unfold GV at this; rw [hsg] at this; cases this; rfl
      subst hk
      clear hsg
      go_wp2_with fail
      go_ret
      exact ⟨rfl, BCC.out⟩
    · have hk : e2 = e3 ∧ a2 = a3 ∧ n2 = n3 ∧ k2 = 0 := by have := HGV.out; unfold GV at this; rw [hsg] at this; cases this; exact ⟨rfl, rfl, rfl, rfl⟩
      obtain ⟨rfl, rfl, rfl, rfl⟩ := hk
      have hbk := supG_back hsg
      have HOK := Lib.hid hbk.1
      have HBK := Lib.hid hbk.2
      clear hsg hbk
      go_wp2_with (refine wpList_load_row _ rfl 26 (.tmp 11) rfl b11 26 #[.int .u64 e2, .int .i64 a2, .int .i64 n2] _ rfl (YC.out) size26 st26 ?_)
      refine (Tryz.sput wC e2 a2 n2 hge (by have := HOK.out; unfold okS at this; omega) (by have := HOK.out; unfold okS at this; omega)).mono ?_
      intro x wD hS
      obtain ⟨AD, cD, rfl, hdD, hb⟩ := hS.out
      have hLD : LS e2 (a2 : Int) (n2 : Int) = l := by unfold LS; rw [if_pos HOK.out, Int.toNat_natCast, Int.toNat_natCast]; exact HBK.out
      have hED : ES e2 (a2 : Int) (n2 : Int) = 0 := by unfold ES; rw [if_pos HOK.out]
      rw [hLD] at hdD ⊢
      rw [hED]
      have f1 := hdD.conv
      have f2 := ((DC.out).below hb).conv
      have BD := Lib.hid ((BCC.out).trans (hb.mono (BCC.out).size))
      obtain ⟨ql, hql⟩ : ∃ ql, l.length = ql := ⟨_, rfl⟩
      rw [hql] at f1 ⊢
      clear hS hdD hb hLD hED hql
      go_wp2_with fail
      go_ret
      exact ⟨rfl, BD.out⟩
end Go.Proofs
end

section
namespace Go.Proofs
open Go.RowKit Go.FM
set_option maxRecDepth 100000
def IsRow (k : IntKind) (w : World) (a : Option Addr) (len cap : Nat) (zs : List Int) : Prop :=
  (a = none ∧ len = 0 ∧ cap = 0 ∧ zs = []) ∨
  ∃ x, a = some x ∧ len ≤ cap ∧ cap ≤ maxLen ∧ zs.length = cap ∧ (∀ i, i < zs.length → w.cell? (x.add i) = some (.int k (zs.getD i 0))) ∧ ∀ n ∈ zs, (Lit.int k n).wf = true
theorem wf_i64 {n : Int} (h : (Lit.int .i64 n).wf = true) : -9223372036854775808 ≤ n ∧ n ≤ 9223372036854775807 := by
  simp [Lit.wf, IntKind.min, IntKind.max, IntKind.bits, IntKind.signed] at h
  omega
theorem wf_u8n {n : Int} (h : (Lit.int .u8 n).wf = true) : 0 ≤ n ∧ n < 256 := by
  simp [Lit.wf, IntKind.min, IntKind.max, IntKind.bits, IntKind.signed] at h
  omega
theorem IsRow.di {w : World} {a : Option Addr} {len cap : Nat} {zs : List Int} (h : IsRow .u8 w a len cap zs) : DI w a len cap ((zs.take len).map (fun z => UInt8.ofNat z.toNat)) := by
  rcases h with ⟨rfl, rfl, rfl, rfl⟩ | ⟨x, rfl, p, q, hl, hc, hw⟩
  · exact ⟨rfl, Nat.le_refl _, Nat.zero_le _, fun j y hj => by simp at hj⟩
  · refine ⟨by rw [List.length_map, List.length_take]; omega, p, q, fun j y hj => ⟨x, rfl, ?_⟩⟩
    rw [List.getElem?_map] at hj
    obtain ⟨z, hz, rfl⟩ := Option.map_eq_some_iff.1 hj
    rw [List.getElem?_take] at hz
    split at hz
    · have hjz : j < zs.length := by omega
      have e := hc j hjz
      rw [List.getD_eq_getElem?_getD, hz] at e
      have hm := wf_u8n (hw z (List.mem_of_getElem? hz))
      rw [e]
      unfold u8v
      simp only [Option.getD_some]
      congr 2
      have : (UInt8.ofNat z.toNat).toNat = z.toNat := by
        rw [UInt8.toNat_ofNat']; omega
      rw [this]; omega
    · cases hz
theorem wf_u64n {n : Int} (h : (Lit.int .u64 n).wf = true) : 0 ≤ n ∧ n < 18446744073709551616 := by
  simp [Lit.wf, IntKind.min, IntKind.max, IntKind.bits, IntKind.signed] at h
  omega
theorem Tryz.any_all (w : World) (e a n : Int) (A : Option Addr) (m c : Nat) (zs : List Int) (u0 : (Lit.int .u64 e).wf = true) (u1 : (Lit.int .i64 a).wf = true) (u2 : (Lit.int .i64 n).wf = true) (w1 : IsRow .u8 w A m c zs) : Calls Tryz.prog 3 #[.agg #[.int .u64 e, .int .i64 a, .int .i64 n], .slice A m c] w (YesV w) := by
  by_cases h : 300 < m
  · exact Tryz.any_cut w e a n A m c h
  · have he := wf_u64n u0
    obtain ⟨e', rfl⟩ : ∃ k : Nat, e = (k : Int) := ⟨e.toNat, by omega⟩
    exact Tryz.any w e' a n w1.di (by omega) (by omega) (wf_i64 u1) (wf_i64 u2)
end Go.Proofs
end
