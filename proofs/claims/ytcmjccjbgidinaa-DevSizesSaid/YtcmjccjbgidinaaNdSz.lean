/-
  Texts of a proof over the translated program: NdSz.
-/
import Derived.Test.YtcmjccjbgidinaaNdS
import Derived.Test.YtcmjccjbgidinaaNdK
import Derived.Deep.RegionHeld3
set_option linter.unusedVariables false
set_option linter.unnecessarySimpa false
set_option linter.unusedSimpArgs false
namespace Go.Proofs
open Go.RowKit
set_option maxRecDepth 100000
/-- The law answers true and leaves what was there. -/
def Yes (w : World) (e : Ending) (w' : World) : Prop := e = .returned (.bool true) ∧ Below w.heap.size w w'
theorem Upd.below {w w' : World} {F F' : Nat → Prop} (h : Upd w w' F F') {B : Nat} (hF : ∀ b, F b → B ≤ b) (hB : B ≤ w.heap.size) : Below B w w' :=
  ⟨h.os, h.tape, h.output, h.size, fun b hb => h.block b (by omega) (fun q => by have := hF b q; omega)⟩
theorem Upd.low {w w' : World} {F F' : Nat → Prop} (h : Upd w w' F F') {B : Nat} (hF : ∀ b, F b → B ≤ b) (hB : B ≤ w.heap.size) : ∀ b, F' b → B ≤ b := fun b hb => by
  rcases h.grow b hb with q | q
  · exact hF b q
  · omega
theorem Try.sizes_few (a0 : Int) (a1 : Int) (w : World) (h0 : 0 ≤ a0) (h1 : a0 ≤ 65535) (h2 : a0 % 1100 < 4 ∨ 1024 < a0 % 1100) : Calls Try.prog 7 #[.int .u16 a0, .int .i64 a1] w (Yes w) := by
  have hm0 : 0 ≤ a0 % 1100 := by omega
  have hm1 : a0 % 1100 < 1100 := by omega
  go_enter Try.func7, Try.ntmps7
  go_wp2_with fail
  refine (Try.known10 _).mono ?_
  rintro e w1 ⟨rfl, hb1⟩
  have HB := Lib.hid hb1
  have H2 := Lib.hid h2
  clear hb1 h2
  go_wp2_with fail
  refine (Try.new_bad _ H2.out _).mono ?_
  rintro e w2 ⟨rfl, rfl⟩
  rcases H2.out with h | h
  · have hd : decide (a0 % 1100 < 4) = true := by simpa using h
    go_wp2
    go_ret
    exact ⟨rfl, HB.out⟩
  · have hd : decide (a0 % 1100 < 4) = false := by simp; omega
    go_wp2
    go_ret
    exact ⟨rfl, HB.out⟩
theorem Try.sizes_out (a0 : Int) (a1 : Int) (w : World) (k : Nat) (h0 : 0 ≤ a0) (h1 : a0 ≤ 65535) (hk : a0 % 1100 = k) (hk4 : 4 ≤ k) (hk1 : k ≤ 1024) (ha : a1 < 0 ∨ (k : Int) ≤ a1) : Calls Try.prog 7 #[.int .u16 a0, .int .i64 a1] w (Yes w) := by
  have HA := Lib.hid ha
  clear ha
  have hn4 : decide (k < 4) = false := by simp; omega
  have hn5 : decide (1024 < k) = false := by simp; omega
  have hn6 : ¬ k < 4 := by omega
  have hn7 : ¬ 1024 < k := by omega
  go_enter Try.func7, Try.ntmps7
  go_wp2_with fail
  refine (Try.known10 _).mono ?_
  rintro e w1 ⟨rfl, hb1⟩
  have HB := Lib.hid hb1
  clear hb1
  go_wp2_with fail
  refine (Try.new_good k hk4 hk1 _).mono ?_
  rintro e w2 ⟨v, rfl, d, F, rfl, ⟨lb, cl, tb, ct, vw, ds, hd⟩, hb2, hF⟩
  have hcw : vw = .slice none 0 0 ∨ True := .inr trivial
  obtain ⟨A, wc, rfl⟩ := own_slice hd.ow
  have c1 := hd.c1
  have c2 := hd.c2
  have HD := Lib.hid hd
  have HB2 := Lib.hid hb2
  have hkk : 64 * k ≤ 65536 := by omega
  have hq : 64 * k / 64 = k := by omega
  clear hd hb2 hF hcw
  go_wp2_with (first
    | (go_at_call 28; refine (Try.blocks _ _ _ _ hkk _ c1).mono ?_; rintro e w' ⟨rfl, rfl⟩; rw [hq])
    | (go_at_call 27; refine (Try.waits _ _ _ _ _ c2).mono ?_; rintro e w' ⟨rfl, rfl⟩)
    | (go_at_call 21; refine (Try.read_bad HD.out _ HA.out).mono ?_; rintro e w' ⟨rfl, rfl⟩))
  refine (Calls.mono (show Calls Try.prog 20 #[.int .u8 1] _ _ from Try.full 1 _)) ?_
  rintro e w3 ⟨fb, fc, rfl, hf1, hf2, hf3, hf4⟩
  have ch3 : Chg w2 w3 (fun _ => False) := Chg.below hf4 _
  have hd3 := (HD.out).keep ch3 (fun _ _ => id)
  have HD3 := Lib.hid hd3
  have d1 := hd3.c1
  have d2 := hd3.c2
  have HF4 := Lib.hid hf4
  clear hd3 hf4 hf3 hf1 hf2 c1 c2
  have HY : Hid (Below w.heap.size w w3) := Lib.hid ((HB.out).trans (((HB2.out).trans ((HF4.out).mono (HB2.out).size)).mono (HB.out).size))
  rcases HA.out with h | h
  · have hx : decide (a1 < 0) = true := by simpa using h
    go_wp2_with (first
      | (go_at_call 13; refine (Try.write_bad HD3.out _ _ _ _ HA.out).mono ?_; rintro e w' ⟨rfl, rfl⟩)
      | (go_at_call 27; refine (Try.waits _ _ _ _ _ d2).mono ?_; rintro e w' ⟨rfl, rfl⟩))
    go_ret
    exact ⟨rfl, HY.out⟩
  · have hx : decide (a1 < 0) = false := by simp; omega
    have hx2 : decide ((k : Int) ≤ a1) = true := by simpa using h
    go_wp2_with (first
      | (go_at_call 13; refine (Try.write_bad HD3.out _ _ _ _ HA.out).mono ?_; rintro e w' ⟨rfl, rfl⟩)
      | (go_at_call 27; refine (Try.waits _ _ _ _ _ d2).mono ?_; rintro e w' ⟨rfl, rfl⟩))
    go_ret
    exact ⟨rfl, HY.out⟩
set_option maxHeartbeats 2000000 in
theorem Try.sizes_in (a0 : Int) (i : Nat) (w : World) (k : Nat) (h0 : 0 ≤ a0) (h1 : a0 ≤ 65535) (hk : a0 % 1100 = k) (hk4 : 4 ≤ k) (hk1 : k ≤ 1024) (hi : i < k) : Calls Try.prog 7 #[.int .u16 a0, .int .i64 i] w (Yes w) := by
  have hn4 : decide (k < 4) = false := by simp; omega
  have hn5 : decide (1024 < k) = false := by simp; omega
  have hn6 : ¬ k < 4 := by omega
  have hn7 : ¬ 1024 < k := by omega
  go_enter Try.func7, Try.ntmps7
  go_wp2_with fail
  refine (Try.known10 _).mono ?_
  rintro e w1 ⟨rfl, hb1⟩
  have HB := Lib.hid hb1
  clear hb1
  go_wp2_with fail
  refine (Try.new_good k hk4 hk1 _).mono ?_
  rintro e w2 ⟨v, rfl, d, F, rfl, ⟨lb, cl, tb, ct, vw, ds, hd⟩, hb2, hF⟩
  obtain ⟨A, wc, rfl⟩ := own_slice hd.ow
  have c1 := hd.c1
  have c2 := hd.c2
  have HD := Lib.hid hd
  have HB2 := Lib.hid hb2
  have HF := Lib.hid hF
  have hkk : 64 * k ≤ 65536 := by omega
  have hq : 64 * k / 64 = k := by omega
  have hT0 : (List.replicate (64 * k) (0 : UInt8)).length = 64 * k := by simp
  clear hd hb2 hF
  go_wp2_with (first
    | (go_at_call 28; refine (Try.blocks _ _ _ _ hkk _ c1).mono ?_; rintro e w' ⟨rfl, rfl⟩; rw [hq])
    | (go_at_call 27; refine (Try.waits _ _ _ _ _ c2).mono ?_; rintro e w' ⟨rfl, rfl⟩))
  refine (Try.read_good HD.out i hi).mono ?_
  rintro e w3 ⟨b3, c3, rfl, r1, r2, r3, r4⟩
  rw [win_rep 64 i k 0 hi] at r3
  have HD3 := Lib.hid ((HD.out).keep (Chg.below r4 (fun _ => False)) (fun _ _ => id))
  have R3 := Lib.hid r3
  have HB3 : Hid (Below w1.heap.size w1 w3) := Lib.hid ((HB2.out).trans (r4.mono (HB2.out).size))
  have hn3 : ¬ F b3 := fun q => by have := (HD.out).lt b3 q; omega
  clear r3 r4 r1 c1 c2
  go_wp2_with fail
  refine (Calls.mono (show Calls Try.prog 20 #[.int .u8 1] _ _ from Try.full 1 _)) ?_
  rintro e w4 ⟨fb, fc, rfl, f1, f2, f3, f4⟩
  have ch4 : Chg w3 w4 (fun _ => False) := Chg.below f4 _
  have HD4 := Lib.hid ((HD3.out).keep ch4 (fun _ _ => id))
  have HB4 : Hid (Below w1.heap.size w1 w4) := Lib.hid ((HB3.out).trans (f4.mono (HB3.out).size))
  have R4 := Lib.hid ((R3.out).congr (ch4.block b3 (R3.out).lt id))
  have hfF : ¬ F fb := fun q => by have := (HD3.out).lt fb q; omega
  have hFa := f3.all
  clear f4 ch4
  go_wp2_with fail
  refine (Try.dwrite w4 F d k lb cl tb ct _ ds _ _ _ HD4.out i hi ⟨fb, 0, none⟩ _ (List.replicate 64 1) (by simp) hFa hfF (by simp)).mono ?_
  rintro e w5 ⟨rfl, F5, ⟨lb5, cl5, tb5, ct5, vw5, ds5, hd5⟩, u5⟩
  obtain ⟨A5, wc5, rfl⟩ := own_slice hd5.ow
  have R5 := Lib.hid ((R4.out).congr (u5.block b3 (R4.out).lt hn3))
  have HB5 : Hid (Below w1.heap.size w1 w5) := Lib.hid ((HB4.out).trans (u5.below (HF.out) (HB4.out).size))
  have HD5 := Lib.hid hd5
  have hx : decide ((i : Int) < 0) = false := by simp
  have hx2 : decide ((k : Int) ≤ i) = false := by simp; omega
  clear hd5 u5 hFa f3 f1
  go_wp2_with fail
  refine (Try.read_good HD5.out i hi).mono ?_
  rintro e w6 ⟨b6, c6, rfl, r1, r2, r3, r4⟩
  rw [win_same _ _ i k hT0 hi (by simp)] at r3
  have HD6 := Lib.hid ((HD5.out).keep (Chg.below r4 (fun _ => False)) (fun _ _ => id))
  have R6 := Lib.hid r3
  have S6 := Lib.hid ((R5.out).congr (r4.block b3 (R5.out).lt))
  have HB6 : Hid (Below w1.heap.size w1 w6) := Lib.hid ((HB5.out).trans (r4.mono (HB5.out).size))
  clear r3 r4 r1
  go_wp2
  have dl6 := (HD6.out).lt d (HD6.out).fd
  have z6 : w6.drew.cell? ⟨d, 2, none⟩ = some (.slice A5 ([] ++ [(i, List.replicate 64 (1 : UInt8))]).length wc5) := (HD6.out).c2
  have x3 : (convert 31 9 (.slice (some ⟨b3, 0, none⟩) 64 c3)).run Try.prog w6.drew = .ok (.string (strOf (List.replicate 64 0))) w6.drew := (show BY w6.drew b3 _ c3 from S6.out).str 64 (by simp) c3
  have x6 : (convert 31 9 (.slice (some ⟨b6, 0, none⟩) 64 c6)).run Try.prog w6.drew = .ok (.string (strOf (List.replicate 64 1))) w6.drew := (show BY w6.drew b6 _ c6 from R6.out).str 64 (by simp) c6
  refine wp_region_noPanic ?_
  refine wp_region_held_drew (S := (fun W => W.cell? ⟨d, 2, none⟩ = some (.slice A5 ([] ++ [(i, List.replicate 64 (1 : UInt8))]).length wc5) ∧ (convert 31 9 (.slice (some ⟨b3, 0, none⟩) 64 c3)).run Try.prog W = .ok (.string (strOf (List.replicate 64 0))) W ∧ (convert 31 9 (.slice (some ⟨b6, 0, none⟩) 64 c6)).run Try.prog W = .ok (.string (strOf (List.replicate 64 1))) W)) (by kernel_rfl) ?_ (fun hHeld => ?_)
  · exact ⟨z6, x3, x6⟩
  refine wpAnyH_take (i := 0) (oi := { dst := some 91, op := Op.move (Operand.tmp 9), type := 25, pos := "deep.go:27", after := #[], guard := none }) (v := ?_) rfl (by kernel_rfl) (by kernel_rfl) (by kernel_rfl) (fun _ _ _ h => h) (Or.inl ⟨by rfl, ?_⟩) (by assumption) ?_
  rotate_left
  · (intro w hSw; (try dsimp only at hSw); go_simp; try with_reducible rfl)
  try simp only [Act.put, List.setIfInBounds_toArray, List.set_cons_zero, List.set_cons_succ]
  refine wpAnyH_take (i := 1) (oi := { dst := some 92, op := Op.move (Operand.tmp 10), type := 25, pos := "deep.go:27", after := #[], guard := none }) (v := ?_) rfl (by kernel_rfl) (by kernel_rfl) (by kernel_rfl) (fun _ _ _ h => h) (Or.inl ⟨by rfl, ?_⟩) (by assumption) ?_
  rotate_left
  · (intro w hSw; (try dsimp only at hSw); go_simp; try with_reducible rfl)
  try simp only [Act.put, List.setIfInBounds_toArray, List.set_cons_zero, List.set_cons_succ]
  refine wpAnyH_take (i := 2) (oi := { dst := some 93, op := Op.binOp BinOp.add 3 (Operand.tmp 91) (Operand.tmp 92) 3, type := 3, pos := "deep.go:27", after := #[{ on := 0, ground := Ground.data }, { on := 1, ground := Ground.data }], guard := none }) (v := ?_) rfl (by kernel_rfl) (by kernel_rfl) (by kernel_rfl) (fun _ _ _ h => h) (Or.inl ⟨by rfl, ?_⟩) (by assumption) ?_
  rotate_left
  · (intro w hSw; (try dsimp only at hSw); go_simp; try with_reducible rfl)
  try simp only [Act.put, List.setIfInBounds_toArray, List.set_cons_zero, List.set_cons_succ]
  refine wpAnyH_take (i := 3) (oi := { dst := some 94, op := Op.move (Operand.tmp 12), type := 25, pos := "deep.go:27", after := #[], guard := none }) (v := ?_) rfl (by kernel_rfl) (by kernel_rfl) (by kernel_rfl) (fun _ _ _ h => h) (Or.inl ⟨by rfl, ?_⟩) (by assumption) ?_
  rotate_left
  · (intro w hSw; (try dsimp only at hSw); go_simp; try with_reducible rfl)
  try simp only [Act.put, List.setIfInBounds_toArray, List.set_cons_zero, List.set_cons_succ]
  refine wpAnyH_take (i := 4) (oi := { dst := some 95, op := Op.binOp BinOp.add 3 (Operand.tmp 93) (Operand.tmp 94) 3, type := 3, pos := "deep.go:27", after := #[{ on := 2, ground := Ground.data }, { on := 3, ground := Ground.data }], guard := none }) (v := ?_) rfl (by kernel_rfl) (by kernel_rfl) (by kernel_rfl) (fun _ _ _ h => h) (Or.inl ⟨by rfl, ?_⟩) (by assumption) ?_
  rotate_left
  · (intro w hSw; (try dsimp only at hSw); go_simp; try with_reducible rfl)
  try simp only [Act.put, List.setIfInBounds_toArray, List.set_cons_zero, List.set_cons_succ]
  refine wpAnyH_take (i := 5) (oi := { dst := some 96, op := Op.binOp BinOp.eql 3 (Operand.tmp 95) (Operand.const (Value.int IntKind.i64 0)) 3, type := 4, pos := "deep.go:27", after := #[{ on := 4, ground := Ground.data }], guard := none }) (v := ?_) rfl (by kernel_rfl) (by kernel_rfl) (by kernel_rfl) (fun _ _ _ h => h) (Or.inl ⟨by rfl, ?_⟩) (by assumption) ?_
  rotate_left
  · (intro w hSw; (try dsimp only at hSw); go_simp; try with_reducible rfl)
  try simp only [Act.put, List.setIfInBounds_toArray, List.set_cons_zero, List.set_cons_succ]
  refine wpAnyH_take (i := 6) (oi := { dst := some 97, op := Op.move (Operand.tmp 96), type := 4, pos := "deep.go:27", after := #[{ on := 5, ground := Ground.data }], guard := none }) (v := ?_) rfl (by kernel_rfl) (by kernel_rfl) (by kernel_rfl) (fun _ _ _ h => h) (Or.inl ⟨by rfl, ?_⟩) (by assumption) ?_
  rotate_left
  · (intro w hSw; (try dsimp only at hSw); go_simp; try with_reducible rfl)
  try simp only [Act.put, List.setIfInBounds_toArray, List.set_cons_zero, List.set_cons_succ]
  refine wpAnyH_take (i := 7) (oi := { dst := some 98, op := Op.move (Operand.tmp 8), type := 31, pos := "deep.go:27", after := #[{ on := 6, ground := Ground.guard }], guard := some (6, true) }) (v := ?_) rfl (by kernel_rfl) (by kernel_rfl) (by kernel_rfl) (fun _ _ _ h => h) (Or.inl ⟨by rfl, ?_⟩) (by assumption) ?_
  rotate_left
  · (intro w hSw; (try dsimp only at hSw); go_simp; try with_reducible rfl)
  try simp only [Act.put, List.setIfInBounds_toArray, List.set_cons_zero, List.set_cons_succ]
  refine wpAnyH_take (i := 8) (oi := { dst := some 99, op := Op.convert 31 9 (Operand.tmp 98), type := 9, pos := "deep.go:27", after := #[{ on := 7, ground := Ground.data }, { on := 6, ground := Ground.guard }], guard := some (6, true) }) (v := ?_) rfl (by kernel_rfl) (by kernel_rfl) (by kernel_rfl) (fun _ _ _ h => h) (Or.inl ⟨by rfl, ?_⟩) (by assumption) ?_
  rotate_left
  · (intro w hSw; (try dsimp only at hSw); go_simp; try with_reducible rfl)
  try simp only [Act.put, List.setIfInBounds_toArray, List.set_cons_zero, List.set_cons_succ]
  refine wpAnyH_ready (rs := [9]) (by kernel_rfl) (by simp) ?_
  refine AllReadyH.cons (o := { dst := some 100, op := Op.call { callee := Callee.value (Operand.func 20), args := #[Operand.const (Value.int IntKind.u8 0)], argTypes := #[5] }, type := 31, pos := "deep.go:27", after := #[{ on := 6, ground := Ground.chain }, { on := 6, ground := Ground.guard }], guard := some (6, true) }) rfl (fun K hK => ?_) AllReadyH.nil
  refine step_want (by rfl) ?_
  go_simp
  refine (Calls.mono (show Calls Try.prog 20 #[.int .u8 0] _ _ from Try.full 0 _) ?_)
  rintro e w7 ⟨b7, c7, rfl, g1, g2, g3, g4⟩
  dsimp only
  have k7 : Chg w6 w7 (fun _ => False) := (Chg.below g4 _).ofDrew
  have B7 : Hid (Below w1.heap.size w1 w7) := Lib.hid ((HB6.out).trans ((show Below w6.heap.size w6 w7 from ⟨k7.os, k7.tape, k7.output, k7.size, fun b hb => k7.block b hb id⟩).mono (HB6.out).size))
  have x37 := ((S6.out).congr (k7.block b3 (S6.out).lt id)).str 64 (by simp) c3
  have x67 := ((R6.out).congr (k7.block b6 (R6.out).lt id)).str 64 (by simp) c6
  have x7 := g3.str 64 (by simp) c7
  have z7 : w7.cell? ⟨d, 2, none⟩ = some (.slice A5 ([] ++ [(i, List.replicate 64 (1 : UInt8))]).length wc5) := (World.cell?_of_block (w := w6) (a := ⟨d, 2, none⟩) (k7.block d dl6 id)).trans (HD6.out).c2
  clear g1 g2 g3 g4
  refine hK.out _ _ ?_ (fun hHeld => ?_)
  · exact ⟨z7, x37, x67⟩
  clear hK K
  try simp only [Act.put, List.setIfInBounds_toArray, List.set_cons_zero, List.set_cons_succ]
  refine wpAnyH_ready (rs := [10]) (by kernel_rfl) (by simp) ?_
  refine AllReadyH.cons (o := { dst := some 101, op := Op.convert 31 9 (Operand.tmp 100), type := 9, pos := "deep.go:27", after := #[{ on := 9, ground := Ground.data }, { on := 6, ground := Ground.guard }], guard := some (6, true) }) rfl (fun K hK => ?_) AllReadyH.nil
  go_simp
  refine hK.out _ _ ?_ (fun hHeld => ?_)
  · exact ⟨z7, x37, x67⟩
  clear hK K
  try simp only [Act.put, List.setIfInBounds_toArray, List.set_cons_zero, List.set_cons_succ]
  refine wpAnyH_take (i := 11) (oi := { dst := some 102, op := Op.binOp BinOp.eql 9 (Operand.tmp 99) (Operand.tmp 101) 9, type := 4, pos := "deep.go:27", after := #[{ on := 8, ground := Ground.data }, { on := 10, ground := Ground.data }, { on := 6, ground := Ground.guard }], guard := some (6, true) }) (v := ?_) rfl (by kernel_rfl) (by kernel_rfl) (by kernel_rfl) (fun _ _ _ h => h) (Or.inl ⟨by rfl, ?_⟩) (by assumption) ?_
  rotate_left
  · (intro w hSw; (try dsimp only at hSw); go_simp; try with_reducible rfl)
  try simp only [Act.put, List.setIfInBounds_toArray, List.set_cons_zero, List.set_cons_succ]
  refine wpAnyH_take (i := 12) (oi := { dst := some 103, op := Op.pick (Operand.tmp 97) (Operand.tmp 102) (Operand.const (Value.bool false)), type := 4, pos := "deep.go:27", after := #[{ on := 6, ground := Ground.data }, { on := 11, ground := Ground.data }], guard := none }) (v := ?_) rfl (by kernel_rfl) (by kernel_rfl) (by kernel_rfl) (fun _ _ _ h => h) (Or.inl ⟨by rfl, ?_⟩) (by assumption) ?_
  rotate_left
  · (intro w hSw; (try dsimp only at hSw); go_simp; try with_reducible rfl)
  try simp only [Act.put, List.setIfInBounds_toArray, List.set_cons_zero, List.set_cons_succ]
  refine wpAnyH_take (i := 13) (oi := { dst := some 104, op := Op.move (Operand.tmp 103), type := 4, pos := "deep.go:27", after := #[{ on := 12, ground := Ground.data }, { on := 9, ground := Ground.chain }], guard := none }) (v := ?_) rfl (by kernel_rfl) (by kernel_rfl) (by kernel_rfl) (fun _ _ _ h => h) (Or.inl ⟨by rfl, ?_⟩) (by assumption) ?_
  rotate_left
  · (intro w hSw; (try dsimp only at hSw); go_simp; try with_reducible rfl)
  try simp only [Act.put, List.setIfInBounds_toArray, List.set_cons_zero, List.set_cons_succ]
  refine wpAnyH_take (i := 14) (oi := { dst := some 105, op := Op.move (Operand.tmp 11), type := 31, pos := "deep.go:27", after := #[{ on := 13, ground := Ground.guard }], guard := some (13, true) }) (v := ?_) rfl (by kernel_rfl) (by kernel_rfl) (by kernel_rfl) (fun _ _ _ h => h) (Or.inl ⟨by rfl, ?_⟩) (by assumption) ?_
  rotate_left
  · (intro w hSw; (try dsimp only at hSw); go_simp; try with_reducible rfl)
  try simp only [Act.put, List.setIfInBounds_toArray, List.set_cons_zero, List.set_cons_succ]
  refine wpAnyH_take (i := 15) (oi := { dst := some 106, op := Op.convert 31 9 (Operand.tmp 105), type := 9, pos := "deep.go:27", after := #[{ on := 14, ground := Ground.data }, { on := 13, ground := Ground.guard }], guard := some (13, true) }) (v := ?_) rfl (by kernel_rfl) (by kernel_rfl) (by kernel_rfl) (fun _ _ _ h => h) (Or.inl ⟨by rfl, ?_⟩) (by assumption) ?_
  rotate_left
  · (intro w hSw; (try dsimp only at hSw); go_simp; try with_reducible rfl)
  try simp only [Act.put, List.setIfInBounds_toArray, List.set_cons_zero, List.set_cons_succ]
  refine wpAnyH_ready (rs := [16]) (by kernel_rfl) (by simp) ?_
  refine AllReadyH.cons (o := { dst := some 107, op := Op.call { callee := Callee.value (Operand.func 20), args := #[Operand.const (Value.int IntKind.u8 1)], argTypes := #[5] }, type := 31, pos := "deep.go:27", after := #[{ on := 13, ground := Ground.chain }, { on := 13, ground := Ground.guard }], guard := some (13, true) }) rfl (fun K hK => ?_) AllReadyH.nil
  refine step_want (by rfl) ?_
  go_simp
  refine (Calls.mono (show Calls Try.prog 20 #[.int .u8 1] _ _ from Try.full 1 _) ?_)
  rintro e w8 ⟨b8, c8, rfl, g1, g2, g3, g4⟩
  dsimp only
  have k8 : Chg w6 w8 (fun _ => False) := k7.trans (Chg.below g4 _)
  have B8 : Hid (Below w.heap.size w w8) := Lib.hid ((HB.out).trans (((B7.out).trans (g4.mono (B7.out).size)).mono (HB.out).size))
  have y3 := ((S6.out).congr (k8.block b3 (S6.out).lt id)).str 64 (by simp) c3
  have y6 := ((R6.out).congr (k8.block b6 (R6.out).lt id)).str 64 (by simp) c6
  have y8 := g3.str 64 (by simp) c8
  have y2 := (World.cell?_of_block (w := w6) (a := ⟨d, 2, none⟩) (k8.block d dl6 id)).trans (HD6.out).c2
  clear g1 g2 g3 g4
  refine hK.out _ _ ?_ (fun hHeld => ?_)
  · exact ⟨y2, y3, y6⟩
  clear hK K
  try simp only [Act.put, List.setIfInBounds_toArray, List.set_cons_zero, List.set_cons_succ]
  refine wpAnyH_ready (rs := [17]) (by kernel_rfl) (by simp) ?_
  refine AllReadyH.cons (o := { dst := some 108, op := Op.convert 31 9 (Operand.tmp 107), type := 9, pos := "deep.go:27", after := #[{ on := 16, ground := Ground.data }, { on := 13, ground := Ground.guard }], guard := some (13, true) }) rfl (fun K hK => ?_) AllReadyH.nil
  go_simp
  refine hK.out _ _ ?_ (fun hHeld => ?_)
  · exact ⟨y2, y3, y6⟩
  clear hK K
  try simp only [Act.put, List.setIfInBounds_toArray, List.set_cons_zero, List.set_cons_succ]
  refine wpAnyH_take (i := 18) (oi := { dst := some 109, op := Op.binOp BinOp.eql 9 (Operand.tmp 106) (Operand.tmp 108) 9, type := 4, pos := "deep.go:27", after := #[{ on := 15, ground := Ground.data }, { on := 17, ground := Ground.data }, { on := 13, ground := Ground.guard }], guard := some (13, true) }) (v := ?_) rfl (by kernel_rfl) (by kernel_rfl) (by kernel_rfl) (fun _ _ _ h => h) (Or.inl ⟨by rfl, ?_⟩) (by assumption) ?_
  rotate_left
  · (intro w hSw; (try dsimp only at hSw); go_simp; try with_reducible rfl)
  try simp only [Act.put, List.setIfInBounds_toArray, List.set_cons_zero, List.set_cons_succ]
  refine wpAnyH_take (i := 19) (oi := { dst := some 110, op := Op.pick (Operand.tmp 104) (Operand.tmp 109) (Operand.const (Value.bool false)), type := 4, pos := "deep.go:27", after := #[{ on := 13, ground := Ground.data }, { on := 18, ground := Ground.data }], guard := none }) (v := ?_) rfl (by kernel_rfl) (by kernel_rfl) (by kernel_rfl) (fun _ _ _ h => h) (Or.inl ⟨by rfl, ?_⟩) (by assumption) ?_
  rotate_left
  · (intro w hSw; (try dsimp only at hSw); go_simp; try with_reducible rfl)
  try simp only [Act.put, List.setIfInBounds_toArray, List.set_cons_zero, List.set_cons_succ]
  refine wpAnyH_take (i := 20) (oi := { dst := some 111, op := Op.move (Operand.tmp 110), type := 4, pos := "deep.go:27", after := #[{ on := 19, ground := Ground.data }, { on := 16, ground := Ground.chain }], guard := none }) (v := ?_) rfl (by kernel_rfl) (by kernel_rfl) (by kernel_rfl) (fun _ _ _ h => h) (Or.inl ⟨by rfl, ?_⟩) (by assumption) ?_
  rotate_left
  · (intro w hSw; (try dsimp only at hSw); go_simp; try with_reducible rfl)
  try simp only [Act.put, List.setIfInBounds_toArray, List.set_cons_zero, List.set_cons_succ]
  refine wpAnyH_take (i := 21) (oi := { dst := some 112, op := Op.move (Operand.tmp 6), type := 24, pos := "deep.go:27", after := #[{ on := 20, ground := Ground.guard }], guard := some (20, true) }) (v := ?_) rfl (by kernel_rfl) (by kernel_rfl) (by kernel_rfl) (fun _ _ _ h => h) (Or.inl ⟨by rfl, ?_⟩) (by assumption) ?_
  rotate_left
  · (intro w hSw; (try dsimp only at hSw); go_simp; try with_reducible rfl)
  try simp only [Act.put, List.setIfInBounds_toArray, List.set_cons_zero, List.set_cons_succ]
  refine wpAnyH_ready (rs := [22]) (by kernel_rfl) (by simp) ?_
  refine AllReadyH.cons (o := { dst := some 113, op := Op.call { callee := Callee.value (Operand.func 27), args := #[Operand.tmp 112], argTypes := #[24] }, type := 3, pos := "deep.go:27", after := #[{ on := 21, ground := Ground.data }, { on := 20, ground := Ground.chain }, { on := 20, ground := Ground.guard }], guard := some (20, true) }) rfl (fun K hK => ?_) AllReadyH.nil
  refine step_want (by rfl) ?_
  go_simp
  refine (Try.waits _ _ _ _ _ y2).mono ?_
  rintro e w' ⟨rfl, rfl⟩
  dsimp only
  refine hK.out _ _ ?_ (fun hHeld => ?_)
  · exact ⟨y2, y3, y6⟩
  clear hK K
  try simp only [Act.put, List.setIfInBounds_toArray, List.set_cons_zero, List.set_cons_succ]
  refine wpAnyH_take (i := 23) (oi := { dst := some 114, op := Op.binOp BinOp.eql 3 (Operand.tmp 113) (Operand.const (Value.int IntKind.i64 1)) 3, type := 4, pos := "deep.go:27", after := #[{ on := 22, ground := Ground.data }, { on := 20, ground := Ground.guard }], guard := some (20, true) }) (v := ?_) rfl (by kernel_rfl) (by kernel_rfl) (by kernel_rfl) (fun _ _ _ h => h) (Or.inl ⟨by rfl, ?_⟩) (by assumption) ?_
  rotate_left
  · (intro w hSw; (try dsimp only at hSw); go_simp; try with_reducible rfl)
  try simp only [Act.put, List.setIfInBounds_toArray, List.set_cons_zero, List.set_cons_succ]
  refine wpAnyH_take (i := 24) (oi := { dst := some 115, op := Op.pick (Operand.tmp 111) (Operand.tmp 114) (Operand.const (Value.bool false)), type := 4, pos := "deep.go:27", after := #[{ on := 20, ground := Ground.data }, { on := 23, ground := Ground.data }], guard := none }) (v := ?_) rfl (by kernel_rfl) (by kernel_rfl) (by kernel_rfl) (fun _ _ _ h => h) (Or.inl ⟨by rfl, ?_⟩) (by assumption) ?_
  rotate_left
  · (intro w hSw; (try dsimp only at hSw); go_simp; try with_reducible rfl)
  try simp only [Act.put, List.setIfInBounds_toArray, List.set_cons_zero, List.set_cons_succ]
  refine wpAnyH_take (i := 25) (oi := { dst := some 4, op := Op.assign (Operand.tmp 115), type := 4, pos := "deep.go:27", after := #[{ on := 24, ground := Ground.data }, { on := 22, ground := Ground.chain }, { on := 0, ground := Ground.phase }, { on := 1, ground := Ground.phase }, { on := 2, ground := Ground.phase }, { on := 3, ground := Ground.phase }, { on := 4, ground := Ground.phase }, { on := 5, ground := Ground.phase }, { on := 6, ground := Ground.phase }, { on := 7, ground := Ground.phase }, { on := 8, ground := Ground.phase }, { on := 9, ground := Ground.phase }, { on := 10, ground := Ground.phase }, { on := 11, ground := Ground.phase }, { on := 12, ground := Ground.phase }, { on := 13, ground := Ground.phase }, { on := 14, ground := Ground.phase }, { on := 15, ground := Ground.phase }, { on := 16, ground := Ground.phase }, { on := 17, ground := Ground.phase }, { on := 18, ground := Ground.phase }, { on := 19, ground := Ground.phase }, { on := 20, ground := Ground.phase }, { on := 21, ground := Ground.phase }, { on := 22, ground := Ground.phase }, { on := 23, ground := Ground.phase }, { on := 24, ground := Ground.phase }], guard := none }) (v := ?_) rfl (by kernel_rfl) (by kernel_rfl) (by kernel_rfl) (fun _ _ _ h => h) (Or.inl ⟨by rfl, ?_⟩) (by assumption) ?_
  rotate_left
  · (intro w hSw; (try dsimp only at hSw); go_simp; try with_reducible rfl)
  try simp only [Act.put, List.setIfInBounds_toArray, List.set_cons_zero, List.set_cons_succ]
  refine wpAnyH_done (by kernel_rfl) ?_ _
  refine NoPanic.normal ?_
  all_goals
    clear x3 x6 x7 x37 x67 y3 y6 y8 y2 z6 z7
    go_wp2
    go_ret
    exact ⟨rfl, B8.out⟩
theorem Try.sizes (a0 a1 : Int) (w : World) (w0 : (Lit.int .u16 a0).wf = true) (w1 : (Lit.int .i64 a1).wf = true) : Calls Try.prog 7 #[.int .u16 a0, .int .i64 a1] w fun e w' => e = .returned (.bool true) ∧ Below w.heap.size w w' := by
  have h0 : 0 ≤ a0 ∧ a0 ≤ 65535 := by
    simp [Lit.wf, IntKind.min, IntKind.max, IntKind.bits, IntKind.signed] at w0; omega
  by_cases h2 : a0 % 1100 < 4 ∨ 1024 < a0 % 1100
  · exact Try.sizes_few a0 a1 w h0.1 h0.2 h2
  · obtain ⟨k, hk⟩ : ∃ k : Nat, a0 % 1100 = k := ⟨(a0 % 1100).toNat, by omega⟩
    by_cases h3 : a1 < 0 ∨ (k : Int) ≤ a1
    · exact Try.sizes_out a0 a1 w k h0.1 h0.2 hk (by omega) (by omega) h3
    · obtain ⟨i, rfl⟩ : ∃ i : Nat, a1 = i := ⟨a1.toNat, by omega⟩
      exact Try.sizes_in a0 i w k h0.1 h0.2 hk (by omega) (by omega) (by omega)
end Go.Proofs
