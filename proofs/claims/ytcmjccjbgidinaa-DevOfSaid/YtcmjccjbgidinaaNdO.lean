/-
  Texts of a proof over the translated program: NdO.
-/
import Derived.Test.YtcmjccjbgidinaaNdR5
import Derived.Test.YtcmjccjbgidinaaNdK
import Derived.Test.YtcmjccjbgidinaaNdArg
import Derived.Laws.BytesArg
set_option linter.unusedVariables false
set_option linter.unnecessarySimpa false
set_option linter.unusedSimpArgs false
namespace Go.Proofs
open Go.RowKit
set_option maxRecDepth 100000
theorem fold_str : ∀ (l : List UInt8) (r : ByteArray), (l.map (fun x => (x.toNat : Int))).foldl (fun r n => r.push (UInt8.ofNat n.toNat)) r = ⟨(r.data.toList ++ l).toArray⟩
  | [], r => by simp
  | x :: l, r => by
    simp only [List.map_cons, List.foldl_cons]
    rw [fold_str l]
    simp [ByteArray.push]
theorem str_arg {w : World} {A : Addr} {l : List UInt8} (hc : ∀ j u, (l.map u8v)[j]? = some u → w.cell? (A.add j) = some u) (n c : Nat) (hn : l.length = n) : (convert 31 9 (.slice (some A) n c)).run Try.prog w = .ok (.string (strOf l)) w := by
  subst hn
  rw [run_convert_bytes_string w 31 9 5 (some A) l.length c Try.underlying31 Try.underlying5 Try.underlying9]
  have h : (loadCells A l.length).run Try.prog w = .ok ((l.map (fun x => (x.toNat : Int))).map (Value.int .u8)).toArray w := by
    have := run_loadCells_list (P := Try.prog) w A (l.map u8v) hc
    rw [List.length_map] at this
    rw [this, List.map_map]
    rfl
  rw [run_bytesToString w A l.length c _ h, fold_str]
  rfl
theorem lst_of {w : World} {a : Option Addr} {len : Nat} {l8 : Nat → UInt8} (h : ∀ i, i < len → ∃ x, a = some x ∧ w.cell? (x.add i) = some (u8v (l8 i))) : ∃ l : List UInt8, l.length = len ∧ ∀ x, a = some x → ∀ j u, (l.map u8v)[j]? = some u → w.cell? (x.add j) = some u := by
  refine ⟨(List.range len).map l8, by simp, fun x hx j u hu => ?_⟩
  rw [List.getElem?_map, List.getElem?_map] at hu
  by_cases hj : j < len
  · rw [List.getElem?_range hj] at hu
    obtain ⟨y, hy, hc⟩ := h j hj
    obtain rfl : x = y := by rw [hx] at hy; exact Option.some.inj hy
    simp at hu
    rw [hc, hu]
  · rw [List.getElem?_eq_none (by simp; omega)] at hu
    simp at hu
def YesO (w : World) (e : Ending) (w' : World) : Prop := e = .returned (.bool true) ∧ Below w.heap.size w w'
theorem Try.of_long (w : World) (a : Option Addr) (n m : Nat) (i : Int) (h : 5000 < n) : Calls Try.prog 4 #[.slice a n m, .int .i64 i] w (YesO w) := by
  have hd : decide (5000 < (n : Int)) = true := by simp; omega
  go_enter Try.func4, Try.ntmps4
  go_wp2_with fail
  refine (Try.known10 _).mono ?_
  rintro e w1 ⟨rfl, hb1⟩
  have HB := Lib.hid hb1
  clear hb1
  go_wp2
  go_ret
  exact ⟨rfl, HB.out⟩
theorem Try.of_none (w : World) (a : Option Addr) (n m : Nat) (i : Int) (h5 : n ≤ 5000) (h : n % 64 ≠ 0 ∨ n < 256) : Calls Try.prog 4 #[.slice a n m, .int .i64 i] w (YesO w) := by
  have hd : decide (5000 < (n : Int)) = false := by simp; omega
  have HH : Hid (n % 64 ≠ 0 ∨ n < 256 ∨ 65536 < n) := Lib.hid (by omega)
  have hm : n ≤ maxLen := by unfold maxLen; omega
  clear h
  go_enter Try.func4, Try.ntmps4
  go_wp2_with fail
  refine (Try.known10 _).mono ?_
  rintro e w1 ⟨rfl, hb1⟩
  have HB := Lib.hid hb1
  clear hb1
  go_wp2_with fail
  refine (Try.dof_bad a n m HH.out hm _).mono ?_
  rintro e w2 ⟨rfl, rfl⟩
  go_wp2_with fail
  refine (Try.rof_bad a n m HH.out hm _).mono ?_
  rintro e w2 ⟨rfl, rfl⟩
  go_wp2
  go_ret
  exact ⟨rfl, HB.out⟩
set_option maxHeartbeats 2000000 in
theorem Try.of_in (w : World) (x : Addr) (k m : Nat) (l : List UInt8) (hl : l.length = 64 * k) (hc : ∀ j u, (l.map u8v)[j]? = some u → w.cell? (x.add j) = some u) (h4 : 4 ≤ k) (hk : k ≤ 78) (i : Nat) (hi : i < k) :
    Calls Try.prog 4 #[.slice (some x) (64 * k) m, .int .i64 i] w (YesO w) := by
  have hd : decide (5000 < ((64 * k : Nat) : Int)) = false := by simp; omega
  have hd2 : decide (5000 < 64 * k) = false := by simp; omega
  have HL := Lib.hid hl
  have HC := Lib.hid hc
  have HI := Lib.hid hi
  clear hl hc hi
  go_enter Try.func4, Try.ntmps4
  go_wp2_with fail
  refine (Try.known10 _).mono ?_
  rintro e w1 ⟨rfl, hb1⟩
  have HB := Lib.hid hb1
  clear hb1
  go_wp2_with fail
  refine (Try.dof_good x k m h4 (by omega) _ l HL.out (cells_below HC.out HB.out)).mono ?_
  rintro e w2 ⟨v, rfl, d, F, rfl, hd2', hb2, hF⟩
  have HD := Lib.hid hd2'
  have HB2 : Hid (Below w.heap.size w w2) := Lib.hid ((HB.out).trans (hb2.mono (HB.out).size))
  clear hd2' hb2 hF
  go_wp2_with fail
  refine (Try.rof_good x k m h4 (by omega) _ l HL.out (cells_below HC.out HB2.out)).mono ?_
  rintro e w3 ⟨v, rfl, rm, G, rfl, hr, hb3, hG⟩
  have HD3 : Hid (DV w3 F d k l l []) := Lib.hid (by obtain ⟨lb, cl, tb, ct, vw, ds, h⟩ := HD.out; exact ⟨lb, cl, tb, ct, vw, ds, h.keep (Chg.below hb3 (fun _ => False)) (fun _ _ => id)⟩)
  have HR := Lib.hid hr
  have HB3 : Hid (Below w.heap.size w w3) := Lib.hid ((HB2.out).trans (hb3.mono (HB2.out).size))
  clear hr hb3 hG HD
  go_wp2_with fail
  obtain ⟨lb, cl, tb, ct, vw, ds, hd3⟩ := HD3.out
  obtain ⟨db, dc, A, wc, es, hr3⟩ := HR.out
  refine (Try.read_good hd3 i HI.out).mono ?_
  rintro e w4 ⟨b4, c4, rfl, s1, s2, s3, s4⟩
  have D4 := Lib.hid (hd3.keep (Chg.below s4 (fun _ => False)) (fun _ _ => id))
  have R4 := Lib.hid (hr3.keep (Chg.below s4 (fun _ => False)) (fun _ _ => id))
  have B4 := Lib.hid s3
  have HB4 : Hid (Below w.heap.size w w4) := Lib.hid ((HB3.out).trans (s4.mono (HB3.out).size))
  clear s1 s2 s3 s4 hd3 hr3 HD3 HR
  go_wp2_with fail
  refine (Try.rread_good R4.out (by simp) i HI.out).mono ?_
  rintro e w5 ⟨b5, c5, rfl, s1, s2, s3, s4⟩
  have htl : told l [] i = (l.drop (i * 64)).take 64 := rfl
  rw [htl] at s3
  have D5 := Lib.hid ((D4.out).keep (Chg.below s4 (fun _ => False)) (fun _ _ => id))
  have R5 := Lib.hid ((R4.out).keep (Chg.below s4 (fun _ => False)) (fun _ _ => id))
  have B45 := Lib.hid ((B4.out).congr (s4.block b4 (B4.out).lt))
  have B5 := Lib.hid s3
  have HB5 : Hid (Below w.heap.size w w5) := Lib.hid ((HB4.out).trans (s4.mono (HB4.out).size))
  have hWl : ((l.drop (i * 64)).take 64).length = 64 := by have := HL.out; have := HI.out; simp; omega
  have HWL := Lib.hid hWl
  clear s1 s2 s3 s4 htl hWl
  go_wp2
  have x4 : (convert 31 9 (.slice (some ⟨b4, 0, none⟩) 64 c4)).run Try.prog w5.drew = .ok (.string (strOf ((l.drop (i * 64)).take 64))) w5.drew := (show BY w5.drew b4 _ c4 from B45.out).str 64 HWL.out c4
  have x5 : (convert 31 9 (.slice (some ⟨b5, 0, none⟩) 64 c5)).run Try.prog w5.drew = .ok (.string (strOf ((l.drop (i * 64)).take 64))) w5.drew := (show BY w5.drew b5 _ c5 from B5.out).str 64 HWL.out c5
  have x0 : (convert 31 9 (.slice (some x) (64 * k) m)).run Try.prog w5.drew = .ok (.string (strOf l)) w5.drew := str_arg (cells_below HC.out ((HB5.out).drew)) _ _ HL.out
  refine wp_region_noPanic ?_
  refine wp_region_held_drew (S := (fun W => (convert 31 9 (.slice (some ⟨b4, 0, none⟩) 64 c4)).run Try.prog W = .ok (.string (strOf ((l.drop (i * 64)).take 64))) W ∧ (convert 31 9 (.slice (some ⟨b5, 0, none⟩) 64 c5)).run Try.prog W = .ok (.string (strOf ((l.drop (i * 64)).take 64))) W ∧ (convert 31 9 (.slice (some x) (64 * k) m)).run Try.prog W = .ok (.string (strOf l)) W)) (by kernel_rfl) ?_ (fun hHeld => ?_)
  · exact ⟨x4, x5, x0⟩
  refine wpAnyH_take (i := 0) (oi := { dst := some 52, op := Op.move (Operand.tmp 10), type := 25, pos := "law.go:124", after := #[], guard := none }) (v := ?_) rfl (by kernel_rfl) (by kernel_rfl) (by kernel_rfl) (fun _ _ _ h => h) (Or.inl ⟨by rfl, ?_⟩) (by assumption) ?_
  rotate_left
  · (intro w hSw; (try dsimp only at hSw); go_simp; try with_reducible rfl)
  try simp only [Act.put, List.setIfInBounds_toArray, List.set_cons_zero, List.set_cons_succ]
  refine wpAnyH_take (i := 1) (oi := { dst := some 53, op := Op.move (Operand.tmp 12), type := 3, pos := "law.go:124", after := #[], guard := none }) (v := ?_) rfl (by kernel_rfl) (by kernel_rfl) (by kernel_rfl) (fun _ _ _ h => h) (Or.inl ⟨by rfl, ?_⟩) (by assumption) ?_
  rotate_left
  · (intro w hSw; (try dsimp only at hSw); go_simp; try with_reducible rfl)
  try simp only [Act.put, List.setIfInBounds_toArray, List.set_cons_zero, List.set_cons_succ]
  refine wpAnyH_take (i := 2) (oi := { dst := some 54, op := Op.binOp BinOp.eql 3 (Operand.tmp 52) (Operand.tmp 53) 3, type := 4, pos := "law.go:124", after := #[{ on := 0, ground := Ground.data }, { on := 1, ground := Ground.data }], guard := none }) (v := ?_) rfl (by kernel_rfl) (by kernel_rfl) (by kernel_rfl) (fun _ _ _ h => h) (Or.inl ⟨by rfl, ?_⟩) (by assumption) ?_
  rotate_left
  · (intro w hSw; (try dsimp only at hSw); go_simp; try with_reducible rfl)
  try simp only [Act.put, List.setIfInBounds_toArray, List.set_cons_zero, List.set_cons_succ]
  refine wpAnyH_take (i := 3) (oi := { dst := some 55, op := Op.move (Operand.tmp 54), type := 4, pos := "law.go:124", after := #[{ on := 2, ground := Ground.data }], guard := none }) (v := ?_) rfl (by kernel_rfl) (by kernel_rfl) (by kernel_rfl) (fun _ _ _ h => h) (Or.inl ⟨by rfl, ?_⟩) (by assumption) ?_
  rotate_left
  · (intro w hSw; (try dsimp only at hSw); go_simp; try with_reducible rfl)
  try simp only [Act.put, List.setIfInBounds_toArray, List.set_cons_zero, List.set_cons_succ]
  refine wpAnyH_take (i := 4) (oi := { dst := some 56, op := Op.move (Operand.tmp 9), type := 31, pos := "law.go:124", after := #[{ on := 3, ground := Ground.guard }], guard := some (3, true) }) (v := ?_) rfl (by kernel_rfl) (by kernel_rfl) (by kernel_rfl) (fun _ _ _ h => h) (Or.inl ⟨by rfl, ?_⟩) (by assumption) ?_
  rotate_left
  · (intro w hSw; (try dsimp only at hSw); go_simp; try with_reducible rfl)
  try simp only [Act.put, List.setIfInBounds_toArray, List.set_cons_zero, List.set_cons_succ]
  refine wpAnyH_take (i := 5) (oi := { dst := some 57, op := Op.convert 31 9 (Operand.tmp 56), type := 9, pos := "law.go:124", after := #[{ on := 4, ground := Ground.data }, { on := 3, ground := Ground.guard }], guard := some (3, true) }) (v := ?_) rfl (by kernel_rfl) (by kernel_rfl) (by kernel_rfl) (fun _ _ _ h => h) (Or.inl ⟨by rfl, ?_⟩) (by assumption) ?_
  rotate_left
  · (intro w hSw; (try dsimp only at hSw); go_simp; try with_reducible rfl)
  try simp only [Act.put, List.setIfInBounds_toArray, List.set_cons_zero, List.set_cons_succ]
  refine wpAnyH_take (i := 6) (oi := { dst := some 58, op := Op.move (Operand.tmp 11), type := 31, pos := "law.go:124", after := #[{ on := 3, ground := Ground.guard }], guard := some (3, true) }) (v := ?_) rfl (by kernel_rfl) (by kernel_rfl) (by kernel_rfl) (fun _ _ _ h => h) (Or.inl ⟨by rfl, ?_⟩) (by assumption) ?_
  rotate_left
  · (intro w hSw; (try dsimp only at hSw); go_simp; try with_reducible rfl)
  try simp only [Act.put, List.setIfInBounds_toArray, List.set_cons_zero, List.set_cons_succ]
  refine wpAnyH_take (i := 7) (oi := { dst := some 59, op := Op.convert 31 9 (Operand.tmp 58), type := 9, pos := "law.go:124", after := #[{ on := 6, ground := Ground.data }, { on := 3, ground := Ground.guard }], guard := some (3, true) }) (v := ?_) rfl (by kernel_rfl) (by kernel_rfl) (by kernel_rfl) (fun _ _ _ h => h) (Or.inl ⟨by rfl, ?_⟩) (by assumption) ?_
  rotate_left
  · (intro w hSw; (try dsimp only at hSw); go_simp; try with_reducible rfl)
  try simp only [Act.put, List.setIfInBounds_toArray, List.set_cons_zero, List.set_cons_succ]
  refine wpAnyH_take (i := 8) (oi := { dst := some 60, op := Op.binOp BinOp.eql 9 (Operand.tmp 57) (Operand.tmp 59) 9, type := 4, pos := "law.go:124", after := #[{ on := 5, ground := Ground.data }, { on := 7, ground := Ground.data }, { on := 3, ground := Ground.guard }], guard := some (3, true) }) (v := ?_) rfl (by kernel_rfl) (by kernel_rfl) (by kernel_rfl) (fun _ _ _ h => h) (Or.inl ⟨by rfl, ?_⟩) (by assumption) ?_
  rotate_left
  · (intro w hSw; (try dsimp only at hSw); go_simp; try with_reducible rfl)
  try simp only [Act.put, List.setIfInBounds_toArray, List.set_cons_zero, List.set_cons_succ]
  refine wpAnyH_take (i := 9) (oi := { dst := some 61, op := Op.pick (Operand.tmp 55) (Operand.tmp 60) (Operand.const (Value.bool false)), type := 4, pos := "law.go:124", after := #[{ on := 3, ground := Ground.data }, { on := 8, ground := Ground.data }], guard := none }) (v := ?_) rfl (by kernel_rfl) (by kernel_rfl) (by kernel_rfl) (fun _ _ _ h => h) (Or.inl ⟨by rfl, ?_⟩) (by assumption) ?_
  rotate_left
  · (intro w hSw; (try dsimp only at hSw); go_simp; try with_reducible rfl)
  try simp only [Act.put, List.setIfInBounds_toArray, List.set_cons_zero, List.set_cons_succ]
  refine wpAnyH_take (i := 10) (oi := { dst := some 62, op := Op.move (Operand.tmp 61), type := 4, pos := "law.go:124", after := #[{ on := 9, ground := Ground.data }, { on := 3, ground := Ground.chain }], guard := none }) (v := ?_) rfl (by kernel_rfl) (by kernel_rfl) (by kernel_rfl) (fun _ _ _ h => h) (Or.inl ⟨by rfl, ?_⟩) (by assumption) ?_
  rotate_left
  · (intro w hSw; (try dsimp only at hSw); go_simp; try with_reducible rfl)
  try simp only [Act.put, List.setIfInBounds_toArray, List.set_cons_zero, List.set_cons_succ]
  refine wpAnyH_take (i := 11) (oi := { dst := some 63, op := Op.move (Operand.tmp 5), type := 24, pos := "law.go:124", after := #[{ on := 10, ground := Ground.guard }], guard := some (10, true) }) (v := ?_) rfl (by kernel_rfl) (by kernel_rfl) (by kernel_rfl) (fun _ _ _ h => h) (Or.inl ⟨by rfl, ?_⟩) (by assumption) ?_
  rotate_left
  · (intro w hSw; (try dsimp only at hSw); go_simp; try with_reducible rfl)
  try simp only [Act.put, List.setIfInBounds_toArray, List.set_cons_zero, List.set_cons_succ]
  refine wpAnyH_take (i := 14) (oi := { dst := some 66, op := Op.move (Operand.tmp 0), type := 31, pos := "law.go:124", after := #[{ on := 10, ground := Ground.guard }], guard := some (10, true) }) (v := ?_) rfl (by kernel_rfl) (by kernel_rfl) (by kernel_rfl) (fun _ _ _ h => h) (Or.inl ⟨by rfl, ?_⟩) (by assumption) ?_
  rotate_left
  · (intro w hSw; (try dsimp only at hSw); go_simp; try with_reducible rfl)
  try simp only [Act.put, List.setIfInBounds_toArray, List.set_cons_zero, List.set_cons_succ]
  refine wpAnyH_take (i := 15) (oi := { dst := some 67, op := Op.convert 31 9 (Operand.tmp 66), type := 9, pos := "law.go:124", after := #[{ on := 14, ground := Ground.data }, { on := 10, ground := Ground.guard }], guard := some (10, true) }) (v := ?_) rfl (by kernel_rfl) (by kernel_rfl) (by kernel_rfl) (fun _ _ _ h => h) (Or.inl ⟨by rfl, ?_⟩) (by assumption) ?_
  rotate_left
  · (intro w hSw; (try dsimp only at hSw); go_simp; try with_reducible rfl)
  try simp only [Act.put, List.setIfInBounds_toArray, List.set_cons_zero, List.set_cons_succ]
  refine wpAnyH_ready (rs := [12]) (by kernel_rfl) (by simp) ?_
  refine AllReadyH.cons (o := { dst := some 64, op := Op.call { callee := Callee.value (Operand.func 26), args := #[Operand.tmp 63], argTypes := #[24] }, type := 31, pos := "law.go:124", after := #[{ on := 11, ground := Ground.data }, { on := 10, ground := Ground.chain }, { on := 10, ground := Ground.guard }], guard := some (10, true) }) rfl (fun K hK => ?_) ?_
  · skip
    refine step_want (by rfl) ?_
    go_simp
    refine (Try.bytes ((D5.out).keep (Chg.refl w5 (fun _ => False)).drew (fun _ _ => id))).mono ?_
    rintro e w6 ⟨b6, c6, rfl, s1, s2, s3, s4⟩
    dsimp only
    have k6 : Chg w5 w6 (fun _ => False) := (Chg.below s4 _).ofDrew
    have HB6 : Hid (Below w.heap.size w w6) := Lib.hid ((HB5.out).trans ((show Below w5.heap.size w5 w6 from ⟨k6.os, k6.tape, k6.output, k6.size, fun b hb => k6.block b hb id⟩).mono (HB5.out).size))
    have y4 := ((B45.out).congr (k6.block b4 (B45.out).lt id)).str 64 HWL.out c4
    have y5 := ((B5.out).congr (k6.block b5 (B5.out).lt id)).str 64 HWL.out c5
    have y0 : (convert 31 9 (.slice (some x) (64 * k) m)).run Try.prog w6 = .ok (.string (strOf l)) w6 := str_arg (cells_below HC.out HB6.out) _ _ HL.out
    have y6 := s3.str (64 * k) HL.out c6
    have K6 := Lib.hid k6
    clear s1 s2 s3 s4 k6
    refine hK.out _ _ ?_ (fun hHeld => ?_)
    · exact ⟨y4, y5, y0⟩
    clear hK K
    try simp only [Act.put, List.setIfInBounds_toArray, List.set_cons_zero, List.set_cons_succ]
    refine wpAnyH_ready (rs := [13]) (by kernel_rfl) (by simp) ?_
    refine AllReadyH.cons (o := { dst := some 65, op := Op.convert 31 9 (Operand.tmp 64), type := 9, pos := "law.go:124", after := #[{ on := 12, ground := Ground.data }, { on := 10, ground := Ground.guard }], guard := some (10, true) }) rfl (fun K hK => ?_) ?_
    · skip
      go_simp
      refine hK.out _ _ ?_ (fun hHeld => ?_)
      · exact ⟨y4, y5, y0⟩
      clear hK K
      try simp only [Act.put, List.setIfInBounds_toArray, List.set_cons_zero, List.set_cons_succ]
      refine wpAnyH_take (i := 16) (oi := { dst := some 68, op := Op.binOp BinOp.eql 9 (Operand.tmp 65) (Operand.tmp 67) 9, type := 4, pos := "law.go:124", after := #[{ on := 13, ground := Ground.data }, { on := 15, ground := Ground.data }, { on := 10, ground := Ground.guard }], guard := some (10, true) }) (v := ?_) rfl (by kernel_rfl) (by kernel_rfl) (by kernel_rfl) (fun _ _ _ h => h) (Or.inl ⟨by rfl, ?_⟩) (by assumption) ?_
      rotate_left
      · (intro w hSw; (try dsimp only at hSw); go_simp; try with_reducible rfl)
      try simp only [Act.put, List.setIfInBounds_toArray, List.set_cons_zero, List.set_cons_succ]
      refine wpAnyH_take (i := 17) (oi := { dst := some 69, op := Op.pick (Operand.tmp 62) (Operand.tmp 68) (Operand.const (Value.bool false)), type := 4, pos := "law.go:124", after := #[{ on := 10, ground := Ground.data }, { on := 16, ground := Ground.data }], guard := none }) (v := ?_) rfl (by kernel_rfl) (by kernel_rfl) (by kernel_rfl) (fun _ _ _ h => h) (Or.inl ⟨by rfl, ?_⟩) (by assumption) ?_
      rotate_left
      · (intro w hSw; (try dsimp only at hSw); go_simp; try with_reducible rfl)
      try simp only [Act.put, List.setIfInBounds_toArray, List.set_cons_zero, List.set_cons_succ]
      refine wpAnyH_take (i := 18) (oi := { dst := some 70, op := Op.move (Operand.tmp 69), type := 4, pos := "law.go:124", after := #[{ on := 17, ground := Ground.data }, { on := 12, ground := Ground.chain }], guard := none }) (v := ?_) rfl (by kernel_rfl) (by kernel_rfl) (by kernel_rfl) (fun _ _ _ h => h) (Or.inl ⟨by rfl, ?_⟩) (by assumption) ?_
      rotate_left
      · (intro w hSw; (try dsimp only at hSw); go_simp; try with_reducible rfl)
      try simp only [Act.put, List.setIfInBounds_toArray, List.set_cons_zero, List.set_cons_succ]
      refine wpAnyH_take (i := 19) (oi := { dst := some 71, op := Op.move (Operand.tmp 5), type := 24, pos := "law.go:124", after := #[{ on := 18, ground := Ground.guard }], guard := some (18, true) }) (v := ?_) rfl (by kernel_rfl) (by kernel_rfl) (by kernel_rfl) (fun _ _ _ h => h) (Or.inl ⟨by rfl, ?_⟩) (by assumption) ?_
      rotate_left
      · (intro w hSw; (try dsimp only at hSw); go_simp; try with_reducible rfl)
      try simp only [Act.put, List.setIfInBounds_toArray, List.set_cons_zero, List.set_cons_succ]
      refine wpAnyH_take (i := 20) (oi := { dst := some 72, op := Op.move (Operand.tmp 7), type := 28, pos := "law.go:124", after := #[{ on := 18, ground := Ground.guard }], guard := some (18, true) }) (v := ?_) rfl (by kernel_rfl) (by kernel_rfl) (by kernel_rfl) (fun _ _ _ h => h) (Or.inl ⟨by rfl, ?_⟩) (by assumption) ?_
      rotate_left
      · (intro w hSw; (try dsimp only at hSw); go_simp; try with_reducible rfl)
      try simp only [Act.put, List.setIfInBounds_toArray, List.set_cons_zero, List.set_cons_succ]
      refine wpAnyH_ready (rs := [21]) (by kernel_rfl) (by simp) ?_
      refine AllReadyH.cons (o := { dst := some 73, op := Op.call { callee := Callee.value (Operand.func 23), args := #[Operand.tmp 71, Operand.tmp 72], argTypes := #[24, 28] }, type := 4, pos := "law.go:124", after := #[{ on := 19, ground := Ground.data }, { on := 20, ground := Ground.data }, { on := 18, ground := Ground.chain }, { on := 18, ground := Ground.guard }], guard := some (18, true) }) rfl (fun K hK => ?_) ?_
      · skip
        refine step_want (by rfl) ?_
        go_simp
        refine (Try.same ((D5.out).keep (K6.out) (fun _ _ => id)) ((R5.out).keep (K6.out) (fun _ _ => id)) rfl (by simp) rfl).mono ?_
        rintro e w7 ⟨rfl, s4⟩
        dsimp only
        have k7 : Chg w5 w7 (fun _ => False) := (K6.out).trans (Chg.below s4 _)
        have HB7 : Hid (Below w.heap.size w w7) := Lib.hid ((HB6.out).trans (s4.mono (HB6.out).size))
        have z4 := ((B45.out).congr (k7.block b4 (B45.out).lt id)).str 64 HWL.out c4
        have z5 := ((B5.out).congr (k7.block b5 (B5.out).lt id)).str 64 HWL.out c5
        have z0 : (convert 31 9 (.slice (some x) (64 * k) m)).run Try.prog w7 = .ok (.string (strOf l)) w7 := str_arg (cells_below HC.out HB7.out) _ _ HL.out
        clear s4 k7
        refine hK.out _ _ ?_ (fun hHeld => ?_)
        · exact ⟨z4, z5, z0⟩
        clear hK K
        try simp only [Act.put, List.setIfInBounds_toArray, List.set_cons_zero, List.set_cons_succ]
        refine wpAnyH_take (i := 22) (oi := { dst := some 74, op := Op.pick (Operand.tmp 70) (Operand.tmp 73) (Operand.const (Value.bool false)), type := 4, pos := "law.go:124", after := #[{ on := 18, ground := Ground.data }, { on := 21, ground := Ground.data }], guard := none }) (v := ?_) rfl (by kernel_rfl) (by kernel_rfl) (by kernel_rfl) (fun _ _ _ h => h) (Or.inl ⟨by rfl, ?_⟩) (by assumption) ?_
        rotate_left
        · (intro w hSw; (try dsimp only at hSw); go_simp; try with_reducible rfl)
        try simp only [Act.put, List.setIfInBounds_toArray, List.set_cons_zero, List.set_cons_succ]
        refine wpAnyH_take (i := 23) (oi := { dst := some 4, op := Op.assign (Operand.tmp 74), type := 4, pos := "law.go:124", after := #[{ on := 22, ground := Ground.data }, { on := 21, ground := Ground.chain }, { on := 0, ground := Ground.phase }, { on := 1, ground := Ground.phase }, { on := 2, ground := Ground.phase }, { on := 3, ground := Ground.phase }, { on := 4, ground := Ground.phase }, { on := 5, ground := Ground.phase }, { on := 6, ground := Ground.phase }, { on := 7, ground := Ground.phase }, { on := 8, ground := Ground.phase }, { on := 9, ground := Ground.phase }, { on := 10, ground := Ground.phase }, { on := 11, ground := Ground.phase }, { on := 12, ground := Ground.phase }, { on := 13, ground := Ground.phase }, { on := 14, ground := Ground.phase }, { on := 15, ground := Ground.phase }, { on := 16, ground := Ground.phase }, { on := 17, ground := Ground.phase }, { on := 18, ground := Ground.phase }, { on := 19, ground := Ground.phase }, { on := 20, ground := Ground.phase }, { on := 21, ground := Ground.phase }, { on := 22, ground := Ground.phase }], guard := none }) (v := ?_) rfl (by kernel_rfl) (by kernel_rfl) (by kernel_rfl) (fun _ _ _ h => h) (Or.inl ⟨by rfl, ?_⟩) (by assumption) ?_
        rotate_left
        · (intro w hSw; (try dsimp only at hSw); go_simp; try with_reducible rfl)
        try simp only [Act.put, List.setIfInBounds_toArray, List.set_cons_zero, List.set_cons_succ]
        refine wpAnyH_done (by kernel_rfl) ?_ _
        refine NoPanic.normal ?_
        clear x0 y0 z0 y6
        go_wp2
        go_ret
        exact ⟨rfl, HB7.out⟩
      exact AllReadyH.nil
    exact AllReadyH.nil
  exact AllReadyH.nil
set_option maxHeartbeats 2000000 in
theorem Try.of_out (w : World) (x : Addr) (k m : Nat) (l : List UInt8) (hl : l.length = 64 * k) (hc : ∀ j u, (l.map u8v)[j]? = some u → w.cell? (x.add j) = some u) (h4 : 4 ≤ k) (hk : k ≤ 78) (i : Int) (hi : i < 0 ∨ (k : Int) ≤ i) :
    Calls Try.prog 4 #[.slice (some x) (64 * k) m, .int .i64 i] w (YesO w) := by
  have hd : decide (5000 < ((64 * k : Nat) : Int)) = false := by simp; omega
  have hd2 : decide (5000 < 64 * k) = false := by simp; omega
  have HL := Lib.hid hl
  have HC := Lib.hid hc
  have HI := Lib.hid hi
  clear hl hc hi
  go_enter Try.func4, Try.ntmps4
  go_wp2_with fail
  refine (Try.known10 _).mono ?_
  rintro e w1 ⟨rfl, hb1⟩
  have HB := Lib.hid hb1
  clear hb1
  go_wp2_with fail
  refine (Try.dof_good x k m h4 (by omega) _ l HL.out (cells_below HC.out HB.out)).mono ?_
  rintro e w2 ⟨v, rfl, d, F, rfl, hd2', hb2, hF⟩
  have HD := Lib.hid hd2'
  have HB2 : Hid (Below w.heap.size w w2) := Lib.hid ((HB.out).trans (hb2.mono (HB.out).size))
  clear hd2' hb2 hF
  go_wp2_with fail
  refine (Try.rof_good x k m h4 (by omega) _ l HL.out (cells_below HC.out HB2.out)).mono ?_
  rintro e w3 ⟨v, rfl, rm, G, rfl, hr, hb3, hG⟩
  have HD3 : Hid (DV w3 F d k l l []) := Lib.hid (by obtain ⟨lb, cl, tb, ct, vw, ds, h⟩ := HD.out; exact ⟨lb, cl, tb, ct, vw, ds, h.keep (Chg.below hb3 (fun _ => False)) (fun _ _ => id)⟩)
  have HR := Lib.hid hr
  have HB3 : Hid (Below w.heap.size w w3) := Lib.hid ((HB2.out).trans (hb3.mono (HB2.out).size))
  clear hr hb3 hG HD
  go_wp2_with fail
  obtain ⟨lb, cl, tb, ct, vw, ds, hd3⟩ := HD3.out
  obtain ⟨db, dc, A, wc, es, hr3⟩ := HR.out
  refine (Try.read_bad hd3 i HI.out).mono ?_
  rintro e w4 ⟨rfl, rfl⟩
  go_wp2_with fail
  refine (Try.rread_bad hr3 i HI.out).mono ?_
  rintro e w5 ⟨rfl, rfl⟩
  have D5 := Lib.hid hd3
  have R5 := Lib.hid hr3
  have HB5 := Lib.hid (HB3.out)
  clear hd3 hr3 HD3 HR
  have xn : ∀ W, (convert 31 9 (.slice none 0 0)).run Try.prog W = .ok (.string ByteArray.empty) W := fun W => run_convert_bytes_nil (w := W) 31 5 Try.underlying31 Try.underlying5 0 0 9 Try.underlying9
  go_wp2
  have x0 : (convert 31 9 (.slice (some x) (64 * k) m)).run Try.prog w3.drew = .ok (.string (strOf l)) w3.drew := str_arg (cells_below HC.out ((HB5.out).drew)) _ _ HL.out
  refine wp_region_noPanic ?_
  refine wp_region_held_drew (S := (fun W => (convert 31 9 (.slice (some x) (64 * k) m)).run Try.prog W = .ok (.string (strOf l)) W)) (by kernel_rfl) ?_ (fun hHeld => ?_)
  · exact x0
  refine wpAnyH_take (i := 0) (oi := { dst := some 52, op := Op.move (Operand.tmp 10), type := 25, pos := "law.go:124", after := #[], guard := none }) (v := ?_) rfl (by kernel_rfl) (by kernel_rfl) (by kernel_rfl) (fun _ _ _ h => h) (Or.inl ⟨by rfl, ?_⟩) (by assumption) ?_
  rotate_left
  · (intro w hSw; (try dsimp only at hSw); go_simp; try with_reducible rfl)
  try simp only [Act.put, List.setIfInBounds_toArray, List.set_cons_zero, List.set_cons_succ]
  refine wpAnyH_take (i := 1) (oi := { dst := some 53, op := Op.move (Operand.tmp 12), type := 3, pos := "law.go:124", after := #[], guard := none }) (v := ?_) rfl (by kernel_rfl) (by kernel_rfl) (by kernel_rfl) (fun _ _ _ h => h) (Or.inl ⟨by rfl, ?_⟩) (by assumption) ?_
  rotate_left
  · (intro w hSw; (try dsimp only at hSw); go_simp; try with_reducible rfl)
  try simp only [Act.put, List.setIfInBounds_toArray, List.set_cons_zero, List.set_cons_succ]
  refine wpAnyH_take (i := 2) (oi := { dst := some 54, op := Op.binOp BinOp.eql 3 (Operand.tmp 52) (Operand.tmp 53) 3, type := 4, pos := "law.go:124", after := #[{ on := 0, ground := Ground.data }, { on := 1, ground := Ground.data }], guard := none }) (v := ?_) rfl (by kernel_rfl) (by kernel_rfl) (by kernel_rfl) (fun _ _ _ h => h) (Or.inl ⟨by rfl, ?_⟩) (by assumption) ?_
  rotate_left
  · (intro w hSw; (try dsimp only at hSw); go_simp; try with_reducible rfl)
  try simp only [Act.put, List.setIfInBounds_toArray, List.set_cons_zero, List.set_cons_succ]
  refine wpAnyH_take (i := 3) (oi := { dst := some 55, op := Op.move (Operand.tmp 54), type := 4, pos := "law.go:124", after := #[{ on := 2, ground := Ground.data }], guard := none }) (v := ?_) rfl (by kernel_rfl) (by kernel_rfl) (by kernel_rfl) (fun _ _ _ h => h) (Or.inl ⟨by rfl, ?_⟩) (by assumption) ?_
  rotate_left
  · (intro w hSw; (try dsimp only at hSw); go_simp; try with_reducible rfl)
  try simp only [Act.put, List.setIfInBounds_toArray, List.set_cons_zero, List.set_cons_succ]
  refine wpAnyH_take (i := 4) (oi := { dst := some 56, op := Op.move (Operand.tmp 9), type := 31, pos := "law.go:124", after := #[{ on := 3, ground := Ground.guard }], guard := some (3, true) }) (v := ?_) rfl (by kernel_rfl) (by kernel_rfl) (by kernel_rfl) (fun _ _ _ h => h) (Or.inl ⟨by rfl, ?_⟩) (by assumption) ?_
  rotate_left
  · (intro w hSw; (try dsimp only at hSw); go_simp; try with_reducible rfl)
  try simp only [Act.put, List.setIfInBounds_toArray, List.set_cons_zero, List.set_cons_succ]
  refine wpAnyH_take (i := 5) (oi := { dst := some 57, op := Op.convert 31 9 (Operand.tmp 56), type := 9, pos := "law.go:124", after := #[{ on := 4, ground := Ground.data }, { on := 3, ground := Ground.guard }], guard := some (3, true) }) (v := ?_) rfl (by kernel_rfl) (by kernel_rfl) (by kernel_rfl) (fun _ _ _ h => h) (Or.inl ⟨by rfl, ?_⟩) (by assumption) ?_
  rotate_left
  · (intro w hSw; (try dsimp only at hSw); go_simp; try with_reducible rfl)
  try simp only [Act.put, List.setIfInBounds_toArray, List.set_cons_zero, List.set_cons_succ]
  refine wpAnyH_take (i := 6) (oi := { dst := some 58, op := Op.move (Operand.tmp 11), type := 31, pos := "law.go:124", after := #[{ on := 3, ground := Ground.guard }], guard := some (3, true) }) (v := ?_) rfl (by kernel_rfl) (by kernel_rfl) (by kernel_rfl) (fun _ _ _ h => h) (Or.inl ⟨by rfl, ?_⟩) (by assumption) ?_
  rotate_left
  · (intro w hSw; (try dsimp only at hSw); go_simp; try with_reducible rfl)
  try simp only [Act.put, List.setIfInBounds_toArray, List.set_cons_zero, List.set_cons_succ]
  refine wpAnyH_take (i := 7) (oi := { dst := some 59, op := Op.convert 31 9 (Operand.tmp 58), type := 9, pos := "law.go:124", after := #[{ on := 6, ground := Ground.data }, { on := 3, ground := Ground.guard }], guard := some (3, true) }) (v := ?_) rfl (by kernel_rfl) (by kernel_rfl) (by kernel_rfl) (fun _ _ _ h => h) (Or.inl ⟨by rfl, ?_⟩) (by assumption) ?_
  rotate_left
  · (intro w hSw; (try dsimp only at hSw); go_simp; try with_reducible rfl)
  try simp only [Act.put, List.setIfInBounds_toArray, List.set_cons_zero, List.set_cons_succ]
  refine wpAnyH_take (i := 8) (oi := { dst := some 60, op := Op.binOp BinOp.eql 9 (Operand.tmp 57) (Operand.tmp 59) 9, type := 4, pos := "law.go:124", after := #[{ on := 5, ground := Ground.data }, { on := 7, ground := Ground.data }, { on := 3, ground := Ground.guard }], guard := some (3, true) }) (v := ?_) rfl (by kernel_rfl) (by kernel_rfl) (by kernel_rfl) (fun _ _ _ h => h) (Or.inl ⟨by rfl, ?_⟩) (by assumption) ?_
  rotate_left
  · (intro w hSw; (try dsimp only at hSw); go_simp; try with_reducible rfl)
  try simp only [Act.put, List.setIfInBounds_toArray, List.set_cons_zero, List.set_cons_succ]
  refine wpAnyH_take (i := 9) (oi := { dst := some 61, op := Op.pick (Operand.tmp 55) (Operand.tmp 60) (Operand.const (Value.bool false)), type := 4, pos := "law.go:124", after := #[{ on := 3, ground := Ground.data }, { on := 8, ground := Ground.data }], guard := none }) (v := ?_) rfl (by kernel_rfl) (by kernel_rfl) (by kernel_rfl) (fun _ _ _ h => h) (Or.inl ⟨by rfl, ?_⟩) (by assumption) ?_
  rotate_left
  · (intro w hSw; (try dsimp only at hSw); go_simp; try with_reducible rfl)
  try simp only [Act.put, List.setIfInBounds_toArray, List.set_cons_zero, List.set_cons_succ]
  refine wpAnyH_take (i := 10) (oi := { dst := some 62, op := Op.move (Operand.tmp 61), type := 4, pos := "law.go:124", after := #[{ on := 9, ground := Ground.data }, { on := 3, ground := Ground.chain }], guard := none }) (v := ?_) rfl (by kernel_rfl) (by kernel_rfl) (by kernel_rfl) (fun _ _ _ h => h) (Or.inl ⟨by rfl, ?_⟩) (by assumption) ?_
  rotate_left
  · (intro w hSw; (try dsimp only at hSw); go_simp; try with_reducible rfl)
  try simp only [Act.put, List.setIfInBounds_toArray, List.set_cons_zero, List.set_cons_succ]
  refine wpAnyH_take (i := 11) (oi := { dst := some 63, op := Op.move (Operand.tmp 5), type := 24, pos := "law.go:124", after := #[{ on := 10, ground := Ground.guard }], guard := some (10, true) }) (v := ?_) rfl (by kernel_rfl) (by kernel_rfl) (by kernel_rfl) (fun _ _ _ h => h) (Or.inl ⟨by rfl, ?_⟩) (by assumption) ?_
  rotate_left
  · (intro w hSw; (try dsimp only at hSw); go_simp; try with_reducible rfl)
  try simp only [Act.put, List.setIfInBounds_toArray, List.set_cons_zero, List.set_cons_succ]
  refine wpAnyH_take (i := 14) (oi := { dst := some 66, op := Op.move (Operand.tmp 0), type := 31, pos := "law.go:124", after := #[{ on := 10, ground := Ground.guard }], guard := some (10, true) }) (v := ?_) rfl (by kernel_rfl) (by kernel_rfl) (by kernel_rfl) (fun _ _ _ h => h) (Or.inl ⟨by rfl, ?_⟩) (by assumption) ?_
  rotate_left
  · (intro w hSw; (try dsimp only at hSw); go_simp; try with_reducible rfl)
  try simp only [Act.put, List.setIfInBounds_toArray, List.set_cons_zero, List.set_cons_succ]
  refine wpAnyH_take (i := 15) (oi := { dst := some 67, op := Op.convert 31 9 (Operand.tmp 66), type := 9, pos := "law.go:124", after := #[{ on := 14, ground := Ground.data }, { on := 10, ground := Ground.guard }], guard := some (10, true) }) (v := ?_) rfl (by kernel_rfl) (by kernel_rfl) (by kernel_rfl) (fun _ _ _ h => h) (Or.inl ⟨by rfl, ?_⟩) (by assumption) ?_
  rotate_left
  · (intro w hSw; (try dsimp only at hSw); go_simp; try with_reducible rfl)
  try simp only [Act.put, List.setIfInBounds_toArray, List.set_cons_zero, List.set_cons_succ]
  refine wpAnyH_ready (rs := [12]) (by kernel_rfl) (by simp) ?_
  refine AllReadyH.cons (o := { dst := some 64, op := Op.call { callee := Callee.value (Operand.func 26), args := #[Operand.tmp 63], argTypes := #[24] }, type := 31, pos := "law.go:124", after := #[{ on := 11, ground := Ground.data }, { on := 10, ground := Ground.chain }, { on := 10, ground := Ground.guard }], guard := some (10, true) }) rfl (fun K hK => ?_) ?_
  · skip
    refine step_want (by rfl) ?_
    go_simp
    refine (Try.bytes ((D5.out).keep (Chg.refl w3 (fun _ => False)).drew (fun _ _ => id))).mono ?_
    rintro e w6 ⟨b6, c6, rfl, s1, s2, s3, s4⟩
    dsimp only
    have k6 : Chg w3 w6 (fun _ => False) := (Chg.below s4 _).ofDrew
    have HB6 : Hid (Below w.heap.size w w6) := Lib.hid ((HB5.out).trans ((show Below w3.heap.size w3 w6 from ⟨k6.os, k6.tape, k6.output, k6.size, fun b hb => k6.block b hb id⟩).mono (HB5.out).size))
    have y0 : (convert 31 9 (.slice (some x) (64 * k) m)).run Try.prog w6 = .ok (.string (strOf l)) w6 := str_arg (cells_below HC.out HB6.out) _ _ HL.out
    have y6 := s3.str (64 * k) HL.out c6
    have K6 := Lib.hid k6
    clear s1 s2 s3 s4 k6
    refine hK.out _ _ ?_ (fun hHeld => ?_)
    · exact y0
    clear hK K
    try simp only [Act.put, List.setIfInBounds_toArray, List.set_cons_zero, List.set_cons_succ]
    refine wpAnyH_ready (rs := [13]) (by kernel_rfl) (by simp) ?_
    refine AllReadyH.cons (o := { dst := some 65, op := Op.convert 31 9 (Operand.tmp 64), type := 9, pos := "law.go:124", after := #[{ on := 12, ground := Ground.data }, { on := 10, ground := Ground.guard }], guard := some (10, true) }) rfl (fun K hK => ?_) ?_
    · skip
      go_simp
      refine hK.out _ _ ?_ (fun hHeld => ?_)
      · exact y0
      clear hK K
      try simp only [Act.put, List.setIfInBounds_toArray, List.set_cons_zero, List.set_cons_succ]
      refine wpAnyH_take (i := 16) (oi := { dst := some 68, op := Op.binOp BinOp.eql 9 (Operand.tmp 65) (Operand.tmp 67) 9, type := 4, pos := "law.go:124", after := #[{ on := 13, ground := Ground.data }, { on := 15, ground := Ground.data }, { on := 10, ground := Ground.guard }], guard := some (10, true) }) (v := ?_) rfl (by kernel_rfl) (by kernel_rfl) (by kernel_rfl) (fun _ _ _ h => h) (Or.inl ⟨by rfl, ?_⟩) (by assumption) ?_
      rotate_left
      · (intro w hSw; (try dsimp only at hSw); go_simp; try with_reducible rfl)
      try simp only [Act.put, List.setIfInBounds_toArray, List.set_cons_zero, List.set_cons_succ]
      refine wpAnyH_take (i := 17) (oi := { dst := some 69, op := Op.pick (Operand.tmp 62) (Operand.tmp 68) (Operand.const (Value.bool false)), type := 4, pos := "law.go:124", after := #[{ on := 10, ground := Ground.data }, { on := 16, ground := Ground.data }], guard := none }) (v := ?_) rfl (by kernel_rfl) (by kernel_rfl) (by kernel_rfl) (fun _ _ _ h => h) (Or.inl ⟨by rfl, ?_⟩) (by assumption) ?_
      rotate_left
      · (intro w hSw; (try dsimp only at hSw); go_simp; try with_reducible rfl)
      try simp only [Act.put, List.setIfInBounds_toArray, List.set_cons_zero, List.set_cons_succ]
      refine wpAnyH_take (i := 18) (oi := { dst := some 70, op := Op.move (Operand.tmp 69), type := 4, pos := "law.go:124", after := #[{ on := 17, ground := Ground.data }, { on := 12, ground := Ground.chain }], guard := none }) (v := ?_) rfl (by kernel_rfl) (by kernel_rfl) (by kernel_rfl) (fun _ _ _ h => h) (Or.inl ⟨by rfl, ?_⟩) (by assumption) ?_
      rotate_left
      · (intro w hSw; (try dsimp only at hSw); go_simp; try with_reducible rfl)
      try simp only [Act.put, List.setIfInBounds_toArray, List.set_cons_zero, List.set_cons_succ]
      refine wpAnyH_take (i := 19) (oi := { dst := some 71, op := Op.move (Operand.tmp 5), type := 24, pos := "law.go:124", after := #[{ on := 18, ground := Ground.guard }], guard := some (18, true) }) (v := ?_) rfl (by kernel_rfl) (by kernel_rfl) (by kernel_rfl) (fun _ _ _ h => h) (Or.inl ⟨by rfl, ?_⟩) (by assumption) ?_
      rotate_left
      · (intro w hSw; (try dsimp only at hSw); go_simp; try with_reducible rfl)
      try simp only [Act.put, List.setIfInBounds_toArray, List.set_cons_zero, List.set_cons_succ]
      refine wpAnyH_take (i := 20) (oi := { dst := some 72, op := Op.move (Operand.tmp 7), type := 28, pos := "law.go:124", after := #[{ on := 18, ground := Ground.guard }], guard := some (18, true) }) (v := ?_) rfl (by kernel_rfl) (by kernel_rfl) (by kernel_rfl) (fun _ _ _ h => h) (Or.inl ⟨by rfl, ?_⟩) (by assumption) ?_
      rotate_left
      · (intro w hSw; (try dsimp only at hSw); go_simp; try with_reducible rfl)
      try simp only [Act.put, List.setIfInBounds_toArray, List.set_cons_zero, List.set_cons_succ]
      refine wpAnyH_ready (rs := [21]) (by kernel_rfl) (by simp) ?_
      refine AllReadyH.cons (o := { dst := some 73, op := Op.call { callee := Callee.value (Operand.func 23), args := #[Operand.tmp 71, Operand.tmp 72], argTypes := #[24, 28] }, type := 4, pos := "law.go:124", after := #[{ on := 19, ground := Ground.data }, { on := 20, ground := Ground.data }, { on := 18, ground := Ground.chain }, { on := 18, ground := Ground.guard }], guard := some (18, true) }) rfl (fun K hK => ?_) ?_
      · skip
        refine step_want (by rfl) ?_
        go_simp
        refine (Try.same ((D5.out).keep (K6.out) (fun _ _ => id)) ((R5.out).keep (K6.out) (fun _ _ => id)) rfl (by simp) rfl).mono ?_
        rintro e w7 ⟨rfl, s4⟩
        dsimp only
        have k7 : Chg w3 w7 (fun _ => False) := (K6.out).trans (Chg.below s4 _)
        have HB7 : Hid (Below w.heap.size w w7) := Lib.hid ((HB6.out).trans (s4.mono (HB6.out).size))
        have z0 : (convert 31 9 (.slice (some x) (64 * k) m)).run Try.prog w7 = .ok (.string (strOf l)) w7 := str_arg (cells_below HC.out HB7.out) _ _ HL.out
        clear s4 k7
        refine hK.out _ _ ?_ (fun hHeld => ?_)
        · exact z0
        clear hK K
        try simp only [Act.put, List.setIfInBounds_toArray, List.set_cons_zero, List.set_cons_succ]
        refine wpAnyH_take (i := 22) (oi := { dst := some 74, op := Op.pick (Operand.tmp 70) (Operand.tmp 73) (Operand.const (Value.bool false)), type := 4, pos := "law.go:124", after := #[{ on := 18, ground := Ground.data }, { on := 21, ground := Ground.data }], guard := none }) (v := ?_) rfl (by kernel_rfl) (by kernel_rfl) (by kernel_rfl) (fun _ _ _ h => h) (Or.inl ⟨by rfl, ?_⟩) (by assumption) ?_
        rotate_left
        · (intro w hSw; (try dsimp only at hSw); go_simp; try with_reducible rfl)
        try simp only [Act.put, List.setIfInBounds_toArray, List.set_cons_zero, List.set_cons_succ]
        refine wpAnyH_take (i := 23) (oi := { dst := some 4, op := Op.assign (Operand.tmp 74), type := 4, pos := "law.go:124", after := #[{ on := 22, ground := Ground.data }, { on := 21, ground := Ground.chain }, { on := 0, ground := Ground.phase }, { on := 1, ground := Ground.phase }, { on := 2, ground := Ground.phase }, { on := 3, ground := Ground.phase }, { on := 4, ground := Ground.phase }, { on := 5, ground := Ground.phase }, { on := 6, ground := Ground.phase }, { on := 7, ground := Ground.phase }, { on := 8, ground := Ground.phase }, { on := 9, ground := Ground.phase }, { on := 10, ground := Ground.phase }, { on := 11, ground := Ground.phase }, { on := 12, ground := Ground.phase }, { on := 13, ground := Ground.phase }, { on := 14, ground := Ground.phase }, { on := 15, ground := Ground.phase }, { on := 16, ground := Ground.phase }, { on := 17, ground := Ground.phase }, { on := 18, ground := Ground.phase }, { on := 19, ground := Ground.phase }, { on := 20, ground := Ground.phase }, { on := 21, ground := Ground.phase }, { on := 22, ground := Ground.phase }], guard := none }) (v := ?_) rfl (by kernel_rfl) (by kernel_rfl) (by kernel_rfl) (fun _ _ _ h => h) (Or.inl ⟨by rfl, ?_⟩) (by assumption) ?_
        rotate_left
        · (intro w hSw; (try dsimp only at hSw); go_simp; try with_reducible rfl)
        try simp only [Act.put, List.setIfInBounds_toArray, List.set_cons_zero, List.set_cons_succ]
        refine wpAnyH_done (by kernel_rfl) ?_ _
        refine NoPanic.normal ?_
        clear x0 y0 z0 y6
        go_wp2
        go_ret
        exact ⟨rfl, HB7.out⟩
      exact AllReadyH.nil
    exact AllReadyH.nil
  exact AllReadyH.nil
theorem Try.of_all (a0 : Option Addr) (len0 cap0 : Nat) (z0 : List Int) (a1 : Int) (w : World) (w0 : IsRow .u8 w a0 len0 cap0 z0) :
    Calls Try.prog 4 #[.slice a0 len0 cap0, .int .i64 a1] w fun e w' => e = .returned (.bool true) ∧ Below w.heap.size w w' := by
  by_cases h5 : len0 ≤ 5000
  · by_cases h : len0 % 64 ≠ 0 ∨ len0 < 256
    · exact Try.of_none w a0 len0 cap0 a1 h5 h
    · obtain ⟨l8, hl8⟩ := w0.u8
      obtain ⟨l, hl, hc⟩ := lst_of hl8
      obtain ⟨k, rfl⟩ : ∃ k, len0 = 64 * k := ⟨len0 / 64, by omega⟩
      obtain ⟨x, rfl, _⟩ := hl8 0 (by omega)
      by_cases hi : a1 < 0 ∨ (k : Int) ≤ a1
      · exact Try.of_out w x k cap0 l hl (hc x rfl) (by omega) (by omega) a1 hi
      · obtain ⟨i, rfl⟩ : ∃ i : Nat, a1 = i := ⟨a1.toNat, by omega⟩
        exact Try.of_in w x k cap0 l hl (hc x rfl) (by omega) (by omega) i (by omega)
  · exact Try.of_long w a0 len0 cap0 a1 (by omega)
end Go.Proofs
