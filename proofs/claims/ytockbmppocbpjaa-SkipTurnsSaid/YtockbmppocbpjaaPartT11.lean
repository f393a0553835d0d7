/-
  Texts of a proof over the translated program: proved evaluators and walks, part 11 of 13.
-/
import Derived.Test.YtockbmppocbpjaaPartT10
import Derived.Below
import Derived.Deep.CutBlock
import Derived.Deep.RegionHeld3
import Derived.Deep.RegionWith
import Derived.Handy
import Derived.IntWalk
import Derived.Laws.StructEq
import Derived.Lib.Hide
import Derived.LoopTactic
import Derived.Outline
import Derived.OwnWalk
import Derived.Scope
import Derived.ScopeJumps
import Derived.Test.YtockbmppocbpjaaProg
import Derived.WalkKit
import Derived.WalkMore
import Derived.WalkSpells
set_option linter.unusedVariables false
set_option linter.unusedSimpArgs false
set_option linter.unusedSectionVars false
set_option linter.unnecessarySimpa false
section
namespace Go.Proofs
open Go.RowKit
set_option maxRecDepth 100000
def lows (zs : List Int) (i : Nat) : Int := (zs.take i).foldl min (zs.headD 0)
def highs (zs : List Int) (i : Nat) : Int := (zs.take i).foldl max (zs.headD 0)
theorem lows_succ (zs : List Int) (i : Nat) (hi : i < zs.length) : lows zs (i + 1) = min (lows zs i) zs[i] := by
  unfold lows
  rw [List.take_succ_eq_append_getElem hi, List.foldl_append]
  rfl
theorem highs_succ (zs : List Int) (i : Nat) (hi : i < zs.length) : highs zs (i + 1) = max (highs zs i) zs[i] := by
  unfold highs
  rw [List.take_succ_eq_append_getElem hi, List.foldl_append]
  rfl
theorem lows_one (zs : List Int) (h : 0 < zs.length) : lows zs 1 = zs[0] := by
  cases zs with
  | nil => simp at h
  | cons z zs => simp [lows]
theorem highs_one (zs : List Int) (h : 0 < zs.length) : highs zs 1 = zs[0] := by
  cases zs with
  | nil => simp at h
  | cons z zs => simp [highs]
def cmpF : Value := .func (.func 25) #[] #[]
def VH (w : World) (b : Nat) (q : Int × Int) : Prop := w.heap[b]? = some (.cells #[.int .i64 q.1, .int .i64 q.2, .string ⟨#[]⟩, .complex .f64 0 0] 28 (0, 0))
theorem VH.lt {w : World} {b : Nat} {q : Int × Int} (h : VH w b q) : b < w.heap.size := by
  by_cases hx : b < w.heap.size
  · exact hx
  · unfold VH at h; rw [Array.getElem?_eq_none (by omega)] at h; cases h
theorem VH.vb {w : World} {b : Nat} {q : Int × Int} (h : VH w b q) : VB w b q := by
  have hl := h.lt
  unfold VH at h
  refine ⟨hl, ?_, ?_, ?_, ?_⟩ <;> (rw [cell_of_row w _ _ _ _ _ h]; rfl)
theorem VH.z {w : World} {b : Nat} {q : Int × Int} (h : VH w b q) (j : Nat) : w.frozen? ⟨b, j, none⟩ = false := frozen_of_row w b j _ 28 h
theorem vh_alloc (w : World) (q : Int × Int) : VH (w.alloc (.cells #[.int .i64 q.1, .int .i64 q.2, .string ⟨#[]⟩, .complex .f64 0 0] 28)) w.heap.size q := alloc_here w _
theorem VH.eq {w w' : World} {b : Nat} {q : Int × Int} (h : VH w b q) (e : w'.heap[b]? = w.heap[b]?) : VH w' b q := e.trans h
theorem VH.below {w w' : World} {b : Nat} {q : Int × Int} (h : VH w b q) (hb : Below w.heap.size w w') : VH w' b q := h.eq (hb.block b h.lt)
theorem VH.set4 {w : World} {b : Nat} {q : Int × Int} (h : VH w b q) (a c : Int) : VH ((((w.setCell ⟨b, 0, none⟩ (.int .i64 a)).setCell ⟨b, 1, none⟩ (.int .i64 c)).setCell ⟨b, 2, none⟩ (.string ⟨#[]⟩)).setCell ⟨b, 3, none⟩ (.complex .f64 0 0)) b (a, c) := by
  have h0 := heap_setCell_same w b 0 _ 28 (.int .i64 a) h
  have h1 := heap_setCell_same _ b 1 _ 28 (.int .i64 c) h0
  have h2 := heap_setCell_same _ b 2 _ 28 (.string ⟨#[]⟩) h1
  have h3 := heap_setCell_same _ b 3 _ 28 (.complex .f64 0 0) h2
  exact h3
theorem set4_below {B : Nat} {a w : World} (h : Below B a w) {b : Nat} (hb : B ≤ b) (x0 x1 x2 x3 : Value) : Below B a ((((w.setCell ⟨b, 0, none⟩ x0).setCell ⟨b, 1, none⟩ x1).setCell ⟨b, 2, none⟩ x2).setCell ⟨b, 3, none⟩ x3) :=
  (((h.setCell (p := ⟨b, 0, none⟩) hb _).setCell (p := ⟨b, 1, none⟩) hb _).setCell (p := ⟨b, 2, none⟩) hb _).setCell (p := ⟨b, 3, none⟩) hb _
theorem set4_other (w : World) {b b' : Nat} (hb : b' ≠ b) (x0 x1 x2 x3 : Value) : ((((w.setCell ⟨b, 0, none⟩ x0).setCell ⟨b, 1, none⟩ x1).setCell ⟨b, 2, none⟩ x2).setCell ⟨b, 3, none⟩ x3).heap[b']? = w.heap[b']? := by
  rw [Below.heap_setCell _ _ _ _ hb, Below.heap_setCell _ _ _ _ hb, Below.heap_setCell _ _ _ _ hb, Below.heap_setCell _ _ _ _ hb]
structure MRel (w : World) (x : Int) (wr : World) : Prop where
  vb : VH wr (w.heap.size + 1) (1, x)
  v0 : VH wr w.heap.size (0, 0)
  bel : Below w.heap.size w wr
theorem mrel_start (w : World) (x : Int) : MRel w x ((w.alloc (.cells #[.int .i64 0, .int .i64 0, .string ⟨#[]⟩, .complex .f64 0 0] 28)).alloc (.cells #[.int .i64 1, .int .i64 x, .string ⟨#[]⟩, .complex .f64 0 0] 28)) := by
  have h0 := vh_alloc w (0, 0)
  have h1 := vh_alloc (w.alloc (.cells #[.int .i64 0, .int .i64 0, .string ⟨#[]⟩, .complex .f64 0 0] 28)) (1, x)
  have hs : (w.alloc (.cells #[.int .i64 0, .int .i64 0, .string ⟨#[]⟩, .complex .f64 0 0] 28)).heap.size = w.heap.size + 1 := by simp
  rw [hs] at h1
  exact ⟨h1, h0.below ((Below.refl _ _).alloc (Nat.le_refl _) _), ((Below.refl _ w).alloc (Nat.le_refl _) _).alloc (by simp) _⟩
theorem MRel.below {w wr w1 : World} {x : Int} (h : MRel w x wr) (hb : Below wr.heap.size wr w1) : MRel w x w1 := ⟨h.vb.below hb, h.v0.below hb, h.bel.trans (hb.mono h.bel.size)⟩
theorem MRel.set {w wr : World} {x : Int} (h : MRel w x wr) (y : Int) : MRel w y ((((wr.setCell ⟨w.heap.size + 1, 0, none⟩ (.int .i64 1)).setCell ⟨w.heap.size + 1, 1, none⟩ (.int .i64 y)).setCell ⟨w.heap.size + 1, 2, none⟩ (.string ⟨#[]⟩)).setCell ⟨w.heap.size + 1, 3, none⟩ (.complex .f64 0 0)) :=
  ⟨h.vb.set4 1 y, h.v0.eq (set4_other _ (by omega) _ _ _ _), set4_below h.bel (by omega) _ _ _ _⟩
set_option maxHeartbeats 2000000 in
theorem Try.minf {w : World} {g n cap : Nat} {zs : List Int} (h : VAt w g n cap (zs.map (fun z => ((1 : Int), z)))) (hl : zs.length = n) (h1 : 1 ≤ n) :
    Calls Try.prog 24 #[.slice (some ⟨g, 0, none⟩) n cap, (.func (.func 25) #[] #[])] w fun e w' => e = .returned (vN (lows zs n)) ∧ Below w.heap.size w w' := by
  have H := Lib.hid h
  have HL := Lib.hid hl
  have d1 : decide ((n : Int) < 1) = false := by simp; omega
  have d1' : decide (n < 1) = false := by simp; omega
  have d0 : (n = 0) = False := by simp; omega
  have d2 : decide ((0 : Int) < n) = true := by simp; omega
  have hsc := storeC
  have hcm := h.cm
  have hnc := h.nc
  unfold maxLen at hcm
  obtain ⟨e1, e2, e3, e4⟩ := (h.below ((Below.refl _ w).alloc (Nat.le_refl _) (.cells #[.int .i64 0, .int .i64 0, .string ⟨#[]⟩, .complex .f64 0 0] 28))).at4 0 (by rw [List.length_map]; omega)
  simp only [List.getElem_map, Nat.zero_mul, Nat.zero_add] at e1 e2 e3 e4
  have hz0 : zs[0]'(by omega) = lows zs 1 := (lows_one zs (by omega)).symm
  rw [hz0] at e2
  clear h hl hz0
  go_enter Try.func24, Try.ntmps24
  go_wp2_with fail
  clear e1 e2 e3 e4
  have H0 := Lib.hid (mrel_start w (lows zs 1))
  go_loopw [6] (fun t wr => ∃ i : Nat, 1 ≤ i ∧ i ≤ n ∧ t = .int .i64 i ∧ MRel w (lows zs i) wr) (fun t _ => n - (intOf t).toNat)
  case atStart => exact ⟨1, Nat.le_refl _, h1, rfl, H0.out⟩
  case round =>
    obtain ⟨i, hi1, hi, rfl, hb⟩ := hrel
    have HB := Lib.hid hb
    clear hb
    by_cases hlt : i < n
    · have hD : decide ((i : Int) < n) = true := by simpa using hlt
      obtain ⟨e1, e2, e3, e4⟩ := ((H.out).below (HB.out).bel).at4 i (by rw [List.length_map]; have := HL.out; omega)
      simp only [List.getElem_map] at e1 e2 e3 e4
      have HS := Lib.hid (lows_succ zs i (by have := HL.out; omega))
      generalize zs[i]'(by have := HL.out; omega) = x at e2 HS
      obtain ⟨_, f1, f2, f3, f4⟩ := (HB.out).vb.vb
      go_upto_region 7 with fail
      refine wp_region_noPanic ?_
      refine wp_region_held_drew (S := (fun W => W.cell? ⟨g, i * 4, none⟩ = some (.int .i64 1) ∧ W.cell? ⟨g, i * 4 + 1, none⟩ = some (.int .i64 x) ∧ W.cell? ⟨g, i * 4 + 2, none⟩ = some (.string ⟨#[]⟩) ∧ W.cell? ⟨g, i * 4 + 3, none⟩ = some (.complex .f64 0 0) ∧ W.cell? ⟨w.heap.size + 1, 0, none⟩ = some (.int .i64 1) ∧ W.cell? ⟨w.heap.size + 1, 1, none⟩ = some (.int .i64 (lows zs i)) ∧ W.cell? ⟨w.heap.size + 1, 2, none⟩ = some (.string ⟨#[]⟩) ∧ W.cell? ⟨w.heap.size + 1, 3, none⟩ = some (.complex .f64 0 0))) (by kernel_rfl) ?_ (fun hHeld => ?_)
      · exact ⟨e1, e2, e3, e4, f1, f2, f3, f4⟩
      refine wpAnyH_take (i := 0) (oi := { dst := some 20, op := Op.move (Operand.tmp 1), type := 64, pos := "sort.go:85", after := #[], guard := none }) (v := ?_) rfl (by kernel_rfl) (by kernel_rfl) (by kernel_rfl) (fun _ _ _ h => h) (Or.inl ⟨by rfl, ?_⟩) (by assumption) ?_
      rotate_left
      · (intro w hSw; (try dsimp only at hSw); go_simp; try with_reducible rfl)
      try simp only [Act.put, List.setIfInBounds_toArray, List.set_cons_zero, List.set_cons_succ]
      refine wpAnyH_take (i := 1) (oi := { dst := some 21, op := Op.move (Operand.tmp 0), type := 25, pos := "sort.go:85", after := #[], guard := none }) (v := ?_) rfl (by kernel_rfl) (by kernel_rfl) (by kernel_rfl) (fun _ _ _ h => h) (Or.inl ⟨by rfl, ?_⟩) (by assumption) ?_
      rotate_left
      · (intro w hSw; (try dsimp only at hSw); go_simp; try with_reducible rfl)
      try simp only [Act.put, List.setIfInBounds_toArray, List.set_cons_zero, List.set_cons_succ]
      refine wpAnyH_take (i := 2) (oi := { dst := some 22, op := Op.move (Operand.tmp 6), type := 3, pos := "sort.go:85", after := #[], guard := none }) (v := ?_) rfl (by kernel_rfl) (by kernel_rfl) (by kernel_rfl) (fun _ _ _ h => h) (Or.inl ⟨by rfl, ?_⟩) (by assumption) ?_
      rotate_left
      · (intro w hSw; (try dsimp only at hSw); go_simp; try with_reducible rfl)
      try simp only [Act.put, List.setIfInBounds_toArray, List.set_cons_zero, List.set_cons_succ]
      refine wpAnyH_take (i := 3) (oi := { dst := some 23, op := Op.indexAddr 25 (Operand.tmp 21) (Operand.tmp 22), type := 0, pos := "sort.go:85", after := #[{ on := 1, ground := Ground.data }, { on := 2, ground := Ground.data }], guard := none }) (v := ?_) rfl (by kernel_rfl) (by kernel_rfl) (by kernel_rfl) (fun _ _ _ h => h) (Or.inl ⟨by rfl, ?_⟩) (by assumption) ?_
      rotate_left
      · (intro w hSw; (try dsimp only at hSw); go_simp; try with_reducible rfl)
      try simp only [Act.put, List.setIfInBounds_toArray, List.set_cons_zero, List.set_cons_succ]
      refine wpAnyH_take (i := 4) (oi := { dst := some 24, op := Op.load 28 (Operand.tmp 23), type := 28, pos := "sort.go:85", after := #[{ on := 3, ground := Ground.data }], guard := none }) (v := ?_) rfl (by kernel_rfl) (by kernel_rfl) (by kernel_rfl) (fun _ _ _ h => h) (Or.inl ⟨by rfl, ?_⟩) (by assumption) ?_
      rotate_left
      · (intro w hSw; (try dsimp only at hSw); go_simp; try with_reducible rfl)
      try simp only [Act.put, List.setIfInBounds_toArray, List.set_cons_zero, List.set_cons_succ]
      refine wpAnyH_take (i := 5) (oi := { dst := some 25, op := Op.load 28 (Operand.tmp 5), type := 28, pos := "sort.go:85", after := #[], guard := none }) (v := ?_) rfl (by kernel_rfl) (by kernel_rfl) (by kernel_rfl) (fun _ _ _ h => h) (Or.inl ⟨by rfl, ?_⟩) (by assumption) ?_
      rotate_left
      · (intro w hSw; (try dsimp only at hSw); go_simp; try with_reducible rfl)
      try simp only [Act.put, List.setIfInBounds_toArray, List.set_cons_zero, List.set_cons_succ]
      refine wpAnyH_ready (rs := [6]) (by kernel_rfl) (by simp) ?_
      refine AllReadyH.cons (o := { dst := some 26, op := Op.call { callee := Callee.value (Operand.tmp 20), args := #[Operand.tmp 24, Operand.tmp 25], argTypes := #[28, 28] }, type := 3, pos := "sort.go:85", after := #[{ on := 0, ground := Ground.data }, { on := 4, ground := Ground.data }, { on := 5, ground := Ground.data }], guard := none }) rfl (fun K hK => ?_) AllReadyH.nil
      go_simp
      have hp := Try.compare x (lows zs i) wr.drew
      refine hp.mono ?_
      clear hp
      rintro e w1 ⟨rfl, hb1⟩
      dsimp only
      have HB1 : Hid (MRel w (lows zs i) w1) := Lib.hid ((HB.out).below (show Below wr.heap.size wr w1 from ⟨hb1.os, hb1.tape, hb1.output, hb1.size, hb1.block⟩))
      obtain ⟨_, g1, g2, g3, g4⟩ := (HB1.out).vb.vb
      have z0 := (HB1.out).vb.z 0
      have z1 := (HB1.out).vb.z 1
      have z2 := (HB1.out).vb.z 2
      have z3 := (HB1.out).vb.z 3
      obtain ⟨h1', h2', h3', h4'⟩ : w1.cell? ⟨g, i * 4, none⟩ = some (.int .i64 1) ∧ w1.cell? ⟨g, i * 4 + 1, none⟩ = some (.int .i64 x) ∧ w1.cell? ⟨g, i * 4 + 2, none⟩ = some (.string ⟨#[]⟩) ∧ w1.cell? ⟨g, i * 4 + 3, none⟩ = some (.complex .f64 0 0) := by
        have hlt' := ((H.out).below (HB.out).bel).lt
        exact ⟨(hb1.cell (p := ⟨g, i * 4, none⟩) hlt').trans e1, (hb1.cell (p := ⟨g, i * 4 + 1, none⟩) hlt').trans e2, (hb1.cell (p := ⟨g, i * 4 + 2, none⟩) hlt').trans e3, (hb1.cell (p := ⟨g, i * 4 + 3, none⟩) hlt').trans e4⟩
      clear hb1 e1 e2 e3 e4 f1 f2 f3 f4
      refine hK.out _ _ ?_ (fun hHeld => ?_)
      · exact ⟨h1', h2', h3', h4', g1, g2, g3, g4⟩
      clear hK K
      try simp only [Act.put, List.setIfInBounds_toArray, List.set_cons_zero, List.set_cons_succ]
      refine wpAnyH_take (i := 7) (oi := { dst := some 27, op := Op.binOp BinOp.lss 3 (Operand.tmp 26) (Operand.const (Value.int IntKind.i64 0)) 3, type := 4, pos := "sort.go:85", after := #[{ on := 6, ground := Ground.data }], guard := none }) (v := ?_) rfl (by kernel_rfl) (by kernel_rfl) (by kernel_rfl) (fun _ _ _ h => h) (Or.inl ⟨by rfl, ?_⟩) (by assumption) ?_
      rotate_left
      · (intro w hSw; (try dsimp only at hSw); go_simp; try with_reducible rfl)
      try simp only [Act.put, List.setIfInBounds_toArray, List.set_cons_zero, List.set_cons_succ]
      refine wpAnyH_done (by kernel_rfl) ?_ _
      refine NoPanic.normal ?_
      by_cases hlt2 : x < lows zs i
      · have hs : decide (sgn x (lows zs i) < 0) = true := by unfold sgn; by_cases q : x < lows zs i <;> by_cases q' : lows zs i < x <;> simp [q, q'] <;> omega
        have HX := Lib.hid (show lows zs (i + 1) = x by rw [HS.out]; omega)
        clear hlt2
        have HB2 := Lib.hid ((HB1.out).set x)
        rw [hs]
        go_wp2_with fail
        exact ⟨⟨i + 1, by omega, hlt, rfl, by rw [HX.out]; exact HB2.out⟩, by simp [intOf]; omega⟩
      · have hs : decide (sgn x (lows zs i) < 0) = false := by unfold sgn; by_cases q : x < lows zs i <;> by_cases q' : lows zs i < x <;> simp [q, q'] <;> omega
        have HX := Lib.hid (show lows zs (i + 1) = lows zs i by rw [HS.out]; omega)
        clear hlt2
        rw [hs]
        go_wp2_with fail
        exact ⟨⟨i + 1, by omega, hlt, rfl, by rw [HX.out]; exact HB1.out⟩, by simp [intOf]; omega⟩
    · obtain rfl : i = n := by omega
      have hD : decide ((i : Int) < i) = false := by simp
      obtain ⟨_, f1, f2, f3, f4⟩ := (HB.out).vb.vb
      obtain ⟨_, g1, g2, g3, g4⟩ := (HB.out).v0.vb
      have z0 := (HB.out).v0.z 0
      have z1 := (HB.out).v0.z 1
      have z2 := (HB.out).v0.z 2
      have z3 := (HB.out).v0.z 3
      go_wp2_with fail
      obtain ⟨_, r1, r2, r3, r4⟩ := ((HB.out).v0.set4 1 (lows zs i)).vb
      clear g1 g2 g3 g4 f1 f2 f3 f4 z0 z1 z2 z3
      refine bodyPost_ret (v := vN (lows zs i)) (by simp [results, Try.results24, go_sem, vN, r1, r2, r3, r4]) rfl ⟨rfl, ?_⟩
      exact set4_below (HB.out).bel (Nat.le_refl _) _ _ _ _
set_option maxHeartbeats 2000000 in
theorem Try.maxf {w : World} {g n cap : Nat} {zs : List Int} (h : VAt w g n cap (zs.map (fun z => ((1 : Int), z)))) (hl : zs.length = n) (h1 : 1 ≤ n) :
    Calls Try.prog 26 #[.slice (some ⟨g, 0, none⟩) n cap, (.func (.func 25) #[] #[])] w fun e w' => e = .returned (vN (highs zs n)) ∧ Below w.heap.size w w' := by
  have H := Lib.hid h
  have HL := Lib.hid hl
  have d1 : decide ((n : Int) < 1) = false := by simp; omega
  have d1' : decide (n < 1) = false := by simp; omega
  have d0 : (n = 0) = False := by simp; omega
  have d2 : decide ((0 : Int) < n) = true := by simp; omega
  have hsc := storeC
  have hcm := h.cm
  have hnc := h.nc
  unfold maxLen at hcm
  obtain ⟨e1, e2, e3, e4⟩ := (h.below ((Below.refl _ w).alloc (Nat.le_refl _) (.cells #[.int .i64 0, .int .i64 0, .string ⟨#[]⟩, .complex .f64 0 0] 28))).at4 0 (by rw [List.length_map]; omega)
  simp only [List.getElem_map, Nat.zero_mul, Nat.zero_add] at e1 e2 e3 e4
  have hz0 : zs[0]'(by omega) = highs zs 1 := (highs_one zs (by omega)).symm
  rw [hz0] at e2
  clear h hl hz0
  go_enter Try.func26, Try.ntmps26
  go_wp2_with fail
  clear e1 e2 e3 e4
  have H0 := Lib.hid (mrel_start w (highs zs 1))
  go_loopw [6] (fun t wr => ∃ i : Nat, 1 ≤ i ∧ i ≤ n ∧ t = .int .i64 i ∧ MRel w (highs zs i) wr) (fun t _ => n - (intOf t).toNat)
  case atStart => exact ⟨1, Nat.le_refl _, h1, rfl, H0.out⟩
  case round =>
    obtain ⟨i, hi1, hi, rfl, hb⟩ := hrel
    have HB := Lib.hid hb
    clear hb
    by_cases hlt : i < n
    · have hD : decide ((i : Int) < n) = true := by simpa using hlt
      obtain ⟨e1, e2, e3, e4⟩ := ((H.out).below (HB.out).bel).at4 i (by rw [List.length_map]; have := HL.out; omega)
      simp only [List.getElem_map] at e1 e2 e3 e4
      have HS := Lib.hid (highs_succ zs i (by have := HL.out; omega))
      generalize zs[i]'(by have := HL.out; omega) = x at e2 HS
      obtain ⟨_, f1, f2, f3, f4⟩ := (HB.out).vb.vb
      go_upto_region 7 with fail
      refine wp_region_noPanic ?_
      refine wp_region_held_drew (S := (fun W => W.cell? ⟨g, i * 4, none⟩ = some (.int .i64 1) ∧ W.cell? ⟨g, i * 4 + 1, none⟩ = some (.int .i64 x) ∧ W.cell? ⟨g, i * 4 + 2, none⟩ = some (.string ⟨#[]⟩) ∧ W.cell? ⟨g, i * 4 + 3, none⟩ = some (.complex .f64 0 0) ∧ W.cell? ⟨w.heap.size + 1, 0, none⟩ = some (.int .i64 1) ∧ W.cell? ⟨w.heap.size + 1, 1, none⟩ = some (.int .i64 (highs zs i)) ∧ W.cell? ⟨w.heap.size + 1, 2, none⟩ = some (.string ⟨#[]⟩) ∧ W.cell? ⟨w.heap.size + 1, 3, none⟩ = some (.complex .f64 0 0))) (by kernel_rfl) ?_ (fun hHeld => ?_)
      · exact ⟨e1, e2, e3, e4, f1, f2, f3, f4⟩
      refine wpAnyH_take (i := 0) (oi := { dst := some 20, op := Op.move (Operand.tmp 1), type := 64, pos := "sort.go:115", after := #[], guard := none }) (v := ?_) rfl (by kernel_rfl) (by kernel_rfl) (by kernel_rfl) (fun _ _ _ h => h) (Or.inl ⟨by rfl, ?_⟩) (by assumption) ?_
      rotate_left
      · (intro w hSw; (try dsimp only at hSw); go_simp; try with_reducible rfl)
      try simp only [Act.put, List.setIfInBounds_toArray, List.set_cons_zero, List.set_cons_succ]
      refine wpAnyH_take (i := 1) (oi := { dst := some 21, op := Op.move (Operand.tmp 0), type := 25, pos := "sort.go:115", after := #[], guard := none }) (v := ?_) rfl (by kernel_rfl) (by kernel_rfl) (by kernel_rfl) (fun _ _ _ h => h) (Or.inl ⟨by rfl, ?_⟩) (by assumption) ?_
      rotate_left
      · (intro w hSw; (try dsimp only at hSw); go_simp; try with_reducible rfl)
      try simp only [Act.put, List.setIfInBounds_toArray, List.set_cons_zero, List.set_cons_succ]
      refine wpAnyH_take (i := 2) (oi := { dst := some 22, op := Op.move (Operand.tmp 6), type := 3, pos := "sort.go:115", after := #[], guard := none }) (v := ?_) rfl (by kernel_rfl) (by kernel_rfl) (by kernel_rfl) (fun _ _ _ h => h) (Or.inl ⟨by rfl, ?_⟩) (by assumption) ?_
      rotate_left
      · (intro w hSw; (try dsimp only at hSw); go_simp; try with_reducible rfl)
      try simp only [Act.put, List.setIfInBounds_toArray, List.set_cons_zero, List.set_cons_succ]
      refine wpAnyH_take (i := 3) (oi := { dst := some 23, op := Op.indexAddr 25 (Operand.tmp 21) (Operand.tmp 22), type := 0, pos := "sort.go:115", after := #[{ on := 1, ground := Ground.data }, { on := 2, ground := Ground.data }], guard := none }) (v := ?_) rfl (by kernel_rfl) (by kernel_rfl) (by kernel_rfl) (fun _ _ _ h => h) (Or.inl ⟨by rfl, ?_⟩) (by assumption) ?_
      rotate_left
      · (intro w hSw; (try dsimp only at hSw); go_simp; try with_reducible rfl)
      try simp only [Act.put, List.setIfInBounds_toArray, List.set_cons_zero, List.set_cons_succ]
      refine wpAnyH_take (i := 4) (oi := { dst := some 24, op := Op.load 28 (Operand.tmp 23), type := 28, pos := "sort.go:115", after := #[{ on := 3, ground := Ground.data }], guard := none }) (v := ?_) rfl (by kernel_rfl) (by kernel_rfl) (by kernel_rfl) (fun _ _ _ h => h) (Or.inl ⟨by rfl, ?_⟩) (by assumption) ?_
      rotate_left
      · (intro w hSw; (try dsimp only at hSw); go_simp; try with_reducible rfl)
      try simp only [Act.put, List.setIfInBounds_toArray, List.set_cons_zero, List.set_cons_succ]
      refine wpAnyH_take (i := 5) (oi := { dst := some 25, op := Op.load 28 (Operand.tmp 5), type := 28, pos := "sort.go:115", after := #[], guard := none }) (v := ?_) rfl (by kernel_rfl) (by kernel_rfl) (by kernel_rfl) (fun _ _ _ h => h) (Or.inl ⟨by rfl, ?_⟩) (by assumption) ?_
      rotate_left
      · (intro w hSw; (try dsimp only at hSw); go_simp; try with_reducible rfl)
      try simp only [Act.put, List.setIfInBounds_toArray, List.set_cons_zero, List.set_cons_succ]
      refine wpAnyH_ready (rs := [6]) (by kernel_rfl) (by simp) ?_
      refine AllReadyH.cons (o := { dst := some 26, op := Op.call { callee := Callee.value (Operand.tmp 20), args := #[Operand.tmp 24, Operand.tmp 25], argTypes := #[28, 28] }, type := 3, pos := "sort.go:115", after := #[{ on := 0, ground := Ground.data }, { on := 4, ground := Ground.data }, { on := 5, ground := Ground.data }], guard := none }) rfl (fun K hK => ?_) AllReadyH.nil
      go_simp
      have hp := Try.compare x (highs zs i) wr.drew
      refine hp.mono ?_
      clear hp
      rintro e w1 ⟨rfl, hb1⟩
      dsimp only
      have HB1 : Hid (MRel w (highs zs i) w1) := Lib.hid ((HB.out).below (show Below wr.heap.size wr w1 from ⟨hb1.os, hb1.tape, hb1.output, hb1.size, hb1.block⟩))
      obtain ⟨_, g1, g2, g3, g4⟩ := (HB1.out).vb.vb
      have z0 := (HB1.out).vb.z 0
      have z1 := (HB1.out).vb.z 1
      have z2 := (HB1.out).vb.z 2
      have z3 := (HB1.out).vb.z 3
      obtain ⟨h1', h2', h3', h4'⟩ : w1.cell? ⟨g, i * 4, none⟩ = some (.int .i64 1) ∧ w1.cell? ⟨g, i * 4 + 1, none⟩ = some (.int .i64 x) ∧ w1.cell? ⟨g, i * 4 + 2, none⟩ = some (.string ⟨#[]⟩) ∧ w1.cell? ⟨g, i * 4 + 3, none⟩ = some (.complex .f64 0 0) := by
        have hlt' := ((H.out).below (HB.out).bel).lt
        exact ⟨(hb1.cell (p := ⟨g, i * 4, none⟩) hlt').trans e1, (hb1.cell (p := ⟨g, i * 4 + 1, none⟩) hlt').trans e2, (hb1.cell (p := ⟨g, i * 4 + 2, none⟩) hlt').trans e3, (hb1.cell (p := ⟨g, i * 4 + 3, none⟩) hlt').trans e4⟩
      clear hb1 e1 e2 e3 e4 f1 f2 f3 f4
      refine hK.out _ _ ?_ (fun hHeld => ?_)
      · exact ⟨h1', h2', h3', h4', g1, g2, g3, g4⟩
      clear hK K
      try simp only [Act.put, List.setIfInBounds_toArray, List.set_cons_zero, List.set_cons_succ]
      refine wpAnyH_take (i := 7) (oi := { dst := some 27, op := Op.binOp BinOp.gtr 3 (Operand.tmp 26) (Operand.const (Value.int IntKind.i64 0)) 3, type := 4, pos := "sort.go:115", after := #[{ on := 6, ground := Ground.data }], guard := none }) (v := ?_) rfl (by kernel_rfl) (by kernel_rfl) (by kernel_rfl) (fun _ _ _ h => h) (Or.inl ⟨by rfl, ?_⟩) (by assumption) ?_
      rotate_left
      · (intro w hSw; (try dsimp only at hSw); go_simp; try with_reducible rfl)
      try simp only [Act.put, List.setIfInBounds_toArray, List.set_cons_zero, List.set_cons_succ]
      refine wpAnyH_done (by kernel_rfl) ?_ _
      refine NoPanic.normal ?_
      by_cases hlt2 : highs zs i < x
      · have hs : decide (0 < sgn x (highs zs i)) = true := by unfold sgn; by_cases q : x < highs zs i <;> by_cases q' : highs zs i < x <;> simp [q, q'] <;> omega
        have HX := Lib.hid (show highs zs (i + 1) = x by rw [HS.out]; omega)
        clear hlt2
        have HB2 := Lib.hid ((HB1.out).set x)
        rw [hs]
        go_wp2_with fail
        exact ⟨⟨i + 1, by omega, hlt, rfl, by rw [HX.out]; exact HB2.out⟩, by simp [intOf]; omega⟩
      · have hs : decide (0 < sgn x (highs zs i)) = false := by unfold sgn; by_cases q : x < highs zs i <;> by_cases q' : highs zs i < x <;> simp [q, q'] <;> omega
        have HX := Lib.hid (show highs zs (i + 1) = highs zs i by rw [HS.out]; omega)
        clear hlt2
        rw [hs]
        go_wp2_with fail
        exact ⟨⟨i + 1, by omega, hlt, rfl, by rw [HX.out]; exact HB1.out⟩, by simp [intOf]; omega⟩
    · obtain rfl : i = n := by omega
      have hD : decide ((i : Int) < i) = false := by simp
      obtain ⟨_, f1, f2, f3, f4⟩ := (HB.out).vb.vb
      obtain ⟨_, g1, g2, g3, g4⟩ := (HB.out).v0.vb
      have z0 := (HB.out).v0.z 0
      have z1 := (HB.out).v0.z 1
      have z2 := (HB.out).v0.z 2
      have z3 := (HB.out).v0.z 3
      go_wp2_with fail
      obtain ⟨_, r1, r2, r3, r4⟩ := ((HB.out).v0.set4 1 (highs zs i)).vb
      clear g1 g2 g3 g4 f1 f2 f3 f4 z0 z1 z2 z3
      refine bodyPost_ret (v := vN (highs zs i)) (by simp [results, Try.results26, go_sem, vN, r1, r2, r3, r4]) rfl ⟨rfl, ?_⟩
      exact set4_below (HB.out).bel (Nat.le_refl _) _ _ _ _
end Go.Proofs
end
