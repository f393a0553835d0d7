/-
  Texts of a proof over the translated program: proved evaluators and walks, part 12 of 12.
-/
import Derived.Test.YtfblhcphbcghpaaPartG11
import Derived.Below
import Derived.Deep.Cut
import Derived.Deep.Draws
import Derived.Deep.OwnRows
import Derived.Deep.RegionHeld3
import Derived.Deep.RegionLaw
import Derived.Deep.RegionLawGrows
import Derived.Deep.RegionWith
import Derived.Handy
import Derived.IntWalk
import Derived.Laws.AppendOwn
import Derived.Laws.AppendOwnNone
import Derived.Laws.BitsLemmas
import Derived.Laws.BytesArg
import Derived.Laws.BytesString
import Derived.Laws.Closers25b
import Derived.Laws.CopyOwn
import Derived.Laws.MakeOwn
import Derived.Laws.OwnMore
import Derived.Laws.Rows
import Derived.Laws.StructEq
import Derived.Lib.AppendStr
import Derived.Lib.Hide
import Derived.Lib.SlBytesRow
import Derived.LoopTactic
import Derived.Outline
import Derived.OwnWalk
import Derived.Scope
import Derived.ScopeJumps
import Derived.Test.YtfblhcphbcghpaaProg
import Derived.WalkKit
import Derived.WalkMore
import Derived.WalkSpells
set_option linter.unusedVariables false
set_option linter.unusedSimpArgs false
set_option linter.unusedSectionVars false
set_option linter.unnecessarySimpa false
section
namespace Go.Proofs.Ytfblhcphbcghpaa
open Go.RowKit
set_option maxRecDepth 100000
def LookU (w : World) (r : Nat × Nat × Nat) (x : Ending) (w' : World) : Prop := ∃ A m c, x = .returned (.tuple #[.agg #[.int .u64 r.1, .int .i64 r.2.1, .int .i64 r.2.2], .agg #[.int .u64 r.1, .slice A m c, .slice none 0 0], .bool (decide (r.1 ≠ 0))]) ∧ Below w.heap.size w w'
theorem lookU_no {w w' : World} {x : Ending} (h : LookNo w x w') : LookU w (0, 0, 0) x w' := ⟨none, 0, 0, by rw [h.1]; rfl, h.2⟩
theorem lookU_ok {w w' : World} {x : Ending} {e a n : Nat} {cs : List (List UInt8 × Int)} (he : e ≠ 0) (h : LookOk w e a n cs x w') : LookU w (e, a, n) x w' := by
  obtain ⟨g, c, hx, _, hb, _⟩ := h
  exact ⟨_, _, c, by rw [hx, decide_eq_true (show (e, a, n).1 ≠ 0 from he)], hb⟩
def yng (x y : Nat × Nat × Nat) : Nat × Nat × Nat := if x.1 < y.1 then y else x
structure FS (w wr : World) (z2 z3 s5 s6 E A N : Nat) (X : Option Addr) (m c : Nat) : Prop where
  be : Below w.heap.size w wr
  h2 : wr.heap[z2]? = some (.cells zero3 70 (0, 0))
  h3 : wr.heap[z3]? = some (.cells foot0 48 (0, 0))
  h5 : wr.heap[s5]? = some (.cells #[.int .u64 E, .int .i64 A, .int .i64 N] 70 (0, 0))
  h6 : wr.heap[s6]? = some (.cells #[.int .u64 E, .slice X m c, .slice none 0 0] 48 (0, 0))
  ord : w.heap.size ≤ z2 ∧ z2 < z3 ∧ z3 < s5 ∧ s5 < s6
theorem FS.below {w wr w' : World} {z2 z3 s5 s6 E A N : Nat} {X : Option Addr} {m c : Nat} (h : FS w wr z2 z3 s5 s6 E A N X m c) (hb : Below wr.heap.size wr w') : FS w w' z2 z3 s5 s6 E A N X m c :=
  ⟨h.be.trans (hb.mono h.be.size), (hb.block z2 (Go.NR.heap_lt h.h2)).trans h.h2, (hb.block z3 (Go.NR.heap_lt h.h3)).trans h.h3, (hb.block s5 (Go.NR.heap_lt h.h5)).trans h.h5, (hb.block s6 (Go.NR.heap_lt h.h6)).trans h.h6, h.ord⟩
theorem FS.drew {w wr : World} {z2 z3 s5 s6 E A N : Nat} {X : Option Addr} {m c : Nat} (h : FS w wr z2 z3 s5 s6 E A N X m c) : FS w wr.drew z2 z3 s5 s6 E A N X m c := h.below (Below.refl _ wr).drew
theorem FS.turn {w wr : World} {z2 z3 s5 s6 E A N : Nat} {X : Option Addr} {m c : Nat} (h : FS w wr z2 z3 s5 s6 E A N X m c) (e a n : Nat) (Y : Option Addr) (m' c' : Nat) :
    FS w ((wr.setRow s5 #[.int .u64 e, .int .i64 a, .int .i64 n]).setRow s6 #[.int .u64 e, .slice Y m' c', .slice none 0 0]) z2 z3 s5 s6 e a n Y m' c' := by
  have ho := h.ord
  refine ⟨Below.setRow (Below.setRow h.be (by omega) _) (by omega) _, (Go.NR.setRow_else _ s6 _ z2 (by omega)).trans ((Go.NR.setRow_else _ s5 _ z2 (by omega)).trans h.h2), (Go.NR.setRow_else _ s6 _ z3 (by omega)).trans ((Go.NR.setRow_else _ s5 _ z3 (by omega)).trans h.h3), (Go.NR.setRow_else _ s6 _ s5 (by omega)).trans (setRow_heap' _ s5 _ _ 70 h.h5), setRow_heap' _ s6 _ _ 48 ((Go.NR.setRow_else _ s5 _ s6 (by omega)).trans h.h6), ho⟩
theorem FS.start (w : World) : FS w ((((w.alloc (.cells zero3 70)).alloc (.cells foot0 48)).alloc (.cells zero3 70)).alloc (.cells foot0 48)) w.heap.size (w.heap.size + 1) (w.heap.size + 2) (w.heap.size + 3) 0 0 0 none 0 0 := by
  have h1 := heap_alloc_new w (.cells zero3 70)
  obtain ⟨wa, hwa⟩ : ∃ wa, w.alloc (.cells zero3 70) = wa := ⟨_, rfl⟩
  have hsa : wa.heap.size = w.heap.size + 1 := by rw [← hwa]; simp
  have b1 := (Below.refl w.heap.size w).alloc (Nat.le_refl _) (.cells zero3 70)
  rw [hwa] at h1 b1 ⊢
  have h2 := heap_alloc_new wa (.cells foot0 48)
  obtain ⟨wb, hwb⟩ : ∃ wb, wa.alloc (.cells foot0 48) = wb := ⟨_, rfl⟩
  have hsb : wb.heap.size = w.heap.size + 2 := by rw [← hwb]; simp [hsa]
  have b2 := (Below.refl wa.heap.size wa).alloc (Nat.le_refl _) (.cells foot0 48)
  rw [hwb] at h2 b2 ⊢
  have h3 := heap_alloc_new wb (.cells zero3 70)
  obtain ⟨wc, hwc⟩ : ∃ wc, wb.alloc (.cells zero3 70) = wc := ⟨_, rfl⟩
  have hsc : wc.heap.size = w.heap.size + 3 := by rw [← hwc]; simp [hsb]
  have b3 := (Below.refl wb.heap.size wb).alloc (Nat.le_refl _) (.cells zero3 70)
  rw [hwc] at h3 b3 ⊢
  have h4 := heap_alloc_new wc (.cells foot0 48)
  obtain ⟨wd, hwd⟩ : ∃ wd, wc.alloc (.cells foot0 48) = wd := ⟨_, rfl⟩
  have b4 := (Below.refl wc.heap.size wc).alloc (Nat.le_refl _) (.cells foot0 48)
  rw [hwd] at h4 b4 ⊢
  rw [hsa] at h2 b2
  rw [hsb] at h3 b3
  rw [hsc] at h4 b4
  refine ⟨b1.trans ((b2.mono (by omega)).trans ((b3.mono (by omega)).trans (b4.mono (by omega)))), ?_, ?_, ?_, h4, by omega⟩
  · exact (b4.block _ (by omega)).trans ((b3.block _ (by omega)).trans ((b2.block _ (by omega)).trans h1))
  · exact (b4.block _ (by omega)).trans ((b3.block _ (by omega)).trans h2)
  · exact (b4.block _ (by omega)).trans h3
def Found (w : World) (r : Nat × Nat × Nat) (x : Ending) (w' : World) : Prop := ∃ A m c, x = .returned (.tuple #[.agg #[.int .u64 r.1, .int .i64 r.2.1, .int .i64 r.2.2], .agg #[.int .u64 r.1, .slice A m c, .slice none 0 0], .int .i64 (if r.1 = 0 then 11 else 0)]) ∧ Below w.heap.size w w'
def ini (r : Nat → Nat × Nat × Nat) (i : Nat) : Nat × Nat × Nat := if i = 0 then (0, 0, 0) else yng (0, 0, 0) (r 0)
theorem ini_next (r : Nat → Nat × Nat × Nat) (i : Nat) (hi : i < 2) (x : Nat × Nat × Nat) (hx : x = yng (ini r i) (r i)) (h0 : i = 0) : x = ini r (i + 1) := by
  subst h0
  rw [hx]
  rfl
theorem yng_zero (x y : Nat × Nat × Nat) (h : (yng (yng (0, 0, 0) x) y).1 = 0) : yng (yng (0, 0, 0) x) y = (0, 0, 0) := by
  unfold yng at h ⊢
  by_cases h1 : 0 < x.1
  · rw [if_pos (show (0, 0, 0).1 < x.1 from h1)] at h ⊢
    by_cases h2 : x.1 < y.1
    · rw [if_pos h2] at h; omega
    · rw [if_neg h2] at h; omega
  · rw [if_neg (show ¬ (0, 0, 0).1 < x.1 from h1)] at h ⊢
    by_cases h2 : 0 < y.1
    · rw [if_pos (show (0, 0, 0).1 < y.1 from h2)] at h; omega
    · rw [if_neg (show ¬ (0, 0, 0).1 < y.1 from h2)]
theorem alloc2 (w : World) (o o' : Obj) : ∃ w4 s8 s9, (w.alloc o).alloc o' = w4 ∧ w.heap.size = s8 ∧ s8 + 1 = s9 ∧ Below w.heap.size w w4 ∧ w4.heap[s8]? = some o ∧ w4.heap[s9]? = some o' := by
  have h1 := heap_alloc_new w o
  have b1 := (Below.refl w.heap.size w).alloc (Nat.le_refl _) o
  obtain ⟨wa, hwa⟩ : ∃ wa, w.alloc o = wa := ⟨_, rfl⟩
  have hsa : wa.heap.size = w.heap.size + 1 := by rw [← hwa]; simp
  rw [hwa] at h1 b1 ⊢
  have h2 := heap_alloc_new wa o'
  have b2 := (Below.refl wa.heap.size wa).alloc (Nat.le_refl _) o'
  rw [hsa] at h2 b2
  exact ⟨_, _, _, rfl, rfl, rfl, b1.trans (b2.mono (by omega)), (b2.block _ (by omega)).trans h1, h2⟩
theorem oneS (e : Nat) (X : Option Addr) (m c : Nat) : ∀ u ∈ (#[Value.int .u64 (e : Int), .slice X m c, .slice none 0 0] : Array Value).toList, u.oneCell' = true := by
  intro u hu
  simp at hu
  rcases hu with rfl | rfl | rfl <;> rfl
set_option maxHeartbeats 8000000 in
theorem Try.sfind {w : World} {F : Nat → Prop} {d k : Nat} {L T : List UInt8} {Q : List (Nat × List UInt8)} (hd : DV w F d k L T Q) (r : Nat → Nat × Nat × Nat)
    (hl : ∀ i, i < 2 → ∀ w', DV w' F d k L T Q → Calls Try.prog 53 #[.pointer (some ⟨d, 0, none⟩), .int .i64 (i : Nat)] w' (LookU w' (r i))) :
    Calls Try.prog 19 #[.pointer (some ⟨d, 0, none⟩)] w (Found w (yng (yng (0, 0, 0) (r 0)) (r 1))) := by
  have HD := Lib.hid hd
  have HL := Lib.hid hl
  have HS := Lib.hid (FS.start w)
  clear hd hl
  go_enter Try.func19, Try.ntmps19
  go_wp2
  refine Go.NR.wp_scope_once 0 (fun a' wr => ∃ (i z2 z3 s5 s6 E A N : Nat) (X : Option Addr) (m c : Nat), i < 2 ∧ FS w wr z2 z3 s5 s6 E A N X m c ∧ (E, A, N) = ini r i ∧ ∃ u1 u8 u9 u10 u11 u12 u13 u14 u15 u16 u17 u18 u19 u20 u21 u22 u23 u24 u25 u26 u27 u28 u29 u30 u31 u32 u33 u34 u35 u36 u37 u38 : Value, a' = { tmps := #[.pointer (some ⟨d, 0, none⟩), u1, .pointer (some ⟨z2, 0, none⟩), .pointer (some ⟨z3, 0, none⟩), .int .i64 0, .pointer (some ⟨s5, 0, none⟩), .pointer (some ⟨s6, 0, none⟩), .int .i64 i, u8, u9, u10, u11, u12, u13, u14, u15, u16, u17, u18, u19, u20, u21, u22, u23, u24, u25, u26, u27, u28, u29, u30, u31, u32, u33, u34, u35, u36, u37, u38], defers := [] }) (fun a' _ => 2 - (intOf (a'.tmps.getD 7 undef)).toNat) rfl ?_ ?_
  · intro hJ
    go_wp2_with (refine wp_label ?_; rename_i Q0 K0 hK; refine hK _ _ (hJ _ _ ?_); exact ⟨0, _, _, _, _, 0, 0, 0, none, 0, 0, Nat.zero_lt_two, HS.out, rfl, _, _, _, _, _, _, _, _, _, _, _, _, _, _, _, _, _, _, _, _, _, _, _, _, _, _, _, _, _, _, _, _, rfl⟩)
  · rintro a' wr ⟨i, z2, z3, s5, s6, E, A, N, X, m, c, hi, hf, hE, u1, u8, u9, u10, u11, u12, u13, u14, u15, u16, u17, u18, u19, u20, u21, u22, u23, u24, u25, u26, u27, u28, u29, u30, u31, u32, u33, u34, u35, u36, u37, u38, rfl⟩
    obtain ⟨⟨e, a, n⟩, hr⟩ : ∃ q, r i = q := ⟨_, rfl⟩
    have HF := Lib.hid hf
    have HE := Lib.hid hE
    have HR := Lib.hid hr
    have HI := Lib.hid hi
    clear hf hE hi
    go_wp2_with fail
    refine (HL.out i HI.out wr (DV.below HD.out HF.out.be)).mono ?_
    rintro x w1 ⟨Y, m', c', rfl, hb1⟩
    rw [hr]
    clear hr
    dsimp only
    have F1 := Lib.hid (HF.out.below hb1)
    clear hb1 HF
    go_upto_region 5 with fail
    obtain ⟨w4, s8, s9, hw4, hs8, hs9, hb4, h8, h9⟩ := alloc2 w1 (.cells #[.int .u64 e, .int .i64 a, .int .i64 n] 70) (.cells #[.int .u64 e, .slice Y m' c', .slice none 0 0] 48)
    rw [hw4]
    rw [hs8]
    rw [hs9]
    have F4 := Lib.hid (F1.out.below hb4)
    have HO : Hid (s6 < s8 ∧ s8 < s9) := Lib.hid ⟨by have := Go.NR.heap_lt F1.out.h6; omega, by omega⟩
    have V0 := cell_of_row w4 s8 0 _ 70 _ h8
    have V5 := cell_of_row w4 s5 0 _ 70 _ F4.out.h5
    simp at V0 V5
    have H8 := Lib.hid h8
    have H9 := Lib.hid h9
    clear hw4 hs8 hs9 hb4 h8 h9 F1
    obtain ⟨bb, hbb⟩ : ∃ bb, (!decide (e = 0)) = bb := ⟨_, rfl⟩
    rw [hbb]
    have HBB := Lib.hid hbb
    clear hbb
    cases bb
    · go_upto_region 7 with fail
      clear V0 V5 H8 H9 HO
      have FN := F4
      have HX : Hid ((E, A, N) = yng (ini r i) (r i)) := Lib.hid (by
        have := HBB.out
        simp at this
        rw [← HE.out, HR.out]
        unfold yng
        rw [if_neg (by show ¬ E < e; omega)])
      clear F4 HBB HE HR
      have hi := HI.out
      have w0 : IntKind.i64.wrap ((i : Int) + 1) = (i : Int) + 1 := wrapi (by omega) (by omega)
      have hb : i < 10 := by omega
      by_cases h0 : i = 0
      · have d1 : decide ((i : Int) + 1 < 2) = true := decide_eq_true (by omega)
        have H0 := Lib.hid h0
        clear h0 hi
        go_wp2
        go_step3
        exact ⟨rfl, ⟨i + 1, z2, z3, s5, s6, E, A, N, X, m, c, by have := H0.out; omega, FN.out, ini_next r i HI.out _ HX.out H0.out, _, _, _, _, _, _, _, _, _, _, _, _, _, _, _, _, _, _, _, _, _, _, _, _, _, _, _, _, _, _, _, _, rfl⟩, by have := HI.out; simp [intOf]; omega⟩
      · have d1 : decide ((i : Int) + 1 < 2) = false := decide_eq_false (by omega)
        obtain rfl : i = 1 := by omega
        have HY : Hid ((E, A, N) = yng (yng (0, 0, 0) (r 0)) (r 1)) := HX
        have V5 := cell_of_row w4 s5 0 _ 70 _ FN.out.h5
        simp at V5
        have HZ3 : Hid (∀ cs, (w4.setRow z2 cs).heap[z3]? = some (.cells foot0 48 (0, 0))) := Lib.hid (fun cs => (Go.NR.setRow_else _ z2 _ z3 (by have := FN.out.ord; omega)).trans FN.out.h3)
        clear w0 hi hb d1 h0 HI HX
        by_cases hz : E = 0
        · have HQ : (E, A, N) = (0, 0, 0) := by
            rw [HY.out]
            refine yng_zero _ _ ?_
            rw [← HY.out]
            exact hz
          have HYZ : Hid (yng (yng (0, 0, 0) (r 0)) (r 1) = (0, 0, 0)) := Lib.hid (by rw [← HY.out]; exact HQ)
          have HW := Lib.hid FN.out.h2
          have HBE := Lib.hid FN.out.be
          have HOR := Lib.hid FN.out.ord
          have hzi : (E : Int) = 0 := by omega
          have dz : decide (E = 0) = true := decide_eq_true hz
          rw [hzi] at V5
          clear HQ hz HY FN dz hzi
          go_wp2_with (first
            | (refine wpList_store_at _ rfl 70 (.tmp 2) (.tmp 35) rfl z2 70 0 zero3 zero3 zero3 rfl rfl HW.out (show 0 + 3 ≤ 3 by omega) rfl size70 (one3 0 0 0) ?_)
            | (refine wpList_store_at _ rfl 48 (.tmp 3) (.tmp 36) rfl z3 48 0 foot0 foot0 foot0 rfl rfl (HZ3.out _) (show 0 + 3 ≤ 3 by omega) rfl size48 foot0_one ?_))
          refine bodyPost_ret (results_cell2_tmp rfl _ _ z2 z3 70 48 zero3 foot0 _ _ rfl rfl ((Go.NR.setRow_else _ z3 _ z2 (fun q => by have := HOR.out; omega)).trans (setRow_heap' _ z2 _ _ 70 HW.out)) (setRow_heap' _ z3 _ _ 48 (HZ3.out _)) size70 size48 st70 st48) rfl ?_
          refine ⟨none, 0, 0, ?_, Below.setRow (Below.setRow HBE.out (by have := HOR.out; omega) _) (by have := HOR.out; omega) _⟩
          rw [HYZ.out]
          rfl
        · have dz : decide (E = 0) = false := decide_eq_false hz
          have dz' : ((E : Int) == 0) = false := by simp; omega
          have HZ := Lib.hid hz
          clear hz
          go_upto_region 11 with fail
          clear V5 dz dz'
          have U0 := Lib.hid (cell_of_row w4 s5 0 _ 70 _ FN.out.h5)
          have U1 := Lib.hid (cell_of_row w4 s5 1 _ 70 _ FN.out.h5)
          have U2 := Lib.hid (cell_of_row w4 s5 2 _ 70 _ FN.out.h5)
          have U3 := Lib.hid (cell_of_row w4 s6 0 _ 48 _ FN.out.h6)
          have U4 := Lib.hid (cell_of_row w4 s6 1 _ 48 _ FN.out.h6)
          have U5 := Lib.hid (cell_of_row w4 s6 2 _ 48 _ FN.out.h6)
          have HZ5 : Hid (w4.drew.heap[z2]? = some (.cells zero3 70 (0, 0))) := Lib.hid FN.out.h2
          have HZ6b : Hid ((w4.drew.setRow z2 #[.int .u64 E, .int .i64 A, .int .i64 N]).heap[z3]? = some (.cells foot0 48 (0, 0))) := Lib.hid ((Go.NR.setRow_else _ z2 _ z3 (fun q => by have := FN.out.ord; omega)).trans FN.out.h3)
          have HNEs5z2 : Hid (s5 ≠ z2) := Lib.hid (fun q => by have := FN.out.ord; omega)
          have HNEs5z3 : Hid (s5 ≠ z3) := Lib.hid (fun q => by have := FN.out.ord; omega)
          have HNEs6z2 : Hid (s6 ≠ z2) := Lib.hid (fun q => by have := FN.out.ord; omega)
          have HNEs6z3 : Hid (s6 ≠ z3) := Lib.hid (fun q => by have := FN.out.ord; omega)
          refine wp_region_noPanic ?_
          refine wp_region_held_drew (S := (fun W => W.cell? ⟨s5, 0, none⟩ = some (.int .u64 E) ∧ W.cell? ⟨s5, 1, none⟩ = some (.int .i64 A) ∧ W.cell? ⟨s5, 2, none⟩ = some (.int .i64 N) ∧ W.cell? ⟨s6, 0, none⟩ = some (.int .u64 E) ∧ W.cell? ⟨s6, 1, none⟩ = some (.slice X m c) ∧ W.cell? ⟨s6, 2, none⟩ = some (.slice none 0 0))) (by kernel_rfl) ?_ (fun hHeld => ?_)
          · exact ⟨U0.out, U1.out, U2.out, U3.out, U4.out, U5.out⟩
          refine wpAnyH_take (i := 0) (oi := { dst := some 37, op := Op.load 70 (Operand.tmp 5), type := 70, pos := "super.go:88", after := #[], guard := none }) (v := ?_) rfl (by kernel_rfl) (by kernel_rfl) (by kernel_rfl) (fun _ _ _ h => h) (Or.inl ⟨by rfl, ?_⟩) (by assumption) ?_
          rotate_left
          · (intro w hSw; (try dsimp only at hSw); go_simp; try with_reducible rfl)
          try simp only [Act.put, List.setIfInBounds_toArray, List.set_cons_zero, List.set_cons_succ]
          refine wpAnyH_take (i := 1) (oi := { dst := some 38, op := Op.load 48 (Operand.tmp 6), type := 48, pos := "super.go:88", after := #[{ on := 2, ground := Ground.gcOnly Departure.lateStores }], guard := none }) (v := ?_) rfl (by kernel_rfl) (by kernel_rfl) (by kernel_rfl) (fun _ _ _ h => h) (Or.inl ⟨by rfl, ?_⟩) (by assumption) ?_
          rotate_left
          · (intro w hSw; (try dsimp only at hSw); go_simp; try with_reducible rfl)
          try simp only [Act.put, List.setIfInBounds_toArray, List.set_cons_zero, List.set_cons_succ]
          refine wpAnyH_ready (rs := [2]) (by kernel_rfl) (by simp) ?_
          refine AllReadyH.cons (o := { dst := none, op := Op.store 70 (Operand.tmp 2) (Operand.tmp 37), type := 0, pos := "super.go:88", after := #[{ on := 0, ground := Ground.data }, { on := 0, ground := Ground.phase }, { on := 1, ground := Ground.textOnly Departure.lateStores }], guard := none }) rfl (fun K hK => ?_) AllReadyH.nil
          refine oper_store_at _ 70 (.tmp 2) (.tmp 37) rfl z2 70 0 #[.int .u64 E, .int .i64 A, .int .i64 N] zero3 #[.int .u64 E, .int .i64 A, .int .i64 N] rfl rfl HZ5.out (show 0 + 3 ≤ 3 by omega) rfl size70 (one3 E A N) ?_
          refine hK.out _ _ ?_ (fun hHeld => ?_)
          · exact ⟨(World.cell?_of_block (Go.NR.setRow_else _ z2 _ s5 HNEs5z2.out)).trans U0.out, (World.cell?_of_block (Go.NR.setRow_else _ z2 _ s5 HNEs5z2.out)).trans U1.out, (World.cell?_of_block (Go.NR.setRow_else _ z2 _ s5 HNEs5z2.out)).trans U2.out, (World.cell?_of_block (Go.NR.setRow_else _ z2 _ s6 HNEs6z2.out)).trans U3.out, (World.cell?_of_block (Go.NR.setRow_else _ z2 _ s6 HNEs6z2.out)).trans U4.out, (World.cell?_of_block (Go.NR.setRow_else _ z2 _ s6 HNEs6z2.out)).trans U5.out⟩
          clear hK K
          try simp only [Act.put, List.setIfInBounds_toArray, List.set_cons_zero, List.set_cons_succ]
          refine wpAnyH_ready (rs := [3]) (by kernel_rfl) (by simp) ?_
          refine AllReadyH.cons (o := { dst := none, op := Op.store 48 (Operand.tmp 3) (Operand.tmp 38), type := 0, pos := "super.go:88", after := #[{ on := 1, ground := Ground.data }, { on := 2, ground := Ground.chain }, { on := 0, ground := Ground.phase }, { on := 1, ground := Ground.phase }, { on := 2, ground := Ground.phase }], guard := none }) rfl (fun K hK => ?_) AllReadyH.nil
          refine oper_store_at _ 48 (.tmp 3) (.tmp 38) rfl z3 48 0 #[.int .u64 E, .slice X m c, .slice none 0 0] foot0 #[.int .u64 E, .slice X m c, .slice none 0 0] rfl rfl HZ6b.out (show 0 + 3 ≤ 3 by omega) rfl size48 (oneS E X m c) ?_
          refine hK.out _ _ ?_ (fun hHeld => ?_)
          · exact ⟨(World.cell?_of_block ((Go.NR.setRow_else _ z3 _ s5 HNEs5z3.out).trans (Go.NR.setRow_else _ z2 _ s5 HNEs5z2.out))).trans U0.out, (World.cell?_of_block ((Go.NR.setRow_else _ z3 _ s5 HNEs5z3.out).trans (Go.NR.setRow_else _ z2 _ s5 HNEs5z2.out))).trans U1.out, (World.cell?_of_block ((Go.NR.setRow_else _ z3 _ s5 HNEs5z3.out).trans (Go.NR.setRow_else _ z2 _ s5 HNEs5z2.out))).trans U2.out, (World.cell?_of_block ((Go.NR.setRow_else _ z3 _ s6 HNEs6z3.out).trans (Go.NR.setRow_else _ z2 _ s6 HNEs6z2.out))).trans U3.out, (World.cell?_of_block ((Go.NR.setRow_else _ z3 _ s6 HNEs6z3.out).trans (Go.NR.setRow_else _ z2 _ s6 HNEs6z2.out))).trans U4.out, (World.cell?_of_block ((Go.NR.setRow_else _ z3 _ s6 HNEs6z3.out).trans (Go.NR.setRow_else _ z2 _ s6 HNEs6z2.out))).trans U5.out⟩
          clear hK K
          try simp only [Act.put, List.setIfInBounds_toArray, List.set_cons_zero, List.set_cons_succ]
          refine wpAnyH_take (i := 4) (oi := { dst := some 4, op := Op.assign (Operand.const (Value.int IntKind.i64 0)), type := 51, pos := "super.go:88", after := #[{ on := 3, ground := Ground.chain }, { on := 0, ground := Ground.phase }, { on := 1, ground := Ground.phase }, { on := 2, ground := Ground.phase }, { on := 3, ground := Ground.phase }], guard := none }) (v := ?_) rfl (by kernel_rfl) (by kernel_rfl) (by kernel_rfl) (fun _ _ _ h => h) (Or.inl ⟨by rfl, ?_⟩) (by assumption) ?_
          rotate_left
          · (intro w hSw; (try dsimp only at hSw); go_simp; try with_reducible rfl)
          try simp only [Act.put, List.setIfInBounds_toArray, List.set_cons_zero, List.set_cons_succ]
          refine wpAnyH_done (by kernel_rfl) ?_ _
          refine NoPanic.normal ?_
          clear U0 U1 U2 U3 U4 U5
          go_wp2_with fail
          refine bodyPost_ret (results_cell2_tmp rfl _ _ z2 z3 70 48 #[.int .u64 E, .int .i64 A, .int .i64 N] #[.int .u64 E, .slice X m c, .slice none 0 0] _ _ rfl rfl ((Go.NR.setRow_else _ z3 _ z2 (fun q => by have := FN.out.ord; omega)).trans (setRow_heap' _ z2 _ _ 70 HZ5.out)) (setRow_heap' _ z3 _ _ 48 HZ6b.out) size70 size48 st70 st48) rfl ?_
          refine ⟨X, m, c, ?_, Below.setRow (Below.setRow FN.out.drew.be (by have := FN.out.ord; omega) _) (by have := FN.out.ord; omega) _⟩
          rw [← HY.out, if_neg (show ¬ (E, A, N).1 = 0 from HZ.out)]
          rfl
    · by_cases hlt : E < e
      · have hD : decide (E < e) = true := decide_eq_true hlt
        have hD' : decide ((E : Int) < (e : Int)) = true := decide_eq_true (by omega)
        have HLT := Lib.hid hlt
        clear hlt
        go_upto_region 6 with fail
        clear V0 V5 hD hD'
        have U0 := Lib.hid (cell_of_row w4 s8 0 _ 70 _ H8.out)
        have U1 := Lib.hid (cell_of_row w4 s8 1 _ 70 _ H8.out)
        have U2 := Lib.hid (cell_of_row w4 s8 2 _ 70 _ H8.out)
        have U3 := Lib.hid (cell_of_row w4 s9 0 _ 48 _ H9.out)
        have U4 := Lib.hid (cell_of_row w4 s9 1 _ 48 _ H9.out)
        have U5 := Lib.hid (cell_of_row w4 s9 2 _ 48 _ H9.out)
        have HZ5 : Hid (w4.drew.heap[s5]? = some (.cells #[.int .u64 E, .int .i64 A, .int .i64 N] 70 (0, 0))) := Lib.hid F4.out.h5
        have HZ6b : Hid ((w4.drew.setRow s5 #[.int .u64 e, .int .i64 a, .int .i64 n]).heap[s6]? = some (.cells #[.int .u64 E, .slice X m c, .slice none 0 0] 48 (0, 0))) := Lib.hid ((Go.NR.setRow_else _ s5 _ s6 (fun q => by have := F4.out.ord; have := HO.out; omega)).trans F4.out.h6)
        have HNEs8s5 : Hid (s8 ≠ s5) := Lib.hid (fun q => by have := F4.out.ord; have := HO.out; omega)
        have HNEs8s6 : Hid (s8 ≠ s6) := Lib.hid (fun q => by have := F4.out.ord; have := HO.out; omega)
        have HNEs9s5 : Hid (s9 ≠ s5) := Lib.hid (fun q => by have := F4.out.ord; have := HO.out; omega)
        have HNEs9s6 : Hid (s9 ≠ s6) := Lib.hid (fun q => by have := F4.out.ord; have := HO.out; omega)
        refine wp_region_noPanic ?_
        refine wp_region_held_drew (S := (fun W => W.cell? ⟨s8, 0, none⟩ = some (.int .u64 e) ∧ W.cell? ⟨s8, 1, none⟩ = some (.int .i64 a) ∧ W.cell? ⟨s8, 2, none⟩ = some (.int .i64 n) ∧ W.cell? ⟨s9, 0, none⟩ = some (.int .u64 e) ∧ W.cell? ⟨s9, 1, none⟩ = some (.slice Y m' c') ∧ W.cell? ⟨s9, 2, none⟩ = some (.slice none 0 0))) (by kernel_rfl) ?_ (fun hHeld => ?_)
        · exact ⟨U0.out, U1.out, U2.out, U3.out, U4.out, U5.out⟩
        refine wpAnyH_take (i := 0) (oi := { dst := some 26, op := Op.load 70 (Operand.tmp 8), type := 70, pos := "super.go:79", after := #[], guard := none }) (v := ?_) rfl (by kernel_rfl) (by kernel_rfl) (by kernel_rfl) (fun _ _ _ h => h) (Or.inl ⟨by rfl, ?_⟩) (by assumption) ?_
        rotate_left
        · (intro w hSw; (try dsimp only at hSw); go_simp; try with_reducible rfl)
        try simp only [Act.put, List.setIfInBounds_toArray, List.set_cons_zero, List.set_cons_succ]
        refine wpAnyH_take (i := 1) (oi := { dst := some 27, op := Op.load 48 (Operand.tmp 9), type := 48, pos := "super.go:79", after := #[{ on := 2, ground := Ground.gcOnly Departure.lateStores }], guard := none }) (v := ?_) rfl (by kernel_rfl) (by kernel_rfl) (by kernel_rfl) (fun _ _ _ h => h) (Or.inl ⟨by rfl, ?_⟩) (by assumption) ?_
        rotate_left
        · (intro w hSw; (try dsimp only at hSw); go_simp; try with_reducible rfl)
        try simp only [Act.put, List.setIfInBounds_toArray, List.set_cons_zero, List.set_cons_succ]
        refine wpAnyH_ready (rs := [2]) (by kernel_rfl) (by simp) ?_
        refine AllReadyH.cons (o := { dst := none, op := Op.store 70 (Operand.tmp 5) (Operand.tmp 26), type := 0, pos := "super.go:79", after := #[{ on := 0, ground := Ground.data }, { on := 0, ground := Ground.phase }, { on := 1, ground := Ground.textOnly Departure.lateStores }], guard := none }) rfl (fun K hK => ?_) AllReadyH.nil
        refine oper_store_at _ 70 (.tmp 5) (.tmp 26) rfl s5 70 0 #[.int .u64 e, .int .i64 a, .int .i64 n] #[.int .u64 E, .int .i64 A, .int .i64 N] #[.int .u64 e, .int .i64 a, .int .i64 n] rfl rfl HZ5.out (show 0 + 3 ≤ 3 by omega) rfl size70 (one3 e a n) ?_
        refine hK.out _ _ ?_ (fun hHeld => ?_)
        · exact ⟨(World.cell?_of_block (Go.NR.setRow_else _ s5 _ s8 HNEs8s5.out)).trans U0.out, (World.cell?_of_block (Go.NR.setRow_else _ s5 _ s8 HNEs8s5.out)).trans U1.out, (World.cell?_of_block (Go.NR.setRow_else _ s5 _ s8 HNEs8s5.out)).trans U2.out, (World.cell?_of_block (Go.NR.setRow_else _ s5 _ s9 HNEs9s5.out)).trans U3.out, (World.cell?_of_block (Go.NR.setRow_else _ s5 _ s9 HNEs9s5.out)).trans U4.out, (World.cell?_of_block (Go.NR.setRow_else _ s5 _ s9 HNEs9s5.out)).trans U5.out⟩
        clear hK K
        try simp only [Act.put, List.setIfInBounds_toArray, List.set_cons_zero, List.set_cons_succ]
        refine wpAnyH_ready (rs := [3]) (by kernel_rfl) (by simp) ?_
        refine AllReadyH.cons (o := { dst := none, op := Op.store 48 (Operand.tmp 6) (Operand.tmp 27), type := 0, pos := "super.go:79", after := #[{ on := 1, ground := Ground.data }, { on := 2, ground := Ground.chain }, { on := 0, ground := Ground.phase }, { on := 1, ground := Ground.phase }, { on := 2, ground := Ground.phase }], guard := none }) rfl (fun K hK => ?_) AllReadyH.nil
        refine oper_store_at _ 48 (.tmp 6) (.tmp 27) rfl s6 48 0 #[.int .u64 e, .slice Y m' c', .slice none 0 0] #[.int .u64 E, .slice X m c, .slice none 0 0] #[.int .u64 e, .slice Y m' c', .slice none 0 0] rfl rfl HZ6b.out (show 0 + 3 ≤ 3 by omega) rfl size48 (oneS e Y m' c') ?_
        refine hK.out _ _ ?_ (fun hHeld => ?_)
        · exact ⟨(World.cell?_of_block ((Go.NR.setRow_else _ s6 _ s8 HNEs8s6.out).trans (Go.NR.setRow_else _ s5 _ s8 HNEs8s5.out))).trans U0.out, (World.cell?_of_block ((Go.NR.setRow_else _ s6 _ s8 HNEs8s6.out).trans (Go.NR.setRow_else _ s5 _ s8 HNEs8s5.out))).trans U1.out, (World.cell?_of_block ((Go.NR.setRow_else _ s6 _ s8 HNEs8s6.out).trans (Go.NR.setRow_else _ s5 _ s8 HNEs8s5.out))).trans U2.out, (World.cell?_of_block ((Go.NR.setRow_else _ s6 _ s9 HNEs9s6.out).trans (Go.NR.setRow_else _ s5 _ s9 HNEs9s5.out))).trans U3.out, (World.cell?_of_block ((Go.NR.setRow_else _ s6 _ s9 HNEs9s6.out).trans (Go.NR.setRow_else _ s5 _ s9 HNEs9s5.out))).trans U4.out, (World.cell?_of_block ((Go.NR.setRow_else _ s6 _ s9 HNEs9s6.out).trans (Go.NR.setRow_else _ s5 _ s9 HNEs9s5.out))).trans U5.out⟩
        clear hK K
        try simp only [Act.put, List.setIfInBounds_toArray, List.set_cons_zero, List.set_cons_succ]
        refine wpAnyH_done (by kernel_rfl) ?_ _
        refine NoPanic.normal ?_
        clear U0 U1 U2 U3 U4 U5
        obtain ⟨w5, hw5⟩ : ∃ w5, ((w4.drew.setRow s5 #[.int .u64 e, .int .i64 a, .int .i64 n]).setRow s6 #[.int .u64 e, .slice Y m' c', .slice none 0 0]) = w5 := ⟨_, rfl⟩
        have FN : Hid (FS w w5 z2 z3 s5 s6 e a n Y m' c') := Lib.hid (by rw [← hw5]; exact F4.out.drew.turn e a n Y m' c')
        go_upto_region 7 with fail
        rw [hw5]
        have HX : Hid ((e, a, n) = yng (ini r i) (r i)) := Lib.hid (by
          rw [← HE.out, HR.out]
          unfold yng
          rw [if_pos (show (E, A, N).1 < (e, a, n).1 from HLT.out)])
        clear hw5 F4 HBB HE HR HLT H8 H9 HO HZ5 HZ6b
        have hi := HI.out
        have w0 : IntKind.i64.wrap ((i : Int) + 1) = (i : Int) + 1 := wrapi (by omega) (by omega)
        have hb : i < 10 := by omega
        by_cases h0 : i = 0
        · have d1 : decide ((i : Int) + 1 < 2) = true := decide_eq_true (by omega)
          have H0 := Lib.hid h0
          clear h0 hi
          go_wp2
          go_step3
          exact ⟨rfl, ⟨i + 1, z2, z3, s5, s6, e, a, n, Y, m', c', by have := H0.out; omega, FN.out, ini_next r i HI.out _ HX.out H0.out, _, _, _, _, _, _, _, _, _, _, _, _, _, _, _, _, _, _, _, _, _, _, _, _, _, _, _, _, _, _, _, _, rfl⟩, by have := HI.out; simp [intOf]; omega⟩
        · have d1 : decide ((i : Int) + 1 < 2) = false := decide_eq_false (by omega)
          obtain rfl : i = 1 := by omega
          have HY : Hid ((e, a, n) = yng (yng (0, 0, 0) (r 0)) (r 1)) := HX
          have V5 := cell_of_row w5 s5 0 _ 70 _ FN.out.h5
          simp at V5
          have HZ3 : Hid (∀ cs, (w5.setRow z2 cs).heap[z3]? = some (.cells foot0 48 (0, 0))) := Lib.hid (fun cs => (Go.NR.setRow_else _ z2 _ z3 (by have := FN.out.ord; omega)).trans FN.out.h3)
          clear w0 hi hb d1 h0 HI HX
          by_cases hz : e = 0
          · have HQ : (e, a, n) = (0, 0, 0) := by
              rw [HY.out]
              refine yng_zero _ _ ?_
              rw [← HY.out]
              exact hz
            have HYZ : Hid (yng (yng (0, 0, 0) (r 0)) (r 1) = (0, 0, 0)) := Lib.hid (by rw [← HY.out]; exact HQ)
            have HW := Lib.hid FN.out.h2
            have HBE := Lib.hid FN.out.be
            have HOR := Lib.hid FN.out.ord
            have hzi : (e : Int) = 0 := by omega
            have dz : decide (e = 0) = true := decide_eq_true hz
            rw [hzi] at V5
            clear HQ hz HY FN dz hzi
            go_wp2_with (first
              | (refine wpList_store_at _ rfl 70 (.tmp 2) (.tmp 35) rfl z2 70 0 zero3 zero3 zero3 rfl rfl HW.out (show 0 + 3 ≤ 3 by omega) rfl size70 (one3 0 0 0) ?_)
              | (refine wpList_store_at _ rfl 48 (.tmp 3) (.tmp 36) rfl z3 48 0 foot0 foot0 foot0 rfl rfl (HZ3.out _) (show 0 + 3 ≤ 3 by omega) rfl size48 foot0_one ?_))
            refine bodyPost_ret (results_cell2_tmp rfl _ _ z2 z3 70 48 zero3 foot0 _ _ rfl rfl ((Go.NR.setRow_else _ z3 _ z2 (fun q => by have := HOR.out; omega)).trans (setRow_heap' _ z2 _ _ 70 HW.out)) (setRow_heap' _ z3 _ _ 48 (HZ3.out _)) size70 size48 st70 st48) rfl ?_
            refine ⟨none, 0, 0, ?_, Below.setRow (Below.setRow HBE.out (by have := HOR.out; omega) _) (by have := HOR.out; omega) _⟩
            rw [HYZ.out]
            rfl
          · have dz : decide (e = 0) = false := decide_eq_false hz
            have dz' : ((e : Int) == 0) = false := by simp; omega
            have HZ := Lib.hid hz
            clear hz
            go_upto_region 11 with fail
            clear V5 dz dz'
            have U0 := Lib.hid (cell_of_row w5 s5 0 _ 70 _ FN.out.h5)
            have U1 := Lib.hid (cell_of_row w5 s5 1 _ 70 _ FN.out.h5)
            have U2 := Lib.hid (cell_of_row w5 s5 2 _ 70 _ FN.out.h5)
            have U3 := Lib.hid (cell_of_row w5 s6 0 _ 48 _ FN.out.h6)
            have U4 := Lib.hid (cell_of_row w5 s6 1 _ 48 _ FN.out.h6)
            have U5 := Lib.hid (cell_of_row w5 s6 2 _ 48 _ FN.out.h6)
            have HZ5 : Hid (w5.drew.heap[z2]? = some (.cells zero3 70 (0, 0))) := Lib.hid FN.out.h2
            have HZ6b : Hid ((w5.drew.setRow z2 #[.int .u64 e, .int .i64 a, .int .i64 n]).heap[z3]? = some (.cells foot0 48 (0, 0))) := Lib.hid ((Go.NR.setRow_else _ z2 _ z3 (fun q => by have := FN.out.ord; omega)).trans FN.out.h3)
            have HNEs5z2 : Hid (s5 ≠ z2) := Lib.hid (fun q => by have := FN.out.ord; omega)
            have HNEs5z3 : Hid (s5 ≠ z3) := Lib.hid (fun q => by have := FN.out.ord; omega)
            have HNEs6z2 : Hid (s6 ≠ z2) := Lib.hid (fun q => by have := FN.out.ord; omega)
            have HNEs6z3 : Hid (s6 ≠ z3) := Lib.hid (fun q => by have := FN.out.ord; omega)
            refine wp_region_noPanic ?_
            refine wp_region_held_drew (S := (fun W => W.cell? ⟨s5, 0, none⟩ = some (.int .u64 e) ∧ W.cell? ⟨s5, 1, none⟩ = some (.int .i64 a) ∧ W.cell? ⟨s5, 2, none⟩ = some (.int .i64 n) ∧ W.cell? ⟨s6, 0, none⟩ = some (.int .u64 e) ∧ W.cell? ⟨s6, 1, none⟩ = some (.slice Y m' c') ∧ W.cell? ⟨s6, 2, none⟩ = some (.slice none 0 0))) (by kernel_rfl) ?_ (fun hHeld => ?_)
            · exact ⟨U0.out, U1.out, U2.out, U3.out, U4.out, U5.out⟩
            refine wpAnyH_take (i := 0) (oi := { dst := some 37, op := Op.load 70 (Operand.tmp 5), type := 70, pos := "super.go:88", after := #[], guard := none }) (v := ?_) rfl (by kernel_rfl) (by kernel_rfl) (by kernel_rfl) (fun _ _ _ h => h) (Or.inl ⟨by rfl, ?_⟩) (by assumption) ?_
            rotate_left
            · (intro w hSw; (try dsimp only at hSw); go_simp; try with_reducible rfl)
            try simp only [Act.put, List.setIfInBounds_toArray, List.set_cons_zero, List.set_cons_succ]
            refine wpAnyH_take (i := 1) (oi := { dst := some 38, op := Op.load 48 (Operand.tmp 6), type := 48, pos := "super.go:88", after := #[{ on := 2, ground := Ground.gcOnly Departure.lateStores }], guard := none }) (v := ?_) rfl (by kernel_rfl) (by kernel_rfl) (by kernel_rfl) (fun _ _ _ h => h) (Or.inl ⟨by rfl, ?_⟩) (by assumption) ?_
            rotate_left
            · (intro w hSw; (try dsimp only at hSw); go_simp; try with_reducible rfl)
            try simp only [Act.put, List.setIfInBounds_toArray, List.set_cons_zero, List.set_cons_succ]
            refine wpAnyH_ready (rs := [2]) (by kernel_rfl) (by simp) ?_
            refine AllReadyH.cons (o := { dst := none, op := Op.store 70 (Operand.tmp 2) (Operand.tmp 37), type := 0, pos := "super.go:88", after := #[{ on := 0, ground := Ground.data }, { on := 0, ground := Ground.phase }, { on := 1, ground := Ground.textOnly Departure.lateStores }], guard := none }) rfl (fun K hK => ?_) AllReadyH.nil
            refine oper_store_at _ 70 (.tmp 2) (.tmp 37) rfl z2 70 0 #[.int .u64 e, .int .i64 a, .int .i64 n] zero3 #[.int .u64 e, .int .i64 a, .int .i64 n] rfl rfl HZ5.out (show 0 + 3 ≤ 3 by omega) rfl size70 (one3 e a n) ?_
            refine hK.out _ _ ?_ (fun hHeld => ?_)
            · exact ⟨(World.cell?_of_block (Go.NR.setRow_else _ z2 _ s5 HNEs5z2.out)).trans U0.out, (World.cell?_of_block (Go.NR.setRow_else _ z2 _ s5 HNEs5z2.out)).trans U1.out, (World.cell?_of_block (Go.NR.setRow_else _ z2 _ s5 HNEs5z2.out)).trans U2.out, (World.cell?_of_block (Go.NR.setRow_else _ z2 _ s6 HNEs6z2.out)).trans U3.out, (World.cell?_of_block (Go.NR.setRow_else _ z2 _ s6 HNEs6z2.out)).trans U4.out, (World.cell?_of_block (Go.NR.setRow_else _ z2 _ s6 HNEs6z2.out)).trans U5.out⟩
            clear hK K
            try simp only [Act.put, List.setIfInBounds_toArray, List.set_cons_zero, List.set_cons_succ]
            refine wpAnyH_ready (rs := [3]) (by kernel_rfl) (by simp) ?_
            refine AllReadyH.cons (o := { dst := none, op := Op.store 48 (Operand.tmp 3) (Operand.tmp 38), type := 0, pos := "super.go:88", after := #[{ on := 1, ground := Ground.data }, { on := 2, ground := Ground.chain }, { on := 0, ground := Ground.phase }, { on := 1, ground := Ground.phase }, { on := 2, ground := Ground.phase }], guard := none }) rfl (fun K hK => ?_) AllReadyH.nil
            refine oper_store_at _ 48 (.tmp 3) (.tmp 38) rfl z3 48 0 #[.int .u64 e, .slice Y m' c', .slice none 0 0] foot0 #[.int .u64 e, .slice Y m' c', .slice none 0 0] rfl rfl HZ6b.out (show 0 + 3 ≤ 3 by omega) rfl size48 (oneS e Y m' c') ?_
            refine hK.out _ _ ?_ (fun hHeld => ?_)
            · exact ⟨(World.cell?_of_block ((Go.NR.setRow_else _ z3 _ s5 HNEs5z3.out).trans (Go.NR.setRow_else _ z2 _ s5 HNEs5z2.out))).trans U0.out, (World.cell?_of_block ((Go.NR.setRow_else _ z3 _ s5 HNEs5z3.out).trans (Go.NR.setRow_else _ z2 _ s5 HNEs5z2.out))).trans U1.out, (World.cell?_of_block ((Go.NR.setRow_else _ z3 _ s5 HNEs5z3.out).trans (Go.NR.setRow_else _ z2 _ s5 HNEs5z2.out))).trans U2.out, (World.cell?_of_block ((Go.NR.setRow_else _ z3 _ s6 HNEs6z3.out).trans (Go.NR.setRow_else _ z2 _ s6 HNEs6z2.out))).trans U3.out, (World.cell?_of_block ((Go.NR.setRow_else _ z3 _ s6 HNEs6z3.out).trans (Go.NR.setRow_else _ z2 _ s6 HNEs6z2.out))).trans U4.out, (World.cell?_of_block ((Go.NR.setRow_else _ z3 _ s6 HNEs6z3.out).trans (Go.NR.setRow_else _ z2 _ s6 HNEs6z2.out))).trans U5.out⟩
            clear hK K
            try simp only [Act.put, List.setIfInBounds_toArray, List.set_cons_zero, List.set_cons_succ]
            refine wpAnyH_take (i := 4) (oi := { dst := some 4, op := Op.assign (Operand.const (Value.int IntKind.i64 0)), type := 51, pos := "super.go:88", after := #[{ on := 3, ground := Ground.chain }, { on := 0, ground := Ground.phase }, { on := 1, ground := Ground.phase }, { on := 2, ground := Ground.phase }, { on := 3, ground := Ground.phase }], guard := none }) (v := ?_) rfl (by kernel_rfl) (by kernel_rfl) (by kernel_rfl) (fun _ _ _ h => h) (Or.inl ⟨by rfl, ?_⟩) (by assumption) ?_
            rotate_left
            · (intro w hSw; (try dsimp only at hSw); go_simp; try with_reducible rfl)
            try simp only [Act.put, List.setIfInBounds_toArray, List.set_cons_zero, List.set_cons_succ]
            refine wpAnyH_done (by kernel_rfl) ?_ _
            refine NoPanic.normal ?_
            clear U0 U1 U2 U3 U4 U5
            go_wp2_with fail
            refine bodyPost_ret (results_cell2_tmp rfl _ _ z2 z3 70 48 #[.int .u64 e, .int .i64 a, .int .i64 n] #[.int .u64 e, .slice Y m' c', .slice none 0 0] _ _ rfl rfl ((Go.NR.setRow_else _ z3 _ z2 (fun q => by have := FN.out.ord; omega)).trans (setRow_heap' _ z2 _ _ 70 HZ5.out)) (setRow_heap' _ z3 _ _ 48 HZ6b.out) size70 size48 st70 st48) rfl ?_
            refine ⟨Y, m', c', ?_, Below.setRow (Below.setRow FN.out.drew.be (by have := FN.out.ord; omega) _) (by have := FN.out.ord; omega) _⟩
            rw [← HY.out, if_neg (show ¬ (e, a, n).1 = 0 from HZ.out)]
            rfl
      · have hD : decide (E < e) = false := decide_eq_false hlt
        have hD' : decide ((E : Int) < (e : Int)) = false := decide_eq_false (by omega)
        have HLT := Lib.hid hlt
        clear hlt
        go_upto_region 7 with fail
        clear V0 V5 H8 H9 HO hD hD'
        have FN := F4
        have HX : Hid ((E, A, N) = yng (ini r i) (r i)) := Lib.hid (by
          rw [← HE.out, HR.out]
          unfold yng
          rw [if_neg (show ¬ (E, A, N).1 < (e, a, n).1 from HLT.out)])
        clear F4 HBB HE HR HLT
        have hi := HI.out
        have w0 : IntKind.i64.wrap ((i : Int) + 1) = (i : Int) + 1 := wrapi (by omega) (by omega)
        have hb : i < 10 := by omega
        by_cases h0 : i = 0
        · have d1 : decide ((i : Int) + 1 < 2) = true := decide_eq_true (by omega)
          have H0 := Lib.hid h0
          clear h0 hi
          go_wp2
          go_step3
          exact ⟨rfl, ⟨i + 1, z2, z3, s5, s6, E, A, N, X, m, c, by have := H0.out; omega, FN.out, ini_next r i HI.out _ HX.out H0.out, _, _, _, _, _, _, _, _, _, _, _, _, _, _, _, _, _, _, _, _, _, _, _, _, _, _, _, _, _, _, _, _, rfl⟩, by have := HI.out; simp [intOf]; omega⟩
        · have d1 : decide ((i : Int) + 1 < 2) = false := decide_eq_false (by omega)
          obtain rfl : i = 1 := by omega
          have HY : Hid ((E, A, N) = yng (yng (0, 0, 0) (r 0)) (r 1)) := HX
          have V5 := cell_of_row w4 s5 0 _ 70 _ FN.out.h5
          simp at V5
          have HZ3 : Hid (∀ cs, (w4.setRow z2 cs).heap[z3]? = some (.cells foot0 48 (0, 0))) := Lib.hid (fun cs => (Go.NR.setRow_else _ z2 _ z3 (by have := FN.out.ord; omega)).trans FN.out.h3)
          clear w0 hi hb d1 h0 HI HX
          by_cases hz : E = 0
          · have HQ : (E, A, N) = (0, 0, 0) := by
              rw [HY.out]
              refine yng_zero _ _ ?_
              rw [← HY.out]
              exact hz
            have HYZ : Hid (yng (yng (0, 0, 0) (r 0)) (r 1) = (0, 0, 0)) := Lib.hid (by rw [← HY.out]; exact HQ)
            have HW := Lib.hid FN.out.h2
            have HBE := Lib.hid FN.out.be
            have HOR := Lib.hid FN.out.ord
            have hzi : (E : Int) = 0 := by omega
            have dz : decide (E = 0) = true := decide_eq_true hz
            rw [hzi] at V5
            clear HQ hz HY FN dz hzi
            go_wp2_with (first
              | (refine wpList_store_at _ rfl 70 (.tmp 2) (.tmp 35) rfl z2 70 0 zero3 zero3 zero3 rfl rfl HW.out (show 0 + 3 ≤ 3 by omega) rfl size70 (one3 0 0 0) ?_)
              | (refine wpList_store_at _ rfl 48 (.tmp 3) (.tmp 36) rfl z3 48 0 foot0 foot0 foot0 rfl rfl (HZ3.out _) (show 0 + 3 ≤ 3 by omega) rfl size48 foot0_one ?_))
            refine bodyPost_ret (results_cell2_tmp rfl _ _ z2 z3 70 48 zero3 foot0 _ _ rfl rfl ((Go.NR.setRow_else _ z3 _ z2 (fun q => by have := HOR.out; omega)).trans (setRow_heap' _ z2 _ _ 70 HW.out)) (setRow_heap' _ z3 _ _ 48 (HZ3.out _)) size70 size48 st70 st48) rfl ?_
            refine ⟨none, 0, 0, ?_, Below.setRow (Below.setRow HBE.out (by have := HOR.out; omega) _) (by have := HOR.out; omega) _⟩
            rw [HYZ.out]
            rfl
          · have dz : decide (E = 0) = false := decide_eq_false hz
            have dz' : ((E : Int) == 0) = false := by simp; omega
            have HZ := Lib.hid hz
            clear hz
            go_upto_region 11 with fail
            clear V5 dz dz'
            have U0 := Lib.hid (cell_of_row w4 s5 0 _ 70 _ FN.out.h5)
            have U1 := Lib.hid (cell_of_row w4 s5 1 _ 70 _ FN.out.h5)
            have U2 := Lib.hid (cell_of_row w4 s5 2 _ 70 _ FN.out.h5)
            have U3 := Lib.hid (cell_of_row w4 s6 0 _ 48 _ FN.out.h6)
            have U4 := Lib.hid (cell_of_row w4 s6 1 _ 48 _ FN.out.h6)
            have U5 := Lib.hid (cell_of_row w4 s6 2 _ 48 _ FN.out.h6)
            have HZ5 : Hid (w4.drew.heap[z2]? = some (.cells zero3 70 (0, 0))) := Lib.hid FN.out.h2
            have HZ6b : Hid ((w4.drew.setRow z2 #[.int .u64 E, .int .i64 A, .int .i64 N]).heap[z3]? = some (.cells foot0 48 (0, 0))) := Lib.hid ((Go.NR.setRow_else _ z2 _ z3 (fun q => by have := FN.out.ord; omega)).trans FN.out.h3)
            have HNEs5z2 : Hid (s5 ≠ z2) := Lib.hid (fun q => by have := FN.out.ord; omega)
            have HNEs5z3 : Hid (s5 ≠ z3) := Lib.hid (fun q => by have := FN.out.ord; omega)
            have HNEs6z2 : Hid (s6 ≠ z2) := Lib.hid (fun q => by have := FN.out.ord; omega)
            have HNEs6z3 : Hid (s6 ≠ z3) := Lib.hid (fun q => by have := FN.out.ord; omega)
            refine wp_region_noPanic ?_
            refine wp_region_held_drew (S := (fun W => W.cell? ⟨s5, 0, none⟩ = some (.int .u64 E) ∧ W.cell? ⟨s5, 1, none⟩ = some (.int .i64 A) ∧ W.cell? ⟨s5, 2, none⟩ = some (.int .i64 N) ∧ W.cell? ⟨s6, 0, none⟩ = some (.int .u64 E) ∧ W.cell? ⟨s6, 1, none⟩ = some (.slice X m c) ∧ W.cell? ⟨s6, 2, none⟩ = some (.slice none 0 0))) (by kernel_rfl) ?_ (fun hHeld => ?_)
            · exact ⟨U0.out, U1.out, U2.out, U3.out, U4.out, U5.out⟩
            refine wpAnyH_take (i := 0) (oi := { dst := some 37, op := Op.load 70 (Operand.tmp 5), type := 70, pos := "super.go:88", after := #[], guard := none }) (v := ?_) rfl (by kernel_rfl) (by kernel_rfl) (by kernel_rfl) (fun _ _ _ h => h) (Or.inl ⟨by rfl, ?_⟩) (by assumption) ?_
            rotate_left
            · (intro w hSw; (try dsimp only at hSw); go_simp; try with_reducible rfl)
            try simp only [Act.put, List.setIfInBounds_toArray, List.set_cons_zero, List.set_cons_succ]
            refine wpAnyH_take (i := 1) (oi := { dst := some 38, op := Op.load 48 (Operand.tmp 6), type := 48, pos := "super.go:88", after := #[{ on := 2, ground := Ground.gcOnly Departure.lateStores }], guard := none }) (v := ?_) rfl (by kernel_rfl) (by kernel_rfl) (by kernel_rfl) (fun _ _ _ h => h) (Or.inl ⟨by rfl, ?_⟩) (by assumption) ?_
            rotate_left
            · (intro w hSw; (try dsimp only at hSw); go_simp; try with_reducible rfl)
            try simp only [Act.put, List.setIfInBounds_toArray, List.set_cons_zero, List.set_cons_succ]
            refine wpAnyH_ready (rs := [2]) (by kernel_rfl) (by simp) ?_
            refine AllReadyH.cons (o := { dst := none, op := Op.store 70 (Operand.tmp 2) (Operand.tmp 37), type := 0, pos := "super.go:88", after := #[{ on := 0, ground := Ground.data }, { on := 0, ground := Ground.phase }, { on := 1, ground := Ground.textOnly Departure.lateStores }], guard := none }) rfl (fun K hK => ?_) AllReadyH.nil
            refine oper_store_at _ 70 (.tmp 2) (.tmp 37) rfl z2 70 0 #[.int .u64 E, .int .i64 A, .int .i64 N] zero3 #[.int .u64 E, .int .i64 A, .int .i64 N] rfl rfl HZ5.out (show 0 + 3 ≤ 3 by omega) rfl size70 (one3 E A N) ?_
            refine hK.out _ _ ?_ (fun hHeld => ?_)
            · exact ⟨(World.cell?_of_block (Go.NR.setRow_else _ z2 _ s5 HNEs5z2.out)).trans U0.out, (World.cell?_of_block (Go.NR.setRow_else _ z2 _ s5 HNEs5z2.out)).trans U1.out, (World.cell?_of_block (Go.NR.setRow_else _ z2 _ s5 HNEs5z2.out)).trans U2.out, (World.cell?_of_block (Go.NR.setRow_else _ z2 _ s6 HNEs6z2.out)).trans U3.out, (World.cell?_of_block (Go.NR.setRow_else _ z2 _ s6 HNEs6z2.out)).trans U4.out, (World.cell?_of_block (Go.NR.setRow_else _ z2 _ s6 HNEs6z2.out)).trans U5.out⟩
            clear hK K
            try simp only [Act.put, List.setIfInBounds_toArray, List.set_cons_zero, List.set_cons_succ]
            refine wpAnyH_ready (rs := [3]) (by kernel_rfl) (by simp) ?_
            refine AllReadyH.cons (o := { dst := none, op := Op.store 48 (Operand.tmp 3) (Operand.tmp 38), type := 0, pos := "super.go:88", after := #[{ on := 1, ground := Ground.data }, { on := 2, ground := Ground.chain }, { on := 0, ground := Ground.phase }, { on := 1, ground := Ground.phase }, { on := 2, ground := Ground.phase }], guard := none }) rfl (fun K hK => ?_) AllReadyH.nil
            refine oper_store_at _ 48 (.tmp 3) (.tmp 38) rfl z3 48 0 #[.int .u64 E, .slice X m c, .slice none 0 0] foot0 #[.int .u64 E, .slice X m c, .slice none 0 0] rfl rfl HZ6b.out (show 0 + 3 ≤ 3 by omega) rfl size48 (oneS E X m c) ?_
            refine hK.out _ _ ?_ (fun hHeld => ?_)
            · exact ⟨(World.cell?_of_block ((Go.NR.setRow_else _ z3 _ s5 HNEs5z3.out).trans (Go.NR.setRow_else _ z2 _ s5 HNEs5z2.out))).trans U0.out, (World.cell?_of_block ((Go.NR.setRow_else _ z3 _ s5 HNEs5z3.out).trans (Go.NR.setRow_else _ z2 _ s5 HNEs5z2.out))).trans U1.out, (World.cell?_of_block ((Go.NR.setRow_else _ z3 _ s5 HNEs5z3.out).trans (Go.NR.setRow_else _ z2 _ s5 HNEs5z2.out))).trans U2.out, (World.cell?_of_block ((Go.NR.setRow_else _ z3 _ s6 HNEs6z3.out).trans (Go.NR.setRow_else _ z2 _ s6 HNEs6z2.out))).trans U3.out, (World.cell?_of_block ((Go.NR.setRow_else _ z3 _ s6 HNEs6z3.out).trans (Go.NR.setRow_else _ z2 _ s6 HNEs6z2.out))).trans U4.out, (World.cell?_of_block ((Go.NR.setRow_else _ z3 _ s6 HNEs6z3.out).trans (Go.NR.setRow_else _ z2 _ s6 HNEs6z2.out))).trans U5.out⟩
            clear hK K
            try simp only [Act.put, List.setIfInBounds_toArray, List.set_cons_zero, List.set_cons_succ]
            refine wpAnyH_take (i := 4) (oi := { dst := some 4, op := Op.assign (Operand.const (Value.int IntKind.i64 0)), type := 51, pos := "super.go:88", after := #[{ on := 3, ground := Ground.chain }, { on := 0, ground := Ground.phase }, { on := 1, ground := Ground.phase }, { on := 2, ground := Ground.phase }, { on := 3, ground := Ground.phase }], guard := none }) (v := ?_) rfl (by kernel_rfl) (by kernel_rfl) (by kernel_rfl) (fun _ _ _ h => h) (Or.inl ⟨by rfl, ?_⟩) (by assumption) ?_
            rotate_left
            · (intro w hSw; (try dsimp only at hSw); go_simp; try with_reducible rfl)
            try simp only [Act.put, List.setIfInBounds_toArray, List.set_cons_zero, List.set_cons_succ]
            refine wpAnyH_done (by kernel_rfl) ?_ _
            refine NoPanic.normal ?_
            clear U0 U1 U2 U3 U4 U5
            go_wp2_with fail
            refine bodyPost_ret (results_cell2_tmp rfl _ _ z2 z3 70 48 #[.int .u64 E, .int .i64 A, .int .i64 N] #[.int .u64 E, .slice X m c, .slice none 0 0] _ _ rfl rfl ((Go.NR.setRow_else _ z3 _ z2 (fun q => by have := FN.out.ord; omega)).trans (setRow_heap' _ z2 _ _ 70 HZ5.out)) (setRow_heap' _ z3 _ _ 48 HZ6b.out) size70 size48 st70 st48) rfl ?_
            refine ⟨X, m, c, ?_, Below.setRow (Below.setRow FN.out.drew.be (by have := FN.out.ord; omega) _) (by have := FN.out.ord; omega) _⟩
            rw [← HY.out, if_neg (show ¬ (E, A, N).1 = 0 from HZ.out)]
            rfl
end Go.Proofs.Ytfblhcphbcghpaa
end

section
namespace Go.Proofs.Ytfblhcphbcghpaa
open Go.RowKit
set_option maxRecDepth 100000
theorem cat_one (T : List UInt8) (a : Nat) : cat T a 1 = blk T a := by
  unfold cat blk
  rw [Nat.mul_comm a 64, Nat.mul_one]
theorem blk_lay {T p : List UInt8} {k a : Nat} (hT : T.length = 64 * k) (ha : a < k) (hp : p.length = 64) (i : Nat) (hi : i < k) : blk (layB T a p) i = if i = a then p else blk T i := by
  unfold blk layB
  apply List.ext_getElem?
  intro j
  by_cases hj : j < 64
  · by_cases e : i = a
    · subst e
      simp [List.getElem?_append, List.getElem?_take, List.getElem?_drop, hT, hj, hp]
      have h1 : min i k = i := by omega
      have h2 : i * 64 + j - 64 * i = j := by omega
      rw [h1, if_neg (by omega), h2, if_pos hj, List.getElem?_eq_getElem (by omega)]
    · rw [if_neg e]
      rcases Nat.lt_or_gt_of_ne e with h | h
      · simp [List.getElem?_append, List.getElem?_take, List.getElem?_drop, hT, hj, hp]
        have h1 : min a k = a := by omega
        rw [h1, if_pos (by omega), if_pos (by omega)]
      · simp [List.getElem?_append, List.getElem?_take, List.getElem?_drop, hT, hj, hp]
        have h1 : min a k = a := by omega
        rw [h1, if_neg (by omega), if_neg (by omega)]
        congr 1
        omega
  · have h1 : ∀ l : List UInt8, (l.take 64)[j]? = none := fun l => by
      rw [List.getElem?_eq_none]
      rw [List.length_take]
      omega
    rw [h1]
    split
    · rw [List.getElem?_eq_none]; omega
    · rw [h1]
theorem blk_same {T p : List UInt8} {k a : Nat} (hT : T.length = 64 * k) (ha : a < k) (hp : p.length = 64) : blk (layB T a p) a = p := by
  rw [blk_lay hT ha hp a ha, if_pos rfl]
theorem blk_else {T p : List UInt8} {k a : Nat} (hT : T.length = 64 * k) (ha : a < k) (hp : p.length = 64) {i : Nat} (hi : i < k) (h : i ≠ a) : blk (layB T a p) i = blk T i := by
  rw [blk_lay hT ha hp i hi, if_neg h]
theorem lay_len {T p : List UInt8} {k a : Nat} (hT : T.length = 64 * k) (ha : a < k) (hp : p.length = 64) : (layB T a p).length = 64 * k := by
  rw [layB_len (by omega), hT]
def z64 : List UInt8 := List.replicate 64 0
theorem z64_bad : num4 z64 ≠ sumS (z64.drop 4) := by decide +kernel
theorem z64_sup : supG z64 = none := supG_no (by
  intro h
  have : (q3 z64).2.2 = 5 ∨ (q1 z64).1 = 0 := by decide +kernel
  rcases this with e | e
  · rw [e] at h
    exact absurd h.1 (by decide)
  · rw [e] at h
    exact h.2.1.1 rfl)
def three : List (List UInt8 × Int) := [([110], 1), ([115], 2), ([112], 3)]
theorem three_chk : chk three = 0 := by decide +kernel
theorem foot_len {e : Nat} : 1 ≤ (footB e three).length ∧ (footB e three).length ≤ 50 := by
  have h1 := encN_in e
  have h2 : (schB three).length = 10 := by decide +kernel
  have h3 : (encN 0).length = 1 := by decide +kernel
  rw [footB_len, h2, h3]
  omega
theorem foot_page (e : Nat) : (pageB (footB e three)).length = 64 := by
  have h := foot_len (e := e)
  rw [pageB_len (by omega)]
  have : encN (footB e three).length = [UInt8.ofNat (footB e three).length] := by
    obtain ⟨m, hm⟩ : ∃ m, (footB e three).length = m := ⟨_, rfl⟩
    rw [hm] at h ⊢
    unfold encN encF
    rw [if_pos (by omega)]
  unfold psz
  rw [this]
  simp only [List.length_singleton]
  omega
end Go.Proofs.Ytfblhcphbcghpaa
end

section
namespace Go.Proofs.Ytfblhcphbcghpaa
open Go.RowKit
set_option maxRecDepth 100000
theorem Try.threeC (w : World) : Calls Try.prog 12 #[] w fun x w' => ∃ g c, x = .returned (.slice (some ⟨g, 0, none⟩) 3 c) ∧ CR w' (some ⟨g, 0, none⟩) 3 c three ∧ Below w.heap.size w w' := by
  go_enter Try.func12, Try.ntmps12
  go_wp2
  go_ret
  have hn := heap_alloc_new w (Obj.cells #[Value.string { data := #[110] }, Value.int IntKind.i64 1, Value.string { data := #[115] }, Value.int IntKind.i64 2, Value.string { data := #[112] }, Value.int IntKind.i64 3] 103)
  refine ⟨w.heap.size, 3, rfl, ⟨rfl, Nat.le_refl _, by unfold maxLen; omega, fun j q hj => ⟨w.heap.size, rfl, ?_⟩⟩, (Below.refl _ w).alloc (Nat.le_refl _) _⟩
  have hc := fun i => cell_of_row _ w.heap.size i _ 103 _ hn
  match j, hj with
  | 0, h => cases h; exact ⟨hc 0, hc 1⟩
  | 1, h => cases h; exact ⟨hc 2, hc 3⟩
  | 2, h => cases h; exact ⟨hc 4, hc 5⟩
  | j + 3, h => simp [three] at h
def DS (w wr : World) (d k : Nat) (T : List UInt8) (q : Nat) (K : List (Nat × Obj)) : Prop := ∃ F L Q, DV wr F d k L T Q ∧ Q.length ≤ q ∧ Below w.heap.size w wr ∧ (∀ b, F b → w.heap.size ≤ b) ∧ ∀ p ∈ K, wr.heap[p.1]? = some p.2 ∧ ¬ F p.1
theorem DS.len {w wr : World} {d k : Nat} {T : List UInt8} {q : Nat} {K : List (Nat × Obj)} (h : DS w wr d k T q K) : T.length = 64 * k := by
  obtain ⟨F, L, Q, ⟨lb, cl, tb, ct, vw, ds, hd⟩, _⟩ := h
  exact hd.Tl
theorem DS.bel {w wr : World} {d k : Nat} {T : List UInt8} {q : Nat} {K : List (Nat × Obj)} (h : DS w wr d k T q K) : Below w.heap.size w wr := by
  obtain ⟨F, L, Q, _, _, hb, _⟩ := h
  exact hb
theorem DS.more {w wr : World} {d k : Nat} {T : List UInt8} {q q' : Nat} {K : List (Nat × Obj)} (h : DS w wr d k T q K) (hq : q ≤ q') : DS w wr d k T q' K := by
  obtain ⟨F, L, Q, h1, h2, h3⟩ := h
  exact ⟨F, L, Q, h1, Nat.le_trans h2 hq, h3⟩
theorem DS.get {w wr : World} {d k : Nat} {T : List UInt8} {q : Nat} {K : List (Nat × Obj)} (h : DS w wr d k T q K) (n : Nat) {b : Nat} {o : Obj} (hn : K[n]? = some (b, o)) : wr.heap[b]? = some o := by
  obtain ⟨F, L, Q, _, _, _, _, hk⟩ := h
  exact (hk _ (List.mem_of_getElem? hn)).1
theorem DS.below {w wr w' : World} {d k : Nat} {T : List UInt8} {q : Nat} {K : List (Nat × Obj)} (h : DS w wr d k T q K) (hb : Below wr.heap.size wr w') : DS w w' d k T q K := by
  obtain ⟨F, L, Q, h1, h2, h3, h4, hk⟩ := h
  exact ⟨F, L, Q, h1.below hb, h2, h3.trans (hb.mono h3.size), h4, fun p hp => ⟨(hb.block p.1 (Go.NR.heap_lt (hk p hp).1)).trans (hk p hp).1, (hk p hp).2⟩⟩
theorem DS.drew {w wr : World} {d k : Nat} {T : List UInt8} {q : Nat} {K : List (Nat × Obj)} (h : DS w wr d k T q K) : DS w wr.drew d k T q K := h.below (Below.refl _ wr).drew
theorem DS.add {w wr w' : World} {d k : Nat} {T : List UInt8} {q : Nat} {K : List (Nat × Obj)} (h : DS w wr d k T q K) (hb : Below wr.heap.size wr w') {b : Nat} {o : Obj} (hw : wr.heap.size ≤ b) (ho : w'.heap[b]? = some o) : DS w w' d k T q ((b, o) :: K) := by
  obtain ⟨F, L, Q, h1, h2, h3, h4, hk⟩ := h.below hb
  obtain ⟨F0, L0, Q0, g1, g2, g3, g4, gk⟩ := h
  refine ⟨F0, L0, Q0, g1.below hb, g2, h3, g4, fun p hp => ?_⟩
  rcases List.mem_cons.1 hp with rfl | hp
  · exact ⟨ho, fun hf => by have := g1.lt _ hf; simp at this; omega⟩
  · exact ⟨(hk p hp).1, (gk p hp).2⟩
theorem DS.add2 {w wr w' : World} {d k : Nat} {T : List UInt8} {q : Nat} {K : List (Nat × Obj)} (h : DS w wr d k T q K) (hb : Below wr.heap.size wr w') {b b' : Nat} {o o' : Obj} (hw : wr.heap.size ≤ b) (ho : w'.heap[b]? = some o) (hw' : wr.heap.size ≤ b') (ho' : w'.heap[b']? = some o') : DS w w' d k T q ((b', o') :: (b, o) :: K) := by
  obtain ⟨F, L, Q, h1, h2, h3, h4, hk⟩ := h.below hb
  obtain ⟨F0, L0, Q0, g1, g2, g3, g4, gk⟩ := h
  refine ⟨F0, L0, Q0, g1.below hb, g2, h3, g4, fun p hp => ?_⟩
  rcases List.mem_cons.1 hp with rfl | hp
  · exact ⟨ho', fun hf => by have := g1.lt _ hf; simp at this; omega⟩
  · rcases List.mem_cons.1 hp with rfl | hp
    · exact ⟨ho, fun hf => by have := g1.lt _ hf; simp at this; omega⟩
    · exact ⟨(hk p hp).1, (gk p hp).2⟩
theorem zeros64 {w : World} {ops : Array Oper} {rest : List Oper} {o : Oper} {a : Act} {Q : Exit → Act → World → Prop} (hg : o.guard = none) (l c : Operand) (hop : o.op = Op.makeSlice 50 l c) (hl : a.eval l = .int .i64 64) (hc : a.eval c = .int .i64 64)
    (hK : ∀ w', Below w.heap.size w w' → DI w' (some ⟨w.heap.size, 0, none⟩) 64 64 z64 → wpList Try.prog ops Q rest (a.put o.dst (.slice (some ⟨w.heap.size, 0, none⟩) 64 64)) w') : wpList Try.prog ops Q (o :: rest) a w := by
  obtain ⟨i0, hi, hz0, hz1, hz2⟩ := info_parts Try.info5
  refine wpList_make_full w hg l c 50 hop w.heap.size 5 i0 (.int .u8 0) 1 Try.underlying50 hi hz0 hz1 _ _ _ _ 64 hl hc rfl rfl (by rw [hz2]; omega) (by unfold maxLen; omega) (Nat.le_refl _) ?_
  intro w1 hown hgr
  have hown' : w1.ownsRow w.heap.size 5 1 (.slice (some ⟨w.heap.size, 0, none⟩) 64 64) 64 ((List.replicate 64 (0 : UInt8)).map u8v) := by
    rw [← made_u8 64]
    exact hown
  obtain ⟨hl, b, c, he, hb, hc, hby⟩ := BY.own hown' (by simp)
  obtain ⟨rfl, rfl⟩ : w.heap.size = b ∧ 64 = c := by simpa using he
  exact hK w1 ((Below.refl w.heap.size w).grown hgr (Nat.le_refl _) (fun k hk => by simp at hk)) (hby.di 64 hc (by rw [List.length_replicate]))
theorem DS.chg {w wr w' : World} {d k : Nat} {T : List UInt8} {q : Nat} {K : List (Nat × Obj)} {b : Nat} {o o' : Obj} (h : DS w wr d k T q ((b, o) :: K)) (hc : Chg wr w' (· = b)) (h' : w'.heap[b]? = some o') (hb : w.heap.size ≤ b) (hne : ∀ p ∈ K, p.1 ≠ b) : DS w w' d k T q ((b, o') :: K) := by
  obtain ⟨F, L, Q, h1, h2, h3, h4, hk⟩ := h
  have hbF := (hk _ List.mem_cons_self).2
  refine ⟨F, L, Q, h1.stay hc (fun x hx e => hbF (by cases e; exact hx)), h2, ⟨hc.os.trans h3.os, hc.tape.trans h3.tape, hc.output.trans h3.output, Nat.le_trans h3.size hc.size, fun x hx => (hc.block x (Nat.lt_of_lt_of_le hx h3.size) (fun e => by have e : x = b := e; omega)).trans (h3.block x hx)⟩, h4, fun p hp => ?_⟩
  rcases List.mem_cons.1 hp with rfl | hp
  · exact ⟨h', hbF⟩
  · have := hk p (List.mem_cons_of_mem _ hp)
    exact ⟨(hc.block p.1 (Go.NR.heap_lt this.1) (hne p hp)).trans this.1, this.2⟩
theorem DS.start {w : World} {k : Nat} {x : Ending} {w' : World} (h : NewGood w k x w') : ∃ d, x = .returned (.tuple #[.pointer (some ⟨d, 0, none⟩), .int .i64 0]) ∧ DS w w' d k (List.replicate (64 * k) 0) 0 [] := by
  obtain ⟨v, rfl, d, F, rfl, h1, h2, h3⟩ := h
  exact ⟨d, rfl, F, _, [], h1, Nat.le_refl _, h2, h3, fun p hp => by cases hp⟩
theorem DS.next {w wr w' : World} {F F' : Nat → Prop} {d k : Nat} {L T' : List UInt8} {Q' : List (Nat × List UInt8)} {q : Nat} {K : List (Nat × Obj)} (hb : Below w.heap.size w wr) (hF : ∀ b, F b → w.heap.size ≤ b) (h1 : DV w' F' d k L T' Q') (h2 : Q'.length ≤ q) (hu : Upd wr w' F F') (hk : ∀ p ∈ K, wr.heap[p.1]? = some p.2 ∧ ¬ F p.1) : DS w w' d k T' q K :=
  ⟨F', L, Q', h1, h2, hb.trans (hu.below hF hb.size), hu.low hF hb.size, fun p hp => by
    have hp' := hk p hp
    have hl := Go.NR.heap_lt hp'.1
    exact ⟨(hu.block p.1 hl hp'.2).trans hp'.1, fun hf => by
      rcases hu.grow _ hf with h | h
      · exact hp'.2 h
      · omega⟩⟩
theorem DS.page {w wr : World} {d k : Nat} {T : List UInt8} {q : Nat} {K : List (Nat × Obj)} (h : DS w wr d k T q K) (hq : q ≤ 10000) (at' : Nat) (hat : at' < k) {A : Option Addr} {n c e : Nat} (hX : DI wr A n c (footB e three)) :
    Calls Try.prog 15 #[.pointer (some ⟨d, 0, none⟩), .int .i64 at', .slice A n c] wr fun x w' => x = .returned (.int .i64 0) ∧ DS w w' d k (layB T at' (pageB (footB e three))) (q + 1) K := by
  have hp := foot_page e
  have hl := hX.len
  have hf := foot_len (e := e)
  rw [pageB_len (by omega)] at hp
  obtain ⟨F, L, Q, h1, h2, h3, h4, hk⟩ := h
  refine (Try.pwrite h1 (by omega) at' hX (by omega) (by rw [← hl]; omega)).mono ?_
  rintro x w' ⟨rfl, F', Q', g1, g2, g3⟩
  exact ⟨rfl, DS.next h3 h4 g1 (by omega) g3 hk⟩
theorem DS.super {w wr : World} {d k : Nat} {T : List UInt8} {q : Nat} {K : List (Nat × Obj)} (h : DS w wr d k T q K) (hq : q ≤ 10000) (hk : 2 ≤ k) (e a n : Nat) (he : e < 18446744073709551616) (hok : okS e (a : Int) (n : Int)) :
    Calls Try.prog 16 #[.pointer (some ⟨d, 0, none⟩), .agg #[.int .u64 e, .int .i64 a, .int .i64 n]] wr fun x w' => x = .returned (.int .i64 0) ∧ DS w w' d k (layB T (e % 2) (supB e a n)) (q + 1) K := by
  obtain ⟨F, L, Q, h1, h2, h3, h4, hK⟩ := h
  refine (Try.supWrite h1 (by omega) hk e a n he hok).mono ?_
  rintro x w' ⟨rfl, F', Q', g1, g2, g3⟩
  exact ⟨rfl, DS.next h3 h4 g1 (by omega) g3 hK⟩
theorem DS.write {w wr w1 : World} {d k : Nat} {T : List UInt8} {q : Nat} {K : List (Nat × Obj)} (h : DS w wr d k T q K) (hq : q ≤ 10000) (hb : Below wr.heap.size wr w1) (i : Nat) (hi : i < k) {g o c : Nat} (hg : wr.heap.size ≤ g) {p : List UInt8} (hX : DI w1 (some ⟨g, o, none⟩) 64 c p) :
    Calls Try.prog 17 #[.pointer (some ⟨d, 0, none⟩), .int .i64 i, .slice (some ⟨g, o, none⟩) 64 c] w1 fun x w' => x = .returned (.int .i64 0) ∧ DS w w' d k (layB T i p) (q + 1) K := by
  have hKK : ∀ F : Nat → Prop, (∀ p ∈ K, wr.heap[p.1]? = some p.2 ∧ ¬ F p.1) → ∀ p ∈ K, w1.heap[p.1]? = some p.2 ∧ ¬ F p.1 := fun F hk p hp => ⟨(hb.block p.1 (Go.NR.heap_lt (hk p hp).1)).trans (hk p hp).1, (hk p hp).2⟩
  obtain ⟨F, L, Q, h1, h2, h3, h4, hk⟩ := h
  have hlt := h1.lt
  obtain ⟨lb, cl, tb, ct, vw, ds, hdw⟩ := h1.below hb
  have hl := hX.len
  refine (Try.dwrite w1 F d k lb cl tb ct vw ds L T Q hdw i hi ⟨g, o, none⟩ c p hl (hX.srcX (Below.refl _ w1)) (fun hf => by have := hlt g hf; omega) (by omega)).mono ?_
  rintro x w' ⟨rfl, F', g1, g2⟩
  have g3 : DV w' F' d k L (layB T i p) (Q ++ [(i, p)]) := by
    unfold layB
    rw [hl]
    exact g1
  exact ⟨rfl, DS.next (h3.trans (hb.mono h3.size)) h4 g3 (by rw [List.length_append, List.length_singleton]; omega) g2 (hKK F hk)⟩
def Slot (T : List UInt8) (k i : Nat) (r : Nat × Nat × Nat) : Prop :=
  (r = (0, 0, 0) ∧ (supG (blk T i) = none ∨ ∃ e a, e < 18446744073709551616 ∧ e % 2 = i ∧ 2 ≤ a ∧ a < k ∧ supG (blk T i) = some (e, a, 1) ∧ (blk T a = z64 ∨ ∃ e', e' < 18446744073709551616 ∧ e' ≠ 0 ∧ e' ≠ e ∧ blk T a = pageB (footB e' three)))) ∨
  (∃ e a, r = (e, a, 1) ∧ e < 18446744073709551616 ∧ e ≠ 0 ∧ e % 2 = i ∧ 2 ≤ a ∧ a < k ∧ supG (blk T i) = some (e, a, 1) ∧ blk T a = pageB (footB e three))
theorem DS.find {w wr : World} {d k : Nat} {T : List UInt8} {q : Nat} {K : List (Nat × Obj)} (h : DS w wr d k T q K) (hk : 2 ≤ k) (r : Nat → Nat × Nat × Nat) (hr : ∀ i, i < 2 → Slot T k i (r i)) :
    Calls Try.prog 19 #[.pointer (some ⟨d, 0, none⟩)] wr (Found wr (yng (yng (0, 0, 0) (r 0)) (r 1))) := by
  obtain ⟨F, L, Q, h1, h2, h3, h4⟩ := h
  refine Try.sfind h1 r fun i hi w' hd => ?_
  rcases hr i hi with ⟨hr, hs | ⟨e, a, he, hei, ha, hak, hs, hz | ⟨e', he', he0, hne, hp⟩⟩⟩ | ⟨e, a, hr, he, he0, hei, ha, hak, hs, hp⟩
  · rw [hr]
    exact (Try.look0 hd (by omega) hs).mono fun x w2 h => lookU_no h
  · rw [hr]
    refine (Try.lookE hd (by omega) he hei (by omega) ha (by omega) hs fun w2 hd2 => Try.footAtX hd2 a 1 rfl (by omega) ?_).mono fun x w2 h => lookU_no h
    rw [cat_one, hz]
    exact z64_bad
  · rw [hr]
    exact (Try.lookX hd (by omega) he hei (by omega) ha (by omega) hs he' he0 hne three_chk (by rw [cat_one]; exact hp)).mono fun x w2 h => lookU_no h
  · rw [hr]
    exact (Try.lookOk hd (by omega) he hei (by omega) ha (by omega) hs he0 three_chk (by rw [cat_one]; exact hp)).mono fun x w2 h => lookU_ok he0 h
theorem DS.find2 {w wr : World} {d k : Nat} {T : List UInt8} {q : Nat} {K : List (Nat × Obj)} (h : DS w wr d k T q K) (hk : 2 ≤ k) {r0 r1 : Nat × Nat × Nat} (h0 : Slot T k 0 r0) (h1 : Slot T k 1 r1) (res : Nat × Nat × Nat) (hres : yng (yng (0, 0, 0) r0) r1 = res) :
    Calls Try.prog 19 #[.pointer (some ⟨d, 0, none⟩)] wr (Found wr res) := by
  have := h.find hk (fun i => if i = 0 then r0 else r1) (fun i hi => by
    match i, hi with
    | 0, _ => exact h0
    | 1, _ => exact h1)
  rw [← hres]
  exact this
end Go.Proofs.Ytfblhcphbcghpaa
end

section
namespace Go.Proofs.Ytfblhcphbcghpaa
open Go.RowKit
set_option maxRecDepth 100000
theorem okS_mk {e a : Nat} (he : e ≠ 0) (ha : a ≤ 1024) : okS e (a : Int) ((1 : Nat) : Int) := ⟨he, by omega, by omega, by omega⟩
theorem slot_ok {T : List UInt8} {k i e a : Nat} (he : e < 18446744073709551616) (he0 : e ≠ 0) (hei : e % 2 = i) (ha : 2 ≤ a) (hak : a < k) (hk : a ≤ 1024) (hs : blk T i = supB e a 1) (hp : blk T a = pageB (footB e three)) : Slot T k i (e, a, 1) :=
  .inr ⟨e, a, rfl, he, he0, hei, ha, hak, by rw [hs]; exact supG_put (okS_mk he0 hk) he, hp⟩
theorem slot_none {T : List UInt8} {k i : Nat} (h : blk T i = z64) : Slot T k i (0, 0, 0) := .inl ⟨rfl, .inl (by rw [h]; exact z64_sup)⟩
theorem slot_page {T : List UInt8} {k i e a : Nat} (he : e < 18446744073709551616) (he0 : e ≠ 0) (hei : e % 2 = i) (ha : 2 ≤ a) (hak : a < k) (hk : a ≤ 1024) (hs : blk T i = supB e a 1) (hp : blk T a = z64) : Slot T k i (0, 0, 0) :=
  .inl ⟨rfl, .inr ⟨e, a, he, hei, ha, hak, by rw [hs]; exact supG_put (okS_mk he0 hk) he, .inl hp⟩⟩
def KT (T : List UInt8) (i : Nat) : Prop := T.length = 64 * 8 ∧ ∀ j, 1 ≤ j → j < i → blk T (j % 2) = supB j (2 + j) 1 ∧ blk T (2 + j) = pageB (footB j three)
theorem KT.step {T : List UInt8} {i : Nat} (h : KT T i) (h1 : 1 ≤ i) (h2 : i ≤ 2) : KT (layB (layB T (2 + i) (pageB (footB i three))) (i % 2) (supB i (2 + i) 1)) (i + 1) := by
  have hp := foot_page i
  have hs := supB_len i (2 + i) 1
  have hl1 := lay_len (a := 2 + i) h.1 (by omega) hp
  refine ⟨lay_len hl1 (by omega) hs, fun j hj1 hj2 => ?_⟩
  rw [blk_lay hl1 (by omega) hs _ (by omega), blk_lay hl1 (by omega) hs _ (by omega), blk_lay h.1 (by omega) hp _ (by omega), blk_lay h.1 (by omega) hp _ (by omega)]
  by_cases e : j = i
  · subst e
    rw [if_pos rfl, if_neg (by omega), if_pos rfl]
    exact ⟨rfl, rfl⟩
  · have h3 := h.2 j hj1 (by omega)
    rw [if_neg (by omega), if_neg (by omega), if_neg (by omega), if_neg (by omega)]
    exact h3
def KL (w : World) (d i : Nat) (W : World) : Prop := ∃ T, DS w W d 8 T (2 * i) [] ∧ KT T i
set_option maxHeartbeats 8000000 in
theorem Try.known17 (w : World) : Calls Try.prog 13 #[] w fun x w' => x = .returned (.bool true) ∧ Below w.heap.size w w' := by
  go_enter Try.func13, Try.ntmps13
  go_wp2_with fail
  refine (Try.new_good 8 (by omega) (by omega) w).mono ?_
  intro x w1 hn
  obtain ⟨d, rfl, hds⟩ := DS.start hn
  have H1 : Hid (KL w d 1 w1) := Lib.hid ⟨_, hds.more (by omega), List.length_replicate, fun j h1 h2 => by omega⟩
  clear hn hds
  go_wp2_with fail
  go_loopw [3] (fun t W => ∃ i : Nat, 1 ≤ i ∧ i ≤ 3 ∧ t = .int .i64 i ∧ Hid (KL w d i W)) (fun t _ => 3 - (intOf t).toNat)
  case atStart => exact ⟨1, Nat.le_refl _, by omega, rfl, H1⟩
  case round =>
    rename World => W
    obtain ⟨i, hi1, hi3, rfl, HK⟩ := hrel
    clear H1
    by_cases hlt : i ≤ 2
    · have d1 : decide ((i : Int) ≤ 2) = true := decide_eq_true (by omega)
      have d1' : decide (i ≤ 2) = true := decide_eq_true hlt
      go_wp2_with fail
      refine (Try.threeC W).mono ?_
      rintro x w2 ⟨g, c, rfl, hcr, hb2⟩
      have HCR := Lib.hid hcr
      have B2 := Lib.hid hb2
      clear hcr hb2
      go_wp2_with fail
      refine (Try.footPut w2 i (by omega) (by omega) HCR.out three_chk).mono ?_
      rintro x w3 ⟨v, rfl, hob, hb3⟩
      obtain ⟨A, cv, rfl, hdi⟩ := hob.di
      obtain ⟨fn, hfn⟩ : ∃ fn, (footB i three).length = fn := ⟨_, rfl⟩
      rw [hfn] at hdi ⊢
      obtain ⟨T, hds, hkt⟩ := HK.out
      have HDI := Lib.hid hdi
      have HDS : Hid (DS w w3 d 8 T (2 * i) []) := Lib.hid ((hds.below B2.out).below hb3)
      have HKT := Lib.hid hkt
      clear hob hb3 hdi hds hkt HK B2 HCR hfn
      go_wp2_with fail
      have hidx : ((2 : Int) + (i : Int)) = ((2 + i : Nat) : Int) := rfl
      rw [hidx]
      refine (DS.page HDS.out (by omega) (2 + i) (by omega) HDI.out).mono ?_
      rintro x w4 ⟨rfl, hd4⟩
      have HD4 := Lib.hid hd4
      clear hd4 hidx HDS HDI
      go_wp2_with fail
      refine (DS.super HD4.out (by omega) (by omega) i (2 + i) 1 (by omega) (okS_mk (by omega) (by omega))).mono ?_
      rintro x w5 ⟨rfl, hd5⟩
      have HN : Hid (KL w d (i + 1) w5) := Lib.hid ⟨_, hd5, HKT.out.step hi1 hlt⟩
      clear hd5 HD4 HKT
      go_wp2_with fail
      exact ⟨⟨i + 1, by omega, by omega, rfl, HN⟩, by simp [intOf]; omega⟩
    · have d1 : decide ((i : Int) ≤ 2) = false := decide_eq_false (by omega)
      have d1' : decide (i ≤ 2) = false := decide_eq_false hlt
      obtain rfl : i = 3 := by omega
      obtain ⟨T, hds, hkt⟩ := HK.out
      have HDS : Hid (DS w W d 8 T 6 []) := Lib.hid hds
      have h1 := hkt.2 1 (by omega) (by omega)
      have h2 := hkt.2 2 (by omega) (by omega)
      have E1 : Hid (blk T 1 = supB 1 3 1 ∧ blk T 3 = pageB (footB 1 three)) := Lib.hid h1
      have E2 : Hid (blk T 0 = supB 2 4 1 ∧ blk T 4 = pageB (footB 2 three)) := Lib.hid h2
      have G1 := slot_ok (T := T) (k := 8) (i := 1) (e := 1) (a := 3) (by omega) (by omega) rfl (by omega) (by omega) (by omega) E1.out.1 E1.out.2
      have G2 := slot_ok (T := T) (k := 8) (i := 0) (e := 2) (a := 4) (by omega) (by omega) rfl (by omega) (by omega) (by omega) E2.out.1 E2.out.2
      have HG1 := Lib.hid G1
      have HG2 := Lib.hid G2
      clear hds hkt HK h1 h2 G1 G2 d1 d1' hi1 hi3 hlt
      go_wp2_with fail
      refine (DS.find2 HDS.out (by omega) HG2.out HG1.out (2, 4, 1) (by decide)).mono ?_
      rintro x w2 ⟨A1, m1, c1, rfl, hb2⟩
      dsimp only
      go_upto_region 13 with fail
      obtain ⟨w4, s8, s9, hw4, hs8, hs9, hb4, h8, h9⟩ := alloc2 w2 (.cells #[.int .u64 2, .int .i64 4, .int .i64 1] 70) (.cells #[.int .u64 2, .slice A1 m1 c1, .slice none 0 0] 48)
      rw [hw4]
      rw [hs8]
      rw [hs9]
      have HD4 : Hid (DS w w4 d 8 T 6 [(s9, .cells #[.int .u64 2, .slice A1 m1 c1, .slice none 0 0] 48), (s8, .cells #[.int .u64 2, .int .i64 4, .int .i64 1] 70)]) := Lib.hid ((HDS.out.below hb2).add2 hb4 (by omega) h8 (by omega) h9)
      clear hw4 hs8 hs9 hb4 h8 h9 hb2 HDS
      have HD4L := Lib.hid HD4.out.len
      go_wp2_with (at_make; refine zeros64 rfl _ _ rfl rfl rfl ?_)
      rintro wz1 hbz hdz
      have BZ := Lib.hid hbz
      have HZ := Lib.hid hdz
      have HSZ : Hid (w4.heap.size ≤ w4.heap.size) := Lib.hid (Nat.le_refl _)
      obtain ⟨gz, hgz⟩ : ∃ gz, w4.heap.size = gz := ⟨_, rfl⟩
      rw [hgz] at HZ
      rw [hgz]
      have HGZ : Hid (w4.heap.size ≤ gz) := Lib.hid (Nat.le_of_eq hgz)
      clear hbz hdz hgz HSZ
      go_wp2_with fail
      refine (DS.write HD4.out (by omega) BZ.out 0 (by omega) HGZ.out HZ.out).mono ?_
      rintro x ww1 ⟨rfl, hdw⟩
      have HW1 := Lib.hid hdw
      clear hdw BZ HZ HGZ HD4
      have hT1 := lay_len (p := z64) (a := 0) HD4L.out (by omega) rfl
      have HS0 : Hid (Slot (layB T 0 z64) 8 0 (0, 0, 0)) := Lib.hid (slot_none (blk_same HD4L.out (by omega) rfl))
      have HZ0 : Hid (blk (layB T 0 z64) 0 = z64) := Lib.hid (blk_same HD4L.out (by omega) rfl)
      have F1 : Hid (blk (layB T 0 z64) 1 = supB 1 3 1) := Lib.hid ((blk_else HD4L.out (by omega) rfl (by omega) (by omega)).trans E1.out.1)
      have F3 : Hid (blk (layB T 0 z64) 3 = pageB (footB 1 three)) := Lib.hid ((blk_else HD4L.out (by omega) rfl (by omega) (by omega)).trans E1.out.2)
      have HS1 : Hid (Slot (layB T 0 z64) 8 1 (1, 3, 1)) := Lib.hid (slot_ok (by omega) (by omega) rfl (by omega) (by omega) (by omega) F1.out F3.out)
      have HT1 := Lib.hid hT1
      clear hT1
      obtain ⟨T1, hTT⟩ : ∃ T1, layB T 0 z64 = T1 := ⟨_, rfl⟩
      rw [hTT] at HS0 HS1 F1 F3 HT1 HW1 HZ0
      clear hTT HG1 HG2 E1 E2 HD4L
      go_wp2_with fail
      refine (DS.find2 HW1.out (by omega) HS0.out HS1.out (1, 3, 1) (by decide)).mono ?_
      rintro x w6 ⟨A2, m2, c2, rfl, hb6⟩
      dsimp only
      go_upto_region 15 with fail
      obtain ⟨w7, s11, s12, hw7, hs11, hs12, hb7, h11, h12⟩ := alloc2 w6 (.cells #[.int .u64 1, .int .i64 3, .int .i64 1] 70) (.cells #[.int .u64 1, .slice A2 m2 c2, .slice none 0 0] 48)
      rw [hw7]
      rw [hs11]
      rw [hs12]
      have HD7 : Hid (DS w w7 d 8 T1 7 [(s12, .cells #[.int .u64 1, .slice A2 m2 c2, .slice none 0 0] 48), (s11, .cells #[.int .u64 1, .int .i64 3, .int .i64 1] 70), (s9, .cells #[.int .u64 2, .slice A1 m1 c1, .slice none 0 0] 48), (s8, .cells #[.int .u64 2, .int .i64 4, .int .i64 1] 70)]) := Lib.hid ((HW1.out.below hb6).add2 hb7 (by omega) h11 (by omega) h12)
      clear hw7 hs11 hs12 hb7 h11 h12 hb6 HW1 HS0 HS1
      go_wp2_with (at_make; refine zeros64 rfl _ _ rfl rfl rfl ?_)
      rintro wz2 hbz hdz
      have BZ := Lib.hid hbz
      have HZ := Lib.hid hdz
      have HSZ : Hid (w7.heap.size ≤ w7.heap.size) := Lib.hid (Nat.le_refl _)
      obtain ⟨gz, hgz⟩ : ∃ gz, w7.heap.size = gz := ⟨_, rfl⟩
      rw [hgz] at HZ
      rw [hgz]
      have HGZ : Hid (w7.heap.size ≤ gz) := Lib.hid (Nat.le_of_eq hgz)
      clear hbz hdz hgz HSZ
      go_wp2_with fail
      refine (DS.write HD7.out (by omega) BZ.out 3 (by omega) HGZ.out HZ.out).mono ?_
      rintro x ww2 ⟨rfl, hdw⟩
      have HW2 := Lib.hid hdw
      clear hdw BZ HZ HGZ HD7
      have HS0 : Hid (Slot (layB T1 3 z64) 8 0 (0, 0, 0)) := Lib.hid (slot_none ((blk_else HT1.out (by omega) rfl (by omega) (by omega)).trans HZ0.out))
      have HS1 : Hid (Slot (layB T1 3 z64) 8 1 (0, 0, 0)) := Lib.hid (slot_page (e := 1) (a := 3) (by omega) (by omega) rfl (by omega) (by omega) (by omega) ((blk_else HT1.out (by omega) rfl (by omega) (by omega)).trans F1.out) (blk_same HT1.out (by omega) rfl))
      go_wp2_with fail
      refine (DS.find2 HW2.out (by omega) HS0.out HS1.out (0, 0, 0) (by decide)).mono ?_
      rintro x w8 ⟨A3, m3, c3, rfl, hb8⟩
      dsimp only
      go_upto_region 17 with fail
      obtain ⟨w9, s14, s15, hw9, hs14, hs15, hb9, h14, h15⟩ := alloc2 w8 (.cells #[.int .u64 0, .int .i64 0, .int .i64 0] 70) (.cells #[.int .u64 0, .slice A3 m3 c3, .slice none 0 0] 48)
      rw [hw9]
      rw [hs14]
      rw [hs15]
      have HD9 := (HW2.out.below hb8).below hb9
      have HB9 := Lib.hid HD9.bel
      have K8 := Lib.hid (HD9.get 3 rfl)
      have K9 := Lib.hid (HD9.get 2 rfl)
      have K11 := Lib.hid (HD9.get 1 rfl)
      clear hw9 hs14 hs15 hb9 h14 h15 hb8 HW2 HS0 HS1 HD9 HT1 F1 F3 HZ0
      have V0 := cell_of_row w9 s8 0 _ 70 _ K8.out
      have V1 := cell_of_row w9 s8 1 _ 70 _ K8.out
      have V2 := cell_of_row w9 s8 2 _ 70 _ K8.out
      simp at V0 V1 V2
      go_wp2_with fail
      refine (Try.sput w9 2 4 1 (by omega) ⟨by omega, by omega⟩ ⟨by omega, by omega⟩).mono ?_
      rintro x w10 h10
      have h3 : ∃ v, x = .returned (.tuple #[v, .int .i64 0]) ∧ OB w10 w9.heap.size v (supB 2 4 1) ∧ Below w9.heap.size w9 w10 := by
        rcases h10 with ⟨_, ⟨v, hx, ho⟩, hb⟩ | ⟨hx, _⟩
        · exact ⟨v, hx, ho, hb⟩
        · exact absurd (okS_mk (e := 2) (a := 4) (by omega) (by omega)) hx
      clear h10
      obtain ⟨v, rfl, ho, hb10⟩ := h3
      obtain ⟨A4, c4, rfl, hdi⟩ := ho.di
      rw [supB_len] at hdi
      rw [supB_len]
      have HDI := Lib.hid hdi
      have HB10 := Lib.hid hb10
      clear V0 V1 V2 ho hdi hb10
      go_wp2_with fail
      refine (Try.sget w10 HDI.out (by omega)).mono ?_
      rintro x w11 ⟨hb11, hx⟩
      have hx' : x = .returned (.tuple #[.agg #[.int .u64 2, .int .i64 4, .int .i64 1], .int .i64 0]) := by
        rcases hx with ⟨e, a, n, h, _, rfl⟩ | ⟨h, _⟩
        · rw [supG_put (okS_mk (by omega) (by omega)) (by omega)] at h
          cases h
          rfl
        · rw [supG_put (okS_mk (by omega) (by omega)) (by omega)] at h
          cases h
      subst hx'
      clear hx
      go_upto_region 19 with fail
      have hb12 := (Below.refl w11.heap.size w11).alloc (Nat.le_refl _) (.cells #[.int .u64 2, .int .i64 4, .int .i64 1] 70)
      have h19 := heap_alloc_new w11 (.cells #[.int .u64 2, .int .i64 4, .int .i64 1] 70)
      obtain ⟨w12, hw12⟩ : ∃ w12, w11.alloc (.cells #[.int .u64 2, .int .i64 4, .int .i64 1] 70) = w12 := ⟨_, rfl⟩
      obtain ⟨s19, hs19⟩ : ∃ s19, w11.heap.size = s19 := ⟨_, rfl⟩
      rw [hw12] at hb12 h19
      rw [hs19] at h19
      rw [hw12]
      rw [hs19]
      have B12 := Lib.hid (HB10.out.trans ((hb11.trans (hb12.mono hb11.size)).mono HB10.out.size))
      have H19 := Lib.hid h19
      clear hb12 h19 hw12 hs19 hb11 HB10 HDI
      go_wp2_with (at_make; refine zeros64 rfl _ _ rfl rfl rfl ?_)
      rintro w13 hbz hdz
      have B13 := Lib.hid (B12.out.trans (hbz.mono B12.out.size))
      have J19 := Lib.hid ((hbz.block s19 (Go.NR.heap_lt H19.out)).trans H19.out)
      have HZ := Lib.hid hdz
      clear hbz hdz H19 B12
      go_wp2_with fail
      refine (Try.sget w13 HZ.out (by omega)).mono ?_
      rintro x w14 ⟨hb14, hx⟩
      have hx' : x = .returned (.tuple #[.agg #[.int .u64 0, .int .i64 0, .int .i64 0], .int .i64 12]) := by
        rcases hx with ⟨e, a, n, h, _, rfl⟩ | ⟨h, hx⟩
        · rw [z64_sup] at h
          cases h
        · exact hx
      subst hx'
      clear hx
      have B14 := Lib.hid (B13.out.trans (hb14.mono B13.out.size))
      have I19 := Lib.hid ((hb14.block s19 (Go.NR.heap_lt J19.out)).trans J19.out)
      clear hb14 B13 J19 HZ
      go_upto_region 20 with fail
      have hb15 := (Below.refl w14.heap.size w14).alloc (Nat.le_refl _) (.cells #[.int .u64 0, .int .i64 0, .int .i64 0] 70)
      obtain ⟨w15, hw15⟩ : ∃ w15, w14.alloc (.cells #[.int .u64 0, .int .i64 0, .int .i64 0] 70) = w15 := ⟨_, rfl⟩
      rw [hw15] at hb15
      rw [hw15]
      have B15 := Lib.hid (B14.out.trans (hb15.mono B14.out.size))
      have L19 := Lib.hid ((hb15.block s19 (Go.NR.heap_lt I19.out)).trans I19.out)
      clear hw15 hb15 B14 I19
      go_wp2_with fail
      refine (Try.sput w15 0 0 0 (by omega) ⟨by omega, by omega⟩ ⟨by omega, by omega⟩).mono ?_
      rintro x w16 h10
      have h3 : x = .returned (.tuple #[.slice none 0 0, .int .i64 1]) ∧ Below w15.heap.size w15 w16 := by
        rcases h10 with ⟨hx, _⟩ | ⟨_, hx, hb⟩
        · exact absurd rfl hx.1
        · exact ⟨hx, hb⟩
      clear h10
      obtain ⟨rfl, hb16⟩ := h3
      have B16 := Lib.hid (B15.out.trans (hb16.mono B15.out.size))
      have M19 := Lib.hid ((hb16.block s19 (Go.NR.heap_lt L19.out)).trans L19.out)
      have M8 := Lib.hid ((B16.out.block s8 (Go.NR.heap_lt K8.out)).trans K8.out)
      have M9 := Lib.hid ((B16.out.block s9 (Go.NR.heap_lt K9.out)).trans K9.out)
      have M11 := Lib.hid ((B16.out.block s11 (Go.NR.heap_lt K11.out)).trans K11.out)
      clear hb16 B15 L19 K8 K9 K11
      have V0 := cell_of_row w16 s8 0 _ 70 _ M8.out
      have V1 := cell_of_row w16 s8 1 _ 70 _ M8.out
      have V2 := cell_of_row w16 s8 2 _ 70 _ M8.out
      have V3 := cell_of_row w16 s9 0 _ 48 _ M9.out
      have V4 := cell_of_row w16 s11 0 _ 70 _ M11.out
      have V5 := cell_of_row w16 s19 0 _ 70 _ M19.out
      have V6 := cell_of_row w16 s19 1 _ 70 _ M19.out
      have V7 := cell_of_row w16 s19 2 _ 70 _ M19.out
      simp at V0 V1 V2 V3 V4 V5 V6 V7
      go_wp2_with fail
      refine (Try.slot 2 (by omega) w16).mono ?_
      rintro x w17 ⟨rfl, hw17⟩
      rw [hw17]
      clear hw17 w17
      go_wp2_with fail
      refine (Try.slot 3 (by omega) w16).mono ?_
      rintro x w17 ⟨rfl, hw17⟩
      rw [hw17]
      clear hw17 w17
      have HBB := Lib.hid (HB9.out.trans (B16.out.mono HB9.out.size))
      clear V0 V1 V2 V3 V4 V5 V6 V7
      go_wp2_with fail
      go_ret
      exact ⟨rfl, HBB.out⟩
end Go.Proofs.Ytfblhcphbcghpaa
end

section
namespace Go.Proofs.Ytfblhcphbcghpaa
open Go.RowKit
set_option maxRecDepth 100000
def epo (X Y i : Nat) : Nat := if i = 0 then X else Y
def GT (T : List UInt8) (X Y i : Nat) : Prop := T.length = 64 * 12 ∧ ∀ j, j < i → blk T j = supB (epo X Y j) (3 + 3 * j) 1 ∧ blk T (3 + 3 * j) = pageB (footB (epo X Y j) three)
theorem GT.step {T : List UInt8} {X Y i E : Nat} (h : GT T X Y i) (h2 : i < 2) (hE : epo X Y i = E) (hi : E % 2 = i) : GT (layB (layB T (3 + 3 * i) (pageB (footB E three))) (E % 2) (supB E (3 + 3 * i) 1)) X Y (i + 1) := by
  have hp := foot_page E
  have hs := supB_len E (3 + 3 * i) 1
  have hl1 := lay_len (a := 3 + 3 * i) h.1 (by omega) hp
  refine ⟨lay_len hl1 (by omega) hs, fun j hj => ?_⟩
  rw [blk_lay hl1 (by omega) hs _ (by omega), blk_lay hl1 (by omega) hs _ (by omega), blk_lay h.1 (by omega) hp _ (by omega), blk_lay h.1 (by omega) hp _ (by omega)]
  by_cases e : j = i
  · subst e
    rw [if_pos hi.symm, if_neg (by omega), if_pos rfl, hE]
    exact ⟨rfl, rfl⟩
  · have h3 := h.2 j (by omega)
    rw [if_neg (by omega), if_neg (by omega), if_neg (by omega), if_neg (by omega)]
    exact h3
theorem DS.flip {w wr : World} {d k : Nat} {T : List UInt8} {q : Nat} {K : List (Nat × Obj)} {b e : Nat} {cs : Array Value} (h : DS w wr d k T q ((b, .cells cs e) :: K)) (hb : w.heap.size ≤ b) (hne : ∀ p ∈ K, p.1 ≠ b) (i : Nat) (v : Value) (cs' : Array Value) (hcs : cs.set! i v = cs') :
    DS w (wr.setCell ⟨b, i, none⟩ v) d k T q ((b, .cells cs' e) :: K) :=
  h.chg (Chg.setCell _ _ _) (by rw [← hcs]; exact heap_setCell_same wr b i cs e v (h.get 0 rfl)) hb hne
theorem yng_l {X Y a b : Nat} (hX : X ≠ 0) (h : Y < X) : yng (yng (0, 0, 0) (X, a, 1)) (Y, b, 1) = (X, a, 1) := by
  unfold yng
  rw [if_pos (show (0, 0, 0).1 < (X, a, 1).1 by show 0 < X; omega), if_neg (show ¬ (X, a, 1).1 < (Y, b, 1).1 by show ¬ X < Y; omega)]
theorem yng_r {X Y a b : Nat} (hX : X ≠ 0) (h : X < Y) : yng (yng (0, 0, 0) (X, a, 1)) (Y, b, 1) = (Y, b, 1) := by
  unfold yng
  rw [if_pos (show (0, 0, 0).1 < (X, a, 1).1 by show 0 < X; omega), if_pos (show (X, a, 1).1 < (Y, b, 1).1 from h)]
theorem yng_0r {Y b : Nat} (hY : Y ≠ 0) : yng (yng (0, 0, 0) (0, 0, 0)) (Y, b, 1) = (Y, b, 1) := by
  unfold yng
  rw [if_neg (show ¬ (0, 0, 0).1 < (0, 0, 0).1 by decide), if_pos (show (0, 0, 0).1 < (Y, b, 1).1 by show 0 < Y; omega)]
theorem yng_l0 {X a : Nat} (hX : X ≠ 0) : yng (yng (0, 0, 0) (X, a, 1)) (0, 0, 0) = (X, a, 1) := by
  unfold yng
  rw [if_pos (show (0, 0, 0).1 < (X, a, 1).1 by show 0 < X; omega), if_neg (show ¬ (X, a, 1).1 < (0, 0, 0).1 by show ¬ X < 0; omega)]
theorem slot_other {T : List UInt8} {k i e a e' : Nat} (he : e < 18446744073709551616) (he0 : e ≠ 0) (hei : e % 2 = i) (ha : 2 ≤ a) (hak : a < k) (hk : a ≤ 1024) (hs : blk T i = supB e a 1) (he' : e' < 18446744073709551616) (he0' : e' ≠ 0) (hne : e' ≠ e) (hp : blk T a = pageB (footB e' three)) : Slot T k i (0, 0, 0) :=
  .inl ⟨rfl, .inr ⟨e, a, he, hei, ha, hak, by rw [hs]; exact supG_put (okS_mk he0 hk) he, .inr ⟨e', he', he0', hne, hp⟩⟩⟩
def GL (w : World) (d X Y sl i : Nat) (W : World) : Prop := ∃ T, DS w W d 12 T (2 * i) [(sl, .cells #[.int .u64 X, .int .u64 Y] 23)] ∧ GT T X Y i
set_option maxHeartbeats 8000000 in
theorem Try.greater (w : World) (a b s : Nat) (ha : a < 256) (hb : b < 256) (hs : s < 256) : Calls Try.prog 4 #[.int .u8 a, .int .u8 b, .int .u8 s] w fun x w' => x = .returned (.bool true) ∧ Below w.heap.size w w' := by
  obtain ⟨X, hX⟩ : ∃ X, 2 + 2 * a = X := ⟨_, rfl⟩
  obtain ⟨Y, hY⟩ : ∃ Y, 1 + 2 * b = Y := ⟨_, rfl⟩
  have hXi : (2 : Int) + 2 * (a : Int) = (X : Nat) := by omega
  have hYi : (1 : Int) + 2 * (b : Int) = (Y : Nat) := by omega
  have HXY : Hid (X % 2 = 0 ∧ Y % 2 = 1 ∧ 2 ≤ X ∧ 1 ≤ Y ∧ X < 600 ∧ Y < 600) := Lib.hid (by omega)
  have HXi := Lib.hid hXi
  have HYi := Lib.hid hYi
  have s1 : IntKind.u64.wrap (2 * (a : Int)) = 2 * (a : Int) := by rw [IntKind.wrap_u64]; omega
  have s2 : IntKind.u64.wrap (2 + 2 * (a : Int)) = 2 + 2 * (a : Int) := by rw [IntKind.wrap_u64]; omega
  have s3 : IntKind.u64.wrap (2 * (b : Int)) = 2 * (b : Int) := by rw [IntKind.wrap_u64]; omega
  have s4 : IntKind.u64.wrap (1 + 2 * (b : Int)) = 1 + 2 * (b : Int) := by rw [IntKind.wrap_u64]; omega
  clear hX hY hXi hYi
  go_enter Try.func4, Try.ntmps4
  go_wp2_with fail
  refine (Try.known17 w).mono ?_
  rintro x w1 ⟨rfl, hb1⟩
  have B1 := Lib.hid hb1
  clear hb1
  go_upto_region 4 with fail
  rw [HXi.out]
  rw [HYi.out]
  clear s1 s2 s3 s4 HXi HYi ha hb
  go_wp2_with fail
  refine (Try.new_good 12 (by omega) (by omega) w1).mono ?_
  intro x w2 hn
  obtain ⟨d, rfl, hds⟩ := DS.start hn
  have HDS := Lib.hid hds
  clear hn hds
  go_upto_region 8 with fail
  have hba := (Below.refl w2.heap.size w2).alloc (Nat.le_refl _) (.cells #[.int .u64 X, .int .u64 Y] 23)
  have hna := heap_alloc_new w2 (.cells #[.int .u64 X, .int .u64 Y] 23)
  obtain ⟨w3, hw3⟩ : ∃ w3, w2.alloc (.cells #[.int .u64 X, .int .u64 Y] 23) = w3 := ⟨_, rfl⟩
  obtain ⟨sl, hsl⟩ : ∃ sl, w2.heap.size = sl := ⟨_, rfl⟩
  rw [hw3] at hba hna
  rw [hsl] at hna
  rw [hw3]
  rw [hsl]
  have HG : Hid (GL w1 d X Y sl 0 w3) := Lib.hid ⟨_, HDS.out.add hba (by omega) hna, List.length_replicate, fun j hj => by omega⟩
  clear hba hna hw3 hsl HDS
  go_wp2_with fail
  go_loopw [12] (fun t W => ∃ i : Nat, i ≤ 2 ∧ t = .int .i64 i ∧ Hid (GL w1 d X Y sl i W)) (fun t _ => 2 - (intOf t).toNat)
  case atStart => exact ⟨0, Nat.zero_le _, rfl, HG⟩
  case round =>
    rename World => W
    obtain ⟨i, hi2, rfl, HK⟩ := hrel
    clear HG
    have h012 : i = 0 ∨ i = 1 ∨ i = 2 := by omega
    rcases h012 with rfl | rfl | rfl
    · obtain ⟨T, hds, hgt⟩ := HK.out
      have V := Lib.hid (cell_of_row W sl 0 _ 23 _ (hds.get 0 rfl))
      have HDS : Hid (DS w1 W d 12 T (2 * 0) [(sl, .cells #[.int .u64 X, .int .u64 Y] 23)]) := Lib.hid hds
      have HGT := Lib.hid hgt
      clear hds hgt HK hi2
      go_upto_region 11 with fail
      refine wp_region_noPanic ?_
      refine wp_region_held_drew (S := (fun W => W.cell? ⟨sl, 0, none⟩ = some (.int .u64 (X : Nat)))) (by kernel_rfl) ?_ (fun hHeld => ?_)
      · exact V.out
      refine wpAnyH_take (i := 0) (oi := { dst := some 54, op := Op.move (Operand.tmp 11), type := 66, pos := "more.go:25", after := #[], guard := none }) (v := ?_) rfl (by kernel_rfl) (by kernel_rfl) (by kernel_rfl) (fun _ _ _ h => h) (Or.inl ⟨by rfl, ?_⟩) (by assumption) ?_
      rotate_left
      · (intro w hSw; (try dsimp only at hSw); go_simp; try with_reducible rfl)
      try simp only [Act.put, List.setIfInBounds_toArray, List.set_cons_zero, List.set_cons_succ]
      refine wpAnyH_take (i := 1) (oi := { dst := some 55, op := Op.move (Operand.tmp 12), type := 3, pos := "more.go:25", after := #[], guard := none }) (v := ?_) rfl (by kernel_rfl) (by kernel_rfl) (by kernel_rfl) (fun _ _ _ h => h) (Or.inl ⟨by rfl, ?_⟩) (by assumption) ?_
      rotate_left
      · (intro w hSw; (try dsimp only at hSw); go_simp; try with_reducible rfl)
      try simp only [Act.put, List.setIfInBounds_toArray, List.set_cons_zero, List.set_cons_succ]
      refine wpAnyH_take (i := 2) (oi := { dst := some 56, op := Op.indexAddr 66 (Operand.tmp 54) (Operand.tmp 55), type := 0, pos := "more.go:25", after := #[{ on := 0, ground := Ground.data }, { on := 1, ground := Ground.data }], guard := none }) (v := ?_) rfl (by kernel_rfl) (by kernel_rfl) (by kernel_rfl) (fun _ _ _ h => h) (Or.inl ⟨by rfl, ?_⟩) (by assumption) ?_
      rotate_left
      · (intro w hSw; (try dsimp only at hSw); go_simp; try with_reducible rfl)
      try simp only [Act.put, List.setIfInBounds_toArray, List.set_cons_zero, List.set_cons_succ]
      refine wpAnyH_take (i := 3) (oi := { dst := some 57, op := Op.load 23 (Operand.tmp 56), type := 23, pos := "more.go:25", after := #[{ on := 2, ground := Ground.data }], guard := none }) (v := ?_) rfl (by kernel_rfl) (by kernel_rfl) (by kernel_rfl) (fun _ _ _ h => h) (Or.inl ⟨by rfl, ?_⟩) (by assumption) ?_
      rotate_left
      · (intro w hSw; (try dsimp only at hSw); go_simp; try with_reducible rfl)
      try simp only [Act.put, List.setIfInBounds_toArray, List.set_cons_zero, List.set_cons_succ]
      refine wpAnyH_ready (rs := [4]) (by kernel_rfl) (by simp) ?_
      refine AllReadyH.cons (o := { dst := some 58, op := Op.call { callee := Callee.value (Operand.func 12), args := #[], argTypes := #[] }, type := 45, pos := "more.go:25", after := #[], guard := none }) rfl (fun K hK => ?_) AllReadyH.nil
      go_simp
      refine (Try.threeC _).mono ?_
      rintro x w2b ⟨g, c, rfl, hcr, hb2⟩
      have HCR := Lib.hid hcr
      have B2 : Hid (Below W.heap.size W w2b) := Lib.hid ((Below.refl _ W).drew.trans hb2)
      clear hcr hb2
      refine hK.out _ _ ?_ (fun hHeld => ?_)
      · exact cellW V.out B2.out
      clear hK K
      try simp only [Act.put, List.setIfInBounds_toArray, List.set_cons_zero, List.set_cons_succ]
      refine wpAnyH_take (i := 5) (oi := { dst := some 59, op := Op.build 48 #[(0, Operand.tmp 57), (1, Operand.tmp 58)], type := 48, pos := "more.go:25", after := #[{ on := 3, ground := Ground.data }, { on := 4, ground := Ground.data }], guard := none }) (v := ?_) rfl (by kernel_rfl) (by kernel_rfl) (by kernel_rfl) (fun _ _ _ h => h) (Or.inl ⟨by rfl, ?_⟩) (by assumption) ?_
      rotate_left
      · (intro w hSw; (try dsimp only at hSw); go_simp; try with_reducible rfl)
      try simp only [Act.put, List.setIfInBounds_toArray, List.set_cons_zero, List.set_cons_succ]
      refine wpAnyH_ready (rs := [6]) (by kernel_rfl) (by simp) ?_
      refine AllReadyH.cons (o := { dst := some 60, op := Op.call { callee := Callee.value (Operand.func 7), args := #[Operand.tmp 59], argTypes := #[48] }, type := 52, pos := "more.go:25", after := #[{ on := 5, ground := Ground.data }, { on := 4, ground := Ground.chain }], guard := none }) rfl (fun K hK => ?_) AllReadyH.nil
      go_simp
      refine (Try.footPut w2b X (by have := HXY.out; omega) (by have := HXY.out; omega) HCR.out three_chk).mono ?_
      rintro x w3b ⟨v, rfl, hob, hb3⟩
      obtain ⟨A, cv, rfl, hdi⟩ := hob.di
      obtain ⟨fn, hfn⟩ : ∃ fn, (footB X three).length = fn := ⟨_, rfl⟩
      rw [hfn] at hdi ⊢
      have B3 := Lib.hid (B2.out.trans (hb3.mono B2.out.size))
      have HDI := Lib.hid hdi
      clear hob hb3 hdi hfn
      refine hK.out _ _ ?_ (fun hHeld => ?_)
      · exact cellW V.out B3.out
      clear hK K
      try simp only [Act.put, List.setIfInBounds_toArray, List.set_cons_zero, List.set_cons_succ]
      refine wpAnyH_take (i := 7) (oi := { dst := some 53, op := Op.move (Operand.tmp 60), type := 52, pos := "more.go:25", after := #[{ on := 6, ground := Ground.data }], guard := none }) (v := ?_) rfl (by kernel_rfl) (by kernel_rfl) (by kernel_rfl) (fun _ _ _ h => h) (Or.inl ⟨by rfl, ?_⟩) (by assumption) ?_
      rotate_left
      · (intro w hSw; (try dsimp only at hSw); go_simp; try with_reducible rfl)
      try simp only [Act.put, List.setIfInBounds_toArray, List.set_cons_zero, List.set_cons_succ]
      refine wpAnyH_take (i := 8) (oi := { dst := some 61, op := Op.extract (Operand.tmp 53) 0, type := 50, pos := "more.go:25", after := #[{ on := 7, ground := Ground.data }], guard := none }) (v := ?_) rfl (by kernel_rfl) (by kernel_rfl) (by kernel_rfl) (fun _ _ _ h => h) (Or.inl ⟨by rfl, ?_⟩) (by assumption) ?_
      rotate_left
      · (intro w hSw; (try dsimp only at hSw); go_simp; try with_reducible rfl)
      try simp only [Act.put, List.setIfInBounds_toArray, List.set_cons_zero, List.set_cons_succ]
      refine wpAnyH_take (i := 9) (oi := { dst := some 62, op := Op.extract (Operand.tmp 53) 1, type := 51, pos := "more.go:25", after := #[{ on := 7, ground := Ground.data }, { on := 10, ground := Ground.gcOnly Departure.lateStores }], guard := none }) (v := ?_) rfl (by kernel_rfl) (by kernel_rfl) (by kernel_rfl) (fun _ _ _ h => h) (Or.inl ⟨by rfl, ?_⟩) (by assumption) ?_
      rotate_left
      · (intro w hSw; (try dsimp only at hSw); go_simp; try with_reducible rfl)
      try simp only [Act.put, List.setIfInBounds_toArray, List.set_cons_zero, List.set_cons_succ]
      refine wpAnyH_take (i := 10) (oi := { dst := some 13, op := Op.assign (Operand.tmp 61), type := 50, pos := "more.go:25", after := #[{ on := 8, ground := Ground.data }, { on := 6, ground := Ground.chain }, { on := 0, ground := Ground.phase }, { on := 1, ground := Ground.phase }, { on := 2, ground := Ground.phase }, { on := 3, ground := Ground.phase }, { on := 4, ground := Ground.phase }, { on := 5, ground := Ground.phase }, { on := 6, ground := Ground.phase }, { on := 7, ground := Ground.phase }, { on := 8, ground := Ground.phase }, { on := 9, ground := Ground.textOnly Departure.lateStores }], guard := none }) (v := ?_) rfl (by kernel_rfl) (by kernel_rfl) (by kernel_rfl) (fun _ _ _ h => h) (Or.inl ⟨by rfl, ?_⟩) (by assumption) ?_
      rotate_left
      · (intro w hSw; (try dsimp only at hSw); go_simp; try with_reducible rfl)
      try simp only [Act.put, List.setIfInBounds_toArray, List.set_cons_zero, List.set_cons_succ]
      refine wpAnyH_take (i := 11) (oi := { dst := some 14, op := Op.assign (Operand.tmp 62), type := 51, pos := "more.go:25", after := #[{ on := 9, ground := Ground.data }, { on := 10, ground := Ground.chain }, { on := 0, ground := Ground.phase }, { on := 1, ground := Ground.phase }, { on := 2, ground := Ground.phase }, { on := 3, ground := Ground.phase }, { on := 4, ground := Ground.phase }, { on := 5, ground := Ground.phase }, { on := 6, ground := Ground.phase }, { on := 7, ground := Ground.phase }, { on := 8, ground := Ground.phase }, { on := 9, ground := Ground.phase }, { on := 10, ground := Ground.phase }], guard := none }) (v := ?_) rfl (by kernel_rfl) (by kernel_rfl) (by kernel_rfl) (fun _ _ _ h => h) (Or.inl ⟨by rfl, ?_⟩) (by assumption) ?_
      rotate_left
      · (intro w hSw; (try dsimp only at hSw); go_simp; try with_reducible rfl)
      try simp only [Act.put, List.setIfInBounds_toArray, List.set_cons_zero, List.set_cons_succ]
      refine wpAnyH_done (by kernel_rfl) ?_ _
      refine NoPanic.normal ?_
      have HD3 := Lib.hid (HDS.out.below B3.out)
      clear HDS V B3 B2 HCR hHeld
      go_wp2_with fail
      refine (DS.page HD3.out (by omega) 3 (by omega) HDI.out).mono ?_
      rintro x w4 ⟨rfl, hd4⟩
      have V4 := cell_of_row w4 sl 0 _ 23 _ (hd4.get 0 rfl)
      simp at V4
      have HD4 := Lib.hid hd4
      clear hd4 HD3 HDI
      go_wp2_with fail
      refine (DS.super HD4.out (by omega) (by omega) X 3 1 (by have := HXY.out; omega) (okS_mk (by have := HXY.out; omega) (by omega))).mono ?_
      rintro x w5 ⟨rfl, hd5⟩
      have HN : Hid (GL w1 d X Y sl (0 + 1) w5) := Lib.hid ⟨_, hd5, HGT.out.step (by omega) rfl (by have := HXY.out; omega)⟩
      clear hd5 HD4 HGT V4
      go_wp2_with fail
      exact ⟨⟨0 + 1, by omega, rfl, HN⟩, by simp [intOf]⟩
    · obtain ⟨T, hds, hgt⟩ := HK.out
      have V := Lib.hid (cell_of_row W sl 1 _ 23 _ (hds.get 0 rfl))
      have HDS : Hid (DS w1 W d 12 T (2 * 1) [(sl, .cells #[.int .u64 X, .int .u64 Y] 23)]) := Lib.hid hds
      have HGT := Lib.hid hgt
      clear hds hgt HK hi2
      go_upto_region 11 with fail
      refine wp_region_noPanic ?_
      refine wp_region_held_drew (S := (fun W => W.cell? ⟨sl, 1, none⟩ = some (.int .u64 (Y : Nat)))) (by kernel_rfl) ?_ (fun hHeld => ?_)
      · exact V.out
      refine wpAnyH_take (i := 0) (oi := { dst := some 54, op := Op.move (Operand.tmp 11), type := 66, pos := "more.go:25", after := #[], guard := none }) (v := ?_) rfl (by kernel_rfl) (by kernel_rfl) (by kernel_rfl) (fun _ _ _ h => h) (Or.inl ⟨by rfl, ?_⟩) (by assumption) ?_
      rotate_left
      · (intro w hSw; (try dsimp only at hSw); go_simp; try with_reducible rfl)
      try simp only [Act.put, List.setIfInBounds_toArray, List.set_cons_zero, List.set_cons_succ]
      refine wpAnyH_take (i := 1) (oi := { dst := some 55, op := Op.move (Operand.tmp 12), type := 3, pos := "more.go:25", after := #[], guard := none }) (v := ?_) rfl (by kernel_rfl) (by kernel_rfl) (by kernel_rfl) (fun _ _ _ h => h) (Or.inl ⟨by rfl, ?_⟩) (by assumption) ?_
      rotate_left
      · (intro w hSw; (try dsimp only at hSw); go_simp; try with_reducible rfl)
      try simp only [Act.put, List.setIfInBounds_toArray, List.set_cons_zero, List.set_cons_succ]
      refine wpAnyH_take (i := 2) (oi := { dst := some 56, op := Op.indexAddr 66 (Operand.tmp 54) (Operand.tmp 55), type := 0, pos := "more.go:25", after := #[{ on := 0, ground := Ground.data }, { on := 1, ground := Ground.data }], guard := none }) (v := ?_) rfl (by kernel_rfl) (by kernel_rfl) (by kernel_rfl) (fun _ _ _ h => h) (Or.inl ⟨by rfl, ?_⟩) (by assumption) ?_
      rotate_left
      · (intro w hSw; (try dsimp only at hSw); go_simp; try with_reducible rfl)
      try simp only [Act.put, List.setIfInBounds_toArray, List.set_cons_zero, List.set_cons_succ]
      refine wpAnyH_take (i := 3) (oi := { dst := some 57, op := Op.load 23 (Operand.tmp 56), type := 23, pos := "more.go:25", after := #[{ on := 2, ground := Ground.data }], guard := none }) (v := ?_) rfl (by kernel_rfl) (by kernel_rfl) (by kernel_rfl) (fun _ _ _ h => h) (Or.inl ⟨by rfl, ?_⟩) (by assumption) ?_
      rotate_left
      · (intro w hSw; (try dsimp only at hSw); go_simp; try with_reducible rfl)
      try simp only [Act.put, List.setIfInBounds_toArray, List.set_cons_zero, List.set_cons_succ]
      refine wpAnyH_ready (rs := [4]) (by kernel_rfl) (by simp) ?_
      refine AllReadyH.cons (o := { dst := some 58, op := Op.call { callee := Callee.value (Operand.func 12), args := #[], argTypes := #[] }, type := 45, pos := "more.go:25", after := #[], guard := none }) rfl (fun K hK => ?_) AllReadyH.nil
      go_simp
      refine (Try.threeC _).mono ?_
      rintro x w2b ⟨g, c, rfl, hcr, hb2⟩
      have HCR := Lib.hid hcr
      have B2 : Hid (Below W.heap.size W w2b) := Lib.hid ((Below.refl _ W).drew.trans hb2)
      clear hcr hb2
      refine hK.out _ _ ?_ (fun hHeld => ?_)
      · exact cellW V.out B2.out
      clear hK K
      try simp only [Act.put, List.setIfInBounds_toArray, List.set_cons_zero, List.set_cons_succ]
      refine wpAnyH_take (i := 5) (oi := { dst := some 59, op := Op.build 48 #[(0, Operand.tmp 57), (1, Operand.tmp 58)], type := 48, pos := "more.go:25", after := #[{ on := 3, ground := Ground.data }, { on := 4, ground := Ground.data }], guard := none }) (v := ?_) rfl (by kernel_rfl) (by kernel_rfl) (by kernel_rfl) (fun _ _ _ h => h) (Or.inl ⟨by rfl, ?_⟩) (by assumption) ?_
      rotate_left
      · (intro w hSw; (try dsimp only at hSw); go_simp; try with_reducible rfl)
      try simp only [Act.put, List.setIfInBounds_toArray, List.set_cons_zero, List.set_cons_succ]
      refine wpAnyH_ready (rs := [6]) (by kernel_rfl) (by simp) ?_
      refine AllReadyH.cons (o := { dst := some 60, op := Op.call { callee := Callee.value (Operand.func 7), args := #[Operand.tmp 59], argTypes := #[48] }, type := 52, pos := "more.go:25", after := #[{ on := 5, ground := Ground.data }, { on := 4, ground := Ground.chain }], guard := none }) rfl (fun K hK => ?_) AllReadyH.nil
      go_simp
      refine (Try.footPut w2b Y (by have := HXY.out; omega) (by have := HXY.out; omega) HCR.out three_chk).mono ?_
      rintro x w3b ⟨v, rfl, hob, hb3⟩
      obtain ⟨A, cv, rfl, hdi⟩ := hob.di
      obtain ⟨fn, hfn⟩ : ∃ fn, (footB Y three).length = fn := ⟨_, rfl⟩
      rw [hfn] at hdi ⊢
      have B3 := Lib.hid (B2.out.trans (hb3.mono B2.out.size))
      have HDI := Lib.hid hdi
      clear hob hb3 hdi hfn
      refine hK.out _ _ ?_ (fun hHeld => ?_)
      · exact cellW V.out B3.out
      clear hK K
      try simp only [Act.put, List.setIfInBounds_toArray, List.set_cons_zero, List.set_cons_succ]
      refine wpAnyH_take (i := 7) (oi := { dst := some 53, op := Op.move (Operand.tmp 60), type := 52, pos := "more.go:25", after := #[{ on := 6, ground := Ground.data }], guard := none }) (v := ?_) rfl (by kernel_rfl) (by kernel_rfl) (by kernel_rfl) (fun _ _ _ h => h) (Or.inl ⟨by rfl, ?_⟩) (by assumption) ?_
      rotate_left
      · (intro w hSw; (try dsimp only at hSw); go_simp; try with_reducible rfl)
      try simp only [Act.put, List.setIfInBounds_toArray, List.set_cons_zero, List.set_cons_succ]
      refine wpAnyH_take (i := 8) (oi := { dst := some 61, op := Op.extract (Operand.tmp 53) 0, type := 50, pos := "more.go:25", after := #[{ on := 7, ground := Ground.data }], guard := none }) (v := ?_) rfl (by kernel_rfl) (by kernel_rfl) (by kernel_rfl) (fun _ _ _ h => h) (Or.inl ⟨by rfl, ?_⟩) (by assumption) ?_
      rotate_left
      · (intro w hSw; (try dsimp only at hSw); go_simp; try with_reducible rfl)
      try simp only [Act.put, List.setIfInBounds_toArray, List.set_cons_zero, List.set_cons_succ]
      refine wpAnyH_take (i := 9) (oi := { dst := some 62, op := Op.extract (Operand.tmp 53) 1, type := 51, pos := "more.go:25", after := #[{ on := 7, ground := Ground.data }, { on := 10, ground := Ground.gcOnly Departure.lateStores }], guard := none }) (v := ?_) rfl (by kernel_rfl) (by kernel_rfl) (by kernel_rfl) (fun _ _ _ h => h) (Or.inl ⟨by rfl, ?_⟩) (by assumption) ?_
      rotate_left
      · (intro w hSw; (try dsimp only at hSw); go_simp; try with_reducible rfl)
      try simp only [Act.put, List.setIfInBounds_toArray, List.set_cons_zero, List.set_cons_succ]
      refine wpAnyH_take (i := 10) (oi := { dst := some 13, op := Op.assign (Operand.tmp 61), type := 50, pos := "more.go:25", after := #[{ on := 8, ground := Ground.data }, { on := 6, ground := Ground.chain }, { on := 0, ground := Ground.phase }, { on := 1, ground := Ground.phase }, { on := 2, ground := Ground.phase }, { on := 3, ground := Ground.phase }, { on := 4, ground := Ground.phase }, { on := 5, ground := Ground.phase }, { on := 6, ground := Ground.phase }, { on := 7, ground := Ground.phase }, { on := 8, ground := Ground.phase }, { on := 9, ground := Ground.textOnly Departure.lateStores }], guard := none }) (v := ?_) rfl (by kernel_rfl) (by kernel_rfl) (by kernel_rfl) (fun _ _ _ h => h) (Or.inl ⟨by rfl, ?_⟩) (by assumption) ?_
      rotate_left
      · (intro w hSw; (try dsimp only at hSw); go_simp; try with_reducible rfl)
      try simp only [Act.put, List.setIfInBounds_toArray, List.set_cons_zero, List.set_cons_succ]
      refine wpAnyH_take (i := 11) (oi := { dst := some 14, op := Op.assign (Operand.tmp 62), type := 51, pos := "more.go:25", after := #[{ on := 9, ground := Ground.data }, { on := 10, ground := Ground.chain }, { on := 0, ground := Ground.phase }, { on := 1, ground := Ground.phase }, { on := 2, ground := Ground.phase }, { on := 3, ground := Ground.phase }, { on := 4, ground := Ground.phase }, { on := 5, ground := Ground.phase }, { on := 6, ground := Ground.phase }, { on := 7, ground := Ground.phase }, { on := 8, ground := Ground.phase }, { on := 9, ground := Ground.phase }, { on := 10, ground := Ground.phase }], guard := none }) (v := ?_) rfl (by kernel_rfl) (by kernel_rfl) (by kernel_rfl) (fun _ _ _ h => h) (Or.inl ⟨by rfl, ?_⟩) (by assumption) ?_
      rotate_left
      · (intro w hSw; (try dsimp only at hSw); go_simp; try with_reducible rfl)
      try simp only [Act.put, List.setIfInBounds_toArray, List.set_cons_zero, List.set_cons_succ]
      refine wpAnyH_done (by kernel_rfl) ?_ _
      refine NoPanic.normal ?_
      have HD3 := Lib.hid (HDS.out.below B3.out)
      clear HDS V B3 B2 HCR hHeld
      go_wp2_with fail
      refine (DS.page HD3.out (by omega) 6 (by omega) HDI.out).mono ?_
      rintro x w4 ⟨rfl, hd4⟩
      have V4 := cell_of_row w4 sl 1 _ 23 _ (hd4.get 0 rfl)
      simp at V4
      have HD4 := Lib.hid hd4
      clear hd4 HD3 HDI
      go_wp2_with fail
      refine (DS.super HD4.out (by omega) (by omega) Y 6 1 (by have := HXY.out; omega) (okS_mk (by have := HXY.out; omega) (by omega))).mono ?_
      rintro x w5 ⟨rfl, hd5⟩
      have HN : Hid (GL w1 d X Y sl (1 + 1) w5) := Lib.hid ⟨_, hd5, HGT.out.step (by omega) rfl (by have := HXY.out; omega)⟩
      clear hd5 HD4 HGT V4
      go_wp2_with fail
      exact ⟨⟨1 + 1, by omega, rfl, HN⟩, by simp [intOf]⟩
    · obtain ⟨T, hds, hgt⟩ := HK.out
      have E0 : Hid (blk T 0 = supB X 3 1 ∧ blk T 3 = pageB (footB X three)) := Lib.hid (hgt.2 0 (by omega))
      have E1 : Hid (blk T 1 = supB Y 6 1 ∧ blk T 6 = pageB (footB Y three)) := Lib.hid (hgt.2 1 (by omega))
      have HTL := Lib.hid hgt.1
      have HDS : Hid (DS w1 W d 12 T 4 [(sl, .cells #[.int .u64 X, .int .u64 Y] 23)]) := Lib.hid hds
      clear hds hgt HK hi2
      go_upto_region 18 with fail
      have hba := (Below.refl W.heap.size W).alloc (Nat.le_refl _) (.cells #[.bool true, .bool true] 71)
      have hna := heap_alloc_new W (.cells #[.bool true, .bool true] 71)
      have HSO0 : Hid (w1.heap.size ≤ W.heap.size ∧ sl < W.heap.size) := Lib.hid ⟨HDS.out.bel.size, Go.NR.heap_lt (HDS.out.get 0 rfl)⟩
      obtain ⟨w5, hw5⟩ : ∃ w5, W.alloc (.cells #[.bool true, .bool true] 71) = w5 := ⟨_, rfl⟩
      obtain ⟨so, hso⟩ : ∃ so, W.heap.size = so := ⟨_, rfl⟩
      rw [hw5] at hba hna
      have HD5 : Hid (DS w1 w5 d 12 T 4 [(so, .cells #[.bool true, .bool true] 71), (sl, .cells #[.int .u64 X, .int .u64 Y] 23)]) := Lib.hid (HDS.out.add hba (by omega) (by rw [← hso]; exact hna))
      rw [hso] at HSO0
      rw [hw5]
      rw [hso]
      have HNE : Hid (∀ p ∈ [(sl, Obj.cells #[.int .u64 X, .int .u64 Y] 23)], p.1 ≠ so) := Lib.hid (fun p hp e => by
        rcases List.mem_cons.1 hp with rfl | hp
        · have := HSO0.out; simp at e; omega
        · cases hp)
      have HG0 : Hid (Slot T 12 0 (X, 3, 1)) := Lib.hid (slot_ok (by have := HXY.out; omega) (by have := HXY.out; omega) (by have := HXY.out; omega) (by omega) (by omega) (by omega) E0.out.1 E0.out.2)
      have HG1 : Hid (Slot T 12 1 (Y, 6, 1)) := Lib.hid (slot_ok (by have := HXY.out; omega) (by have := HXY.out; omega) (by have := HXY.out; omega) (by omega) (by omega) (by omega) E1.out.1 E1.out.2)
      clear hba hna hw5 hso HDS
      have hm6 : (s : Int) % 6 = 0 ∨ (s : Int) % 6 = 1 ∨ (s : Int) % 6 = 2 ∨ (s : Int) % 6 = 3 ∨ (s : Int) % 6 = 4 ∨ (s : Int) % 6 = 5 := by omega
      rcases hm6 with hm | hm | hm | hm | hm | hm
      · go_upto_region 33 with fail
        have hlt : X < Y ∨ Y < X := by have := HXY.out; omega
        clear hm
        have H8 := HD5
        have HS0 := HG0
        have HS1 := HG1
        clear HD5 HG0 HG1 E0 E1 HTL
        rcases hlt with hlt | hlt
        · have HRES := Lib.hid (yng_r (a := 3) (b := 6) (show X ≠ 0 by have := HXY.out; omega) hlt)
          have dd : decide (Y < X) = false := decide_eq_false (by omega)
          have dd' : decide ((Y : Int) < (X : Int)) = false := decide_eq_false (by omega)
          clear hlt
          go_wp2_with fail
          refine (DS.find2 H8.out (by omega) HS0.out HS1.out (Y, 6, 1) HRES.out).mono ?_
          rintro x w9 ⟨A2, m2, c2, rfl, hb9⟩
          rw [if_neg (show ¬ (Y, 6, 1).1 = 0 by show ¬ Y = 0; have := HXY.out; omega)]
          dsimp only
          go_upto_region 34 with fail
          obtain ⟨wa, s22, s23, hwa, hs22, hs23, hba, h22, h23⟩ := alloc2 w9 (.cells #[.int .u64 Y, .int .i64 6, .int .i64 1] 70) (.cells #[.int .u64 Y, .slice A2 m2 c2, .slice none 0 0] 48)
          have HDA := (H8.out.below hb9).below hba
          have HBE := Lib.hid (B1.out.trans (HDA.bel.mono B1.out.size))
          have V0 := cell_of_row wa so 0 _ 71 _ (HDA.get 0 rfl)
          have V1 := cell_of_row wa so 1 _ 71 _ (HDA.get 0 rfl)
          have V2 := cell_of_row wa s22 0 _ 70 _ h22
          have V3 := cell_of_row wa s23 0 _ 48 _ h23
          simp at V0 V1 V2 V3
          rw [hwa]
          rw [hs22]
          rw [hs23]
          clear hwa hs22 hs23 hba h22 h23 HDA hb9 H8 HS0 HS1 HRES
          go_wp2_with fail
          go_ret
          exact ⟨rfl, HBE.out⟩
        · have HRES := Lib.hid (yng_l (a := 3) (b := 6) (show X ≠ 0 by have := HXY.out; omega) hlt)
          have dd : decide (Y < X) = true := decide_eq_true (by omega)
          have dd' : decide ((Y : Int) < (X : Int)) = true := decide_eq_true (by omega)
          clear hlt
          go_wp2_with fail
          refine (DS.find2 H8.out (by omega) HS0.out HS1.out (X, 3, 1) HRES.out).mono ?_
          rintro x w9 ⟨A2, m2, c2, rfl, hb9⟩
          rw [if_neg (show ¬ (X, 3, 1).1 = 0 by show ¬ X = 0; have := HXY.out; omega)]
          dsimp only
          go_upto_region 34 with fail
          obtain ⟨wa, s22, s23, hwa, hs22, hs23, hba, h22, h23⟩ := alloc2 w9 (.cells #[.int .u64 X, .int .i64 3, .int .i64 1] 70) (.cells #[.int .u64 X, .slice A2 m2 c2, .slice none 0 0] 48)
          have HDA := (H8.out.below hb9).below hba
          have HBE := Lib.hid (B1.out.trans (HDA.bel.mono B1.out.size))
          have V0 := cell_of_row wa so 0 _ 71 _ (HDA.get 0 rfl)
          have V1 := cell_of_row wa so 1 _ 71 _ (HDA.get 0 rfl)
          have V2 := cell_of_row wa s22 0 _ 70 _ h22
          have V3 := cell_of_row wa s23 0 _ 48 _ h23
          simp at V0 V1 V2 V3
          rw [hwa]
          rw [hs22]
          rw [hs23]
          clear hwa hs22 hs23 hba h22 h23 HDA hb9 H8 HS0 HS1 HRES
          go_wp2_with fail
          go_ret
          exact ⟨rfl, HBE.out⟩
      · have HT5 : Hid ((layB T 3 z64).length = 64 * 12) := Lib.hid (lay_len HTL.out (by omega) rfl)
        have HS0 : Hid (Slot (layB T 3 z64) 12 0 (0, 0, 0)) := Lib.hid (slot_page (by have := HXY.out; omega) (by have := HXY.out; omega) (by have := HXY.out; omega) (by omega) (by omega) (by omega) ((blk_else HTL.out (by omega) rfl (by omega) (by omega)).trans E0.out.1) (blk_same HTL.out (by omega) rfl))
        have HS1 : Hid (Slot (layB T 3 z64) 12 1 (Y, 6, 1)) := Lib.hid (slot_ok (by have := HXY.out; omega) (by have := HXY.out; omega) (by have := HXY.out; omega) (by omega) (by omega) (by omega) ((blk_else HTL.out (by omega) rfl (by omega) (by omega)).trans E1.out.1) ((blk_else HTL.out (by omega) rfl (by omega) (by omega)).trans E1.out.2))
        obtain ⟨T5, hT5⟩ : ∃ T5, layB T 3 z64 = T5 := ⟨_, rfl⟩
        clear HG0 HG1 E0 E1
        go_wp2_with (at_make; refine zeros64 rfl _ _ rfl rfl rfl ?_)
        rintro wz hbz hdz
        have BZ := Lib.hid hbz
        have HZ := Lib.hid hdz
        obtain ⟨gz, hgz⟩ : ∃ gz, w5.heap.size = gz := ⟨_, rfl⟩
        rw [hgz] at HZ
        rw [hgz]
        have HGZ : Hid (w5.heap.size ≤ gz) := Lib.hid (Nat.le_of_eq hgz)
        clear hbz hdz hgz
        go_wp2_with fail
        refine (DS.write HD5.out (by omega) BZ.out 3 (by omega) HGZ.out HZ.out).mono ?_
        rintro x w7 ⟨rfl, hd7⟩
        rw [hT5] at hd7 HS0 HS1 HT5
        have V0 := cell_of_row w7 so 0 _ 71 _ (hd7.get 0 rfl)
        have V1 := cell_of_row w7 so 1 _ 71 _ (hd7.get 0 rfl)
        simp at V0 V1
        have f0 := frozen_of_row w7 so 0 _ 71 (hd7.get 0 rfl)
        have f1 := frozen_of_row w7 so 1 _ 71 (hd7.get 0 rfl)
        have H7 := Lib.hid hd7
        clear hd7 BZ HZ HGZ HD5 hT5 HTL
        go_upto_region 33 with fail
        have H8 : Hid (DS w1 (w7.setCell ⟨so, 0, none⟩ (.bool false)) d 12 T5 5 [(so, .cells #[.bool false, .bool true] 71), (sl, .cells #[.int .u64 X, .int .u64 Y] 23)]) := Lib.hid (H7.out.flip HSO0.out.1 HNE.out 0 (.bool false) _ rfl)
        obtain ⟨w8, hw8⟩ : ∃ w8, w7.setCell ⟨so, 0, none⟩ (.bool false) = w8 := ⟨_, rfl⟩
        rw [hw8] at H8
        (try rw [hw8])
        clear hw8 f0 f1 V0 V1 H7 hm HT5
        have HRES := Lib.hid (yng_0r (b := 6) (show Y ≠ 0 by have := HXY.out; omega))
        go_wp2_with fail
        refine (DS.find2 H8.out (by omega) HS0.out HS1.out (Y, 6, 1) HRES.out).mono ?_
        rintro x w9 ⟨A2, m2, c2, rfl, hb9⟩
        rw [if_neg (show ¬ (Y, 6, 1).1 = 0 by show ¬ Y = 0; have := HXY.out; omega)]
        dsimp only
        go_upto_region 34 with fail
        obtain ⟨wa, s22, s23, hwa, hs22, hs23, hba, h22, h23⟩ := alloc2 w9 (.cells #[.int .u64 Y, .int .i64 6, .int .i64 1] 70) (.cells #[.int .u64 Y, .slice A2 m2 c2, .slice none 0 0] 48)
        have HDA := (H8.out.below hb9).below hba
        have HBE := Lib.hid (B1.out.trans (HDA.bel.mono B1.out.size))
        have V0 := cell_of_row wa so 0 _ 71 _ (HDA.get 0 rfl)
        have V1 := cell_of_row wa so 1 _ 71 _ (HDA.get 0 rfl)
        have V2 := cell_of_row wa s22 0 _ 70 _ h22
        have V3 := cell_of_row wa s23 0 _ 48 _ h23
        simp at V0 V1 V2 V3
        rw [hwa]
        rw [hs22]
        rw [hs23]
        clear hwa hs22 hs23 hba h22 h23 HDA hb9 H8 HS0 HS1 HRES
        go_wp2_with fail
        go_ret
        exact ⟨rfl, HBE.out⟩
      · have HT5 : Hid ((layB T 6 z64).length = 64 * 12) := Lib.hid (lay_len HTL.out (by omega) rfl)
        have HS0 : Hid (Slot (layB T 6 z64) 12 0 (X, 3, 1)) := Lib.hid (slot_ok (by have := HXY.out; omega) (by have := HXY.out; omega) (by have := HXY.out; omega) (by omega) (by omega) (by omega) ((blk_else HTL.out (by omega) rfl (by omega) (by omega)).trans E0.out.1) ((blk_else HTL.out (by omega) rfl (by omega) (by omega)).trans E0.out.2))
        have HS1 : Hid (Slot (layB T 6 z64) 12 1 (0, 0, 0)) := Lib.hid (slot_page (by have := HXY.out; omega) (by have := HXY.out; omega) (by have := HXY.out; omega) (by omega) (by omega) (by omega) ((blk_else HTL.out (by omega) rfl (by omega) (by omega)).trans E1.out.1) (blk_same HTL.out (by omega) rfl))
        obtain ⟨T5, hT5⟩ : ∃ T5, layB T 6 z64 = T5 := ⟨_, rfl⟩
        clear HG0 HG1 E0 E1
        go_wp2_with (at_make; refine zeros64 rfl _ _ rfl rfl rfl ?_)
        rintro wz hbz hdz
        have BZ := Lib.hid hbz
        have HZ := Lib.hid hdz
        obtain ⟨gz, hgz⟩ : ∃ gz, w5.heap.size = gz := ⟨_, rfl⟩
        rw [hgz] at HZ
        rw [hgz]
        have HGZ : Hid (w5.heap.size ≤ gz) := Lib.hid (Nat.le_of_eq hgz)
        clear hbz hdz hgz
        go_wp2_with fail
        refine (DS.write HD5.out (by omega) BZ.out 6 (by omega) HGZ.out HZ.out).mono ?_
        rintro x w7 ⟨rfl, hd7⟩
        rw [hT5] at hd7 HS0 HS1 HT5
        have V0 := cell_of_row w7 so 0 _ 71 _ (hd7.get 0 rfl)
        have V1 := cell_of_row w7 so 1 _ 71 _ (hd7.get 0 rfl)
        simp at V0 V1
        have f0 := frozen_of_row w7 so 0 _ 71 (hd7.get 0 rfl)
        have f1 := frozen_of_row w7 so 1 _ 71 (hd7.get 0 rfl)
        have H7 := Lib.hid hd7
        clear hd7 BZ HZ HGZ HD5 hT5 HTL
        go_upto_region 33 with fail
        have H8 : Hid (DS w1 (w7.setCell ⟨so, 1, none⟩ (.bool false)) d 12 T5 5 [(so, .cells #[.bool true, .bool false] 71), (sl, .cells #[.int .u64 X, .int .u64 Y] 23)]) := Lib.hid (H7.out.flip HSO0.out.1 HNE.out 1 (.bool false) _ rfl)
        obtain ⟨w8, hw8⟩ : ∃ w8, w7.setCell ⟨so, 1, none⟩ (.bool false) = w8 := ⟨_, rfl⟩
        rw [hw8] at H8
        (try rw [hw8])
        clear hw8 f0 f1 V0 V1 H7 hm HT5
        have HRES := Lib.hid (yng_l0 (a := 3) (show X ≠ 0 by have := HXY.out; omega))
        go_wp2_with fail
        refine (DS.find2 H8.out (by omega) HS0.out HS1.out (X, 3, 1) HRES.out).mono ?_
        rintro x w9 ⟨A2, m2, c2, rfl, hb9⟩
        rw [if_neg (show ¬ (X, 3, 1).1 = 0 by show ¬ X = 0; have := HXY.out; omega)]
        dsimp only
        go_upto_region 34 with fail
        obtain ⟨wa, s22, s23, hwa, hs22, hs23, hba, h22, h23⟩ := alloc2 w9 (.cells #[.int .u64 X, .int .i64 3, .int .i64 1] 70) (.cells #[.int .u64 X, .slice A2 m2 c2, .slice none 0 0] 48)
        have HDA := (H8.out.below hb9).below hba
        have HBE := Lib.hid (B1.out.trans (HDA.bel.mono B1.out.size))
        have V0 := cell_of_row wa so 0 _ 71 _ (HDA.get 0 rfl)
        have V1 := cell_of_row wa so 1 _ 71 _ (HDA.get 0 rfl)
        have V2 := cell_of_row wa s22 0 _ 70 _ h22
        have V3 := cell_of_row wa s23 0 _ 48 _ h23
        simp at V0 V1 V2 V3
        rw [hwa]
        rw [hs22]
        rw [hs23]
        clear hwa hs22 hs23 hba h22 h23 HDA hb9 H8 HS0 HS1 HRES
        go_wp2_with fail
        go_ret
        exact ⟨rfl, HBE.out⟩
      · have HT5 : Hid ((layB T 0 z64).length = 64 * 12) := Lib.hid (lay_len HTL.out (by omega) rfl)
        have HS0 : Hid (Slot (layB T 0 z64) 12 0 (0, 0, 0)) := Lib.hid (slot_none (blk_same HTL.out (by omega) rfl))
        have HS1 : Hid (Slot (layB T 0 z64) 12 1 (Y, 6, 1)) := Lib.hid (slot_ok (by have := HXY.out; omega) (by have := HXY.out; omega) (by have := HXY.out; omega) (by omega) (by omega) (by omega) ((blk_else HTL.out (by omega) rfl (by omega) (by omega)).trans E1.out.1) ((blk_else HTL.out (by omega) rfl (by omega) (by omega)).trans E1.out.2))
        obtain ⟨T5, hT5⟩ : ∃ T5, layB T 0 z64 = T5 := ⟨_, rfl⟩
        clear HG0 HG1 E0 E1
        go_wp2_with (at_make; refine zeros64 rfl _ _ rfl rfl rfl ?_)
        rintro wz hbz hdz
        have BZ := Lib.hid hbz
        have HZ := Lib.hid hdz
        obtain ⟨gz, hgz⟩ : ∃ gz, w5.heap.size = gz := ⟨_, rfl⟩
        rw [hgz] at HZ
        rw [hgz]
        have HGZ : Hid (w5.heap.size ≤ gz) := Lib.hid (Nat.le_of_eq hgz)
        clear hbz hdz hgz
        go_wp2_with fail
        refine (DS.write HD5.out (by omega) BZ.out 0 (by omega) HGZ.out HZ.out).mono ?_
        rintro x w7 ⟨rfl, hd7⟩
        rw [hT5] at hd7 HS0 HS1 HT5
        have V0 := cell_of_row w7 so 0 _ 71 _ (hd7.get 0 rfl)
        have V1 := cell_of_row w7 so 1 _ 71 _ (hd7.get 0 rfl)
        simp at V0 V1
        have f0 := frozen_of_row w7 so 0 _ 71 (hd7.get 0 rfl)
        have f1 := frozen_of_row w7 so 1 _ 71 (hd7.get 0 rfl)
        have H7 := Lib.hid hd7
        clear hd7 BZ HZ HGZ HD5 hT5 HTL
        go_upto_region 33 with fail
        have H8 : Hid (DS w1 (w7.setCell ⟨so, 0, none⟩ (.bool false)) d 12 T5 5 [(so, .cells #[.bool false, .bool true] 71), (sl, .cells #[.int .u64 X, .int .u64 Y] 23)]) := Lib.hid (H7.out.flip HSO0.out.1 HNE.out 0 (.bool false) _ rfl)
        obtain ⟨w8, hw8⟩ : ∃ w8, w7.setCell ⟨so, 0, none⟩ (.bool false) = w8 := ⟨_, rfl⟩
        rw [hw8] at H8
        (try rw [hw8])
        clear hw8 f0 f1 V0 V1 H7 hm HT5
        have HRES := Lib.hid (yng_0r (b := 6) (show Y ≠ 0 by have := HXY.out; omega))
        go_wp2_with fail
        refine (DS.find2 H8.out (by omega) HS0.out HS1.out (Y, 6, 1) HRES.out).mono ?_
        rintro x w9 ⟨A2, m2, c2, rfl, hb9⟩
        rw [if_neg (show ¬ (Y, 6, 1).1 = 0 by show ¬ Y = 0; have := HXY.out; omega)]
        dsimp only
        go_upto_region 34 with fail
        obtain ⟨wa, s22, s23, hwa, hs22, hs23, hba, h22, h23⟩ := alloc2 w9 (.cells #[.int .u64 Y, .int .i64 6, .int .i64 1] 70) (.cells #[.int .u64 Y, .slice A2 m2 c2, .slice none 0 0] 48)
        have HDA := (H8.out.below hb9).below hba
        have HBE := Lib.hid (B1.out.trans (HDA.bel.mono B1.out.size))
        have V0 := cell_of_row wa so 0 _ 71 _ (HDA.get 0 rfl)
        have V1 := cell_of_row wa so 1 _ 71 _ (HDA.get 0 rfl)
        have V2 := cell_of_row wa s22 0 _ 70 _ h22
        have V3 := cell_of_row wa s23 0 _ 48 _ h23
        simp at V0 V1 V2 V3
        rw [hwa]
        rw [hs22]
        rw [hs23]
        clear hwa hs22 hs23 hba h22 h23 HDA hb9 H8 HS0 HS1 HRES
        go_wp2_with fail
        go_ret
        exact ⟨rfl, HBE.out⟩
      · have HT5 : Hid ((layB T 1 z64).length = 64 * 12) := Lib.hid (lay_len HTL.out (by omega) rfl)
        have HS0 : Hid (Slot (layB T 1 z64) 12 0 (X, 3, 1)) := Lib.hid (slot_ok (by have := HXY.out; omega) (by have := HXY.out; omega) (by have := HXY.out; omega) (by omega) (by omega) (by omega) ((blk_else HTL.out (by omega) rfl (by omega) (by omega)).trans E0.out.1) ((blk_else HTL.out (by omega) rfl (by omega) (by omega)).trans E0.out.2))
        have HS1 : Hid (Slot (layB T 1 z64) 12 1 (0, 0, 0)) := Lib.hid (slot_none (blk_same HTL.out (by omega) rfl))
        obtain ⟨T5, hT5⟩ : ∃ T5, layB T 1 z64 = T5 := ⟨_, rfl⟩
        clear HG0 HG1 E0 E1
        go_wp2_with (at_make; refine zeros64 rfl _ _ rfl rfl rfl ?_)
        rintro wz hbz hdz
        have BZ := Lib.hid hbz
        have HZ := Lib.hid hdz
        obtain ⟨gz, hgz⟩ : ∃ gz, w5.heap.size = gz := ⟨_, rfl⟩
        rw [hgz] at HZ
        rw [hgz]
        have HGZ : Hid (w5.heap.size ≤ gz) := Lib.hid (Nat.le_of_eq hgz)
        clear hbz hdz hgz
        go_wp2_with fail
        refine (DS.write HD5.out (by omega) BZ.out 1 (by omega) HGZ.out HZ.out).mono ?_
        rintro x w7 ⟨rfl, hd7⟩
        rw [hT5] at hd7 HS0 HS1 HT5
        have V0 := cell_of_row w7 so 0 _ 71 _ (hd7.get 0 rfl)
        have V1 := cell_of_row w7 so 1 _ 71 _ (hd7.get 0 rfl)
        simp at V0 V1
        have f0 := frozen_of_row w7 so 0 _ 71 (hd7.get 0 rfl)
        have f1 := frozen_of_row w7 so 1 _ 71 (hd7.get 0 rfl)
        have H7 := Lib.hid hd7
        clear hd7 BZ HZ HGZ HD5 hT5 HTL
        go_upto_region 33 with fail
        have H8 : Hid (DS w1 (w7.setCell ⟨so, 1, none⟩ (.bool false)) d 12 T5 5 [(so, .cells #[.bool true, .bool false] 71), (sl, .cells #[.int .u64 X, .int .u64 Y] 23)]) := Lib.hid (H7.out.flip HSO0.out.1 HNE.out 1 (.bool false) _ rfl)
        obtain ⟨w8, hw8⟩ : ∃ w8, w7.setCell ⟨so, 1, none⟩ (.bool false) = w8 := ⟨_, rfl⟩
        rw [hw8] at H8
        (try rw [hw8])
        clear hw8 f0 f1 V0 V1 H7 hm HT5
        have HRES := Lib.hid (yng_l0 (a := 3) (show X ≠ 0 by have := HXY.out; omega))
        go_wp2_with fail
        refine (DS.find2 H8.out (by omega) HS0.out HS1.out (X, 3, 1) HRES.out).mono ?_
        rintro x w9 ⟨A2, m2, c2, rfl, hb9⟩
        rw [if_neg (show ¬ (X, 3, 1).1 = 0 by show ¬ X = 0; have := HXY.out; omega)]
        dsimp only
        go_upto_region 34 with fail
        obtain ⟨wa, s22, s23, hwa, hs22, hs23, hba, h22, h23⟩ := alloc2 w9 (.cells #[.int .u64 X, .int .i64 3, .int .i64 1] 70) (.cells #[.int .u64 X, .slice A2 m2 c2, .slice none 0 0] 48)
        have HDA := (H8.out.below hb9).below hba
        have HBE := Lib.hid (B1.out.trans (HDA.bel.mono B1.out.size))
        have V0 := cell_of_row wa so 0 _ 71 _ (HDA.get 0 rfl)
        have V1 := cell_of_row wa so 1 _ 71 _ (HDA.get 0 rfl)
        have V2 := cell_of_row wa s22 0 _ 70 _ h22
        have V3 := cell_of_row wa s23 0 _ 48 _ h23
        simp at V0 V1 V2 V3
        rw [hwa]
        rw [hs22]
        rw [hs23]
        clear hwa hs22 hs23 hba h22 h23 HDA hb9 H8 HS0 HS1 HRES
        go_wp2_with fail
        go_ret
        exact ⟨rfl, HBE.out⟩
      · have HT5 : Hid ((layB T 0 (supB X 6 1)).length = 64 * 12) := Lib.hid (lay_len HTL.out (by omega) (supB_len X 6 1))
        have HS0 : Hid (Slot (layB T 0 (supB X 6 1)) 12 0 (0, 0, 0)) := Lib.hid (slot_other (e := X) (a := 6) (e' := Y) (by have := HXY.out; omega) (by have := HXY.out; omega) (by have := HXY.out; omega) (by omega) (by omega) (by omega) (blk_same HTL.out (by omega) (supB_len X 6 1)) (by have := HXY.out; omega) (by have := HXY.out; omega) (by have := HXY.out; omega) ((blk_else HTL.out (by omega) (supB_len X 6 1) (by omega) (by omega)).trans E1.out.2))
        have HS1 : Hid (Slot (layB T 0 (supB X 6 1)) 12 1 (Y, 6, 1)) := Lib.hid (slot_ok (by have := HXY.out; omega) (by have := HXY.out; omega) (by have := HXY.out; omega) (by omega) (by omega) (by omega) ((blk_else HTL.out (by omega) (supB_len X 6 1) (by omega) (by omega)).trans E1.out.1) ((blk_else HTL.out (by omega) (supB_len X 6 1) (by omega) (by omega)).trans E1.out.2))
        obtain ⟨T5, hT5⟩ : ∃ T5, layB T 0 (supB X 6 1) = T5 := ⟨_, rfl⟩
        clear HG0 HG1 E0 E1
        go_wp2_with fail
        refine (Try.sput w5 X 6 1 (by have := HXY.out; omega) ⟨by omega, by omega⟩ ⟨by omega, by omega⟩).mono ?_
        rintro x w6 h10
        have h3 : ∃ v, x = .returned (.tuple #[v, .int .i64 0]) ∧ OB w6 w5.heap.size v (supB X 6 1) ∧ Below w5.heap.size w5 w6 := by
          rcases h10 with ⟨_, ⟨v, hx, ho⟩, hb⟩ | ⟨hx, _⟩
          · exact ⟨v, hx, ho, hb⟩
          · exact absurd (okS_mk (e := X) (a := 6) (by have := HXY.out; omega) (by omega)) hx
        clear h10
        obtain ⟨v, rfl, ho, hbz⟩ := h3
        obtain ⟨A4, c4, rfl, hdi⟩ := ho.di
        rw [supB_len] at hdi
        rw [supB_len]
        obtain ⟨gz, og, rfl⟩ := hdi.place (by omega)
        have HGZ : Hid (w5.heap.size ≤ gz) := Lib.hid (ho.lt gz (by simp [Value.ownBlock])).1
        have BZ := Lib.hid hbz
        have HZ := Lib.hid hdi
        clear ho hdi hbz
        go_wp2_with fail
        refine (DS.write HD5.out (by omega) BZ.out 0 (by omega) HGZ.out HZ.out).mono ?_
        rintro x w7 ⟨rfl, hd7⟩
        rw [hT5] at hd7 HS0 HS1 HT5
        have V0 := cell_of_row w7 so 0 _ 71 _ (hd7.get 0 rfl)
        have V1 := cell_of_row w7 so 1 _ 71 _ (hd7.get 0 rfl)
        simp at V0 V1
        have f0 := frozen_of_row w7 so 0 _ 71 (hd7.get 0 rfl)
        have H7 := Lib.hid hd7
        clear hd7 BZ HZ HGZ HD5 hT5 HTL
        go_upto_region 33 with fail
        have H8 : Hid (DS w1 (w7.setCell ⟨so, 0, none⟩ (.bool false)) d 12 T5 5 [(so, .cells #[.bool false, .bool true] 71), (sl, .cells #[.int .u64 X, .int .u64 Y] 23)]) := Lib.hid (H7.out.flip HSO0.out.1 HNE.out 0 (.bool false) _ rfl)
        obtain ⟨w8, hw8⟩ : ∃ w8, w7.setCell ⟨so, 0, none⟩ (.bool false) = w8 := ⟨_, rfl⟩
        rw [hw8] at H8
        (try rw [hw8])
        clear hw8 f0 V0 V1 H7 hm HT5
        have HRES := Lib.hid (yng_0r (b := 6) (show Y ≠ 0 by have := HXY.out; omega))
        go_wp2_with fail
        refine (DS.find2 H8.out (by omega) HS0.out HS1.out (Y, 6, 1) HRES.out).mono ?_
        rintro x w9 ⟨A2, m2, c2, rfl, hb9⟩
        rw [if_neg (show ¬ (Y, 6, 1).1 = 0 by show ¬ Y = 0; have := HXY.out; omega)]
        dsimp only
        go_upto_region 34 with fail
        obtain ⟨wa, s22, s23, hwa, hs22, hs23, hba, h22, h23⟩ := alloc2 w9 (.cells #[.int .u64 Y, .int .i64 6, .int .i64 1] 70) (.cells #[.int .u64 Y, .slice A2 m2 c2, .slice none 0 0] 48)
        have HDA := (H8.out.below hb9).below hba
        have HBE := Lib.hid (B1.out.trans (HDA.bel.mono B1.out.size))
        have V0 := cell_of_row wa so 0 _ 71 _ (HDA.get 0 rfl)
        have V1 := cell_of_row wa so 1 _ 71 _ (HDA.get 0 rfl)
        have V2 := cell_of_row wa s22 0 _ 70 _ h22
        have V3 := cell_of_row wa s23 0 _ 48 _ h23
        simp at V0 V1 V2 V3
        rw [hwa]
        rw [hs22]
        rw [hs23]
        clear hwa hs22 hs23 hba h22 h23 HDA hb9 H8 HS0 HS1 HRES
        go_wp2_with fail
        go_ret
        exact ⟨rfl, HBE.out⟩
end Go.Proofs.Ytfblhcphbcghpaa
end
