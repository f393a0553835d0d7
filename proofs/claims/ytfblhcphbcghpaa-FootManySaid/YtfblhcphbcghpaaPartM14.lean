/-
  Texts of a proof over the translated program: proved evaluators and walks, part 14 of 14.
-/
import Derived.Test.YtfblhcphbcghpaaPartM13
import Derived.Below
import Derived.Deep.Cut
import Derived.Deep.Draws
import Derived.Deep.OwnRows
import Derived.Deep.RegionHeld3
import Derived.Deep.RegionLaw
import Derived.Deep.RegionLawGrows
import Derived.Deep.RegionWith
import Derived.Handy
import Derived.IntWalk
import Derived.Laws.AppendOwn
import Derived.Laws.AppendOwnNone
import Derived.Laws.BitsLemmas
import Derived.Laws.BytesArg
import Derived.Laws.BytesString
import Derived.Laws.Closers25b
import Derived.Laws.CopyOwn
import Derived.Laws.MakeOwn
import Derived.Laws.OwnMore
import Derived.Laws.Rows
import Derived.Laws.StructEq
import Derived.Lib.AppendStr
import Derived.Lib.Hide
import Derived.Lib.SlBytesRow
import Derived.LoopTactic
import Derived.Outline
import Derived.OwnWalk
import Derived.Scope
import Derived.ScopeJumps
import Derived.Test.YtfblhcphbcghpaaProg
import Derived.WalkKit
import Derived.WalkMore
import Derived.WalkSpells
set_option linter.unusedVariables false
set_option linter.unusedSimpArgs false
set_option linter.unusedSectionVars false
set_option linter.unnecessarySimpa false
section
namespace Go.Proofs.Ytfblhcphbcghpaa
open Go.RowKit
open Go.NR (At)
set_option maxRecDepth 100000
theorem exR_01 (q : GQ) (k : Nat) : exR q k = 0 ∨ exR q k = 1 := by unfold exR; split <;> simp
set_option maxHeartbeats 16000000 in
theorem Try.checkChunk (w : World) (q : GQ) (k : Nat) (hq : q.near k) {g c : Nat} (hG : G1 w 0 g c q.k) :
    Calls Try.prog 59 #[.agg #[.int .i64 q.r, .slice (some ⟨g, 0, none⟩) 1 c], .int .i64 0, .int .i64 1, .int .i64 k] w fun x w' => x = .returned (.int .i64 (exR q k)) ∧ Below w.heap.size w w' := by
  have HEX := Lib.hid (fun W => Try.extR W q k hq)
  have HCK := Lib.hid (fun W => Try.statCheck W q.r q.lo q.hi hq.ok.r hq.ok.r2 hq.ok.l)
  obtain ⟨R, hR⟩ : ∃ R, exR q k = R := ⟨_, rfl⟩
  have h01 := exR_01 q k
  rw [hR] at h01 HEX ⊢
  obtain ⟨qa, qn, qr, qlo, qhi⟩ := q
  have hb1 := ((Below.refl _ w).alloc (Nat.le_refl _) (.cells #[.int .i64 qr, .slice (some ⟨g, 0, none⟩) 1 c] 79))
  have hn1 := heap_alloc_new w (.cells #[.int .i64 qr, .slice (some ⟨g, 0, none⟩) 1 c] 79)
  obtain ⟨w1, hw1⟩ : ∃ w1, w.alloc (.cells #[.int .i64 qr, .slice (some ⟨g, 0, none⟩) 1 c] 79) = w1 := ⟨_, rfl⟩
  obtain ⟨sx, hsx⟩ : ∃ sx, w.heap.size = sx := ⟨_, rfl⟩
  rw [hw1] at hb1 hn1
  have HG := Lib.hid (hG.below hb1)
  rw [hsx] at hn1
  have WB := Lib.hid hb1
  have HX := Lib.hid hn1
  have hc1 : 1 ≤ c := hG.2.1
  have hcm : c ≤ maxLen := hG.2.2.1
  dsimp only at *
  clear hb1 hn1 hG hR hq
  unfold scl at HCK
  go_enter Try.func59, Try.ntmps59
  go_upto_region 1 with fail
  (try rw [hw1])
  (try rw [hsx])
  clear hw1 hsx
  have V1 := cell_of_row w1 sx 1 _ 79 _ HX.out
  simp at V1
  have U0 : w1.cell? ⟨g, 0, none⟩ = some (.int .i64 qa) := HG.out.2.2.2 0 _ rfl
  have U1 : w1.cell? ⟨g, 1, none⟩ = some (.int .i64 qn) := HG.out.2.2.2 1 _ rfl
  have U2 : w1.cell? ⟨g, 2, none⟩ = some (.int .i64 1) := HG.out.2.2.2 2 _ rfl
  have U3 : w1.cell? ⟨g, 3, none⟩ = some (.int .i64 qr) := HG.out.2.2.2 3 _ rfl
  have U4 : w1.cell? ⟨g, 4, none⟩ = some (.int .i64 0) := HG.out.2.2.2 4 _ rfl
  have U5 : w1.cell? ⟨g, 5, none⟩ = some (.int .i64 1) := HG.out.2.2.2 5 _ rfl
  have U6 : w1.cell? ⟨g, 6, none⟩ = some (.int .i64 qlo) := HG.out.2.2.2 6 _ rfl
  have U7 : w1.cell? ⟨g, 7, none⟩ = some (.string ⟨#[]⟩) := HG.out.2.2.2 7 _ rfl
  have U8 : w1.cell? ⟨g, 8, none⟩ = some (.complex .f64 0 0) := HG.out.2.2.2 8 _ rfl
  have U9 : w1.cell? ⟨g, 9, none⟩ = some (.int .i64 1) := HG.out.2.2.2 9 _ rfl
  have U10 : w1.cell? ⟨g, 10, none⟩ = some (.int .i64 qhi) := HG.out.2.2.2 10 _ rfl
  have U11 : w1.cell? ⟨g, 11, none⟩ = some (.string ⟨#[]⟩) := HG.out.2.2.2 11 _ rfl
  have U12 : w1.cell? ⟨g, 12, none⟩ = some (.complex .f64 0 0) := HG.out.2.2.2 12 _ rfl
  have U13 : w1.cell? ⟨g, 13, none⟩ = some (.complex .f64 0 0) := HG.out.2.2.2 13 _ rfl
  have U14 : w1.cell? ⟨g, 14, none⟩ = some (.complex .f64 0 0) := HG.out.2.2.2 14 _ rfl
  have hsc := storeC
  go_upto_region 2 with fail
  clear hsc V1 U0 U1 U2 U3 U4 U5 U6 U7 U8 U9 U10 U11 U12 U13 U14
  have hb4 := ((Below.refl w1.heap.size w1).alloc (Nat.le_refl _) (.cells #[.int .i64 qa, .int .i64 qn, .int .i64 1, .int .i64 qr, .int .i64 0, .int .i64 1, .int .i64 qlo, .string ⟨#[]⟩, .complex .f64 0 0, .int .i64 1, .int .i64 qhi, .string ⟨#[]⟩, .complex .f64 0 0, .complex .f64 0 0, .complex .f64 0 0] 128))
  have hn4 := heap_alloc_new w1 (.cells #[.int .i64 qa, .int .i64 qn, .int .i64 1, .int .i64 qr, .int .i64 0, .int .i64 1, .int .i64 qlo, .string ⟨#[]⟩, .complex .f64 0 0, .int .i64 1, .int .i64 qhi, .string ⟨#[]⟩, .complex .f64 0 0, .complex .f64 0 0, .complex .f64 0 0] 128)
  obtain ⟨w4, hw4⟩ : ∃ w4, w1.alloc (.cells #[.int .i64 qa, .int .i64 qn, .int .i64 1, .int .i64 qr, .int .i64 0, .int .i64 1, .int .i64 qlo, .string ⟨#[]⟩, .complex .f64 0 0, .int .i64 1, .int .i64 qhi, .string ⟨#[]⟩, .complex .f64 0 0, .complex .f64 0 0, .complex .f64 0 0] 128) = w4 := ⟨_, rfl⟩
  obtain ⟨s9, hs9⟩ : ∃ s9, w1.heap.size = s9 := ⟨_, rfl⟩
  rw [hw4] at hb4 hn4
  rw [hs9] at hn4
  rw [hw4]
  (try rw [hs9])
  have K4 := Lib.hid hb4
  have HX4 := Lib.hid ((hb4.block sx (Go.NR.heap_lt HX.out)).trans HX.out)
  have HN4 := Lib.hid hn4
  clear hb4 hn4 hw4 hs9
  have A0 := cell_of_row w4 s9 0 _ 128 _ HN4.out
  have A1 := cell_of_row w4 s9 1 _ 128 _ HN4.out
  simp at A0 A1
  go_wp2_with fail
  refine (HEX.out w4).mono ?_
  rintro x w5 ⟨rfl, hb5⟩
  have K5 := Lib.hid (K4.out.trans (hb5.mono K4.out.size))
  have HX5 := Lib.hid ((hb5.block sx (Go.NR.heap_lt HX4.out)).trans HX4.out)
  have HN5 := Lib.hid ((hb5.block s9 (Go.NR.heap_lt HN4.out)).trans HN4.out)
  clear hb5 A0 A1
  rcases h01 with rfl | rfl
  · go_upto_region 5 with fail
    have B2 := cell_of_row w5 s9 2 _ 128 _ HN5.out
    have B3 := cell_of_row w5 s9 3 _ 128 _ HN5.out
    have B4 := cell_of_row w5 s9 4 _ 128 _ HN5.out
    have B5 := cell_of_row w5 s9 5 _ 128 _ HN5.out
    have B6 := cell_of_row w5 s9 6 _ 128 _ HN5.out
    have B7 := cell_of_row w5 s9 7 _ 128 _ HN5.out
    have B8 := cell_of_row w5 s9 8 _ 128 _ HN5.out
    have B9 := cell_of_row w5 s9 9 _ 128 _ HN5.out
    have B10 := cell_of_row w5 s9 10 _ 128 _ HN5.out
    have B11 := cell_of_row w5 s9 11 _ 128 _ HN5.out
    have B12 := cell_of_row w5 s9 12 _ 128 _ HN5.out
    have B13 := cell_of_row w5 s9 13 _ 128 _ HN5.out
    have B14 := cell_of_row w5 s9 14 _ 128 _ HN5.out
    simp at B2 B3 B4 B5 B6 B7 B8 B9 B10 B11 B12 B13 B14
    go_wp2_with fail
    refine (HCK.out w5).mono ?_
    rintro x w6 ⟨rfl, hb6⟩
    have K6 := Lib.hid (K5.out.trans (hb6.mono K5.out.size))
    have HX6 := Lib.hid ((hb6.block sx (Go.NR.heap_lt HX5.out)).trans HX5.out)
    have HN6 := Lib.hid ((hb6.block s9 (Go.NR.heap_lt HN5.out)).trans HN5.out)
    clear hb6 B2 B3 B4 B5 B6 B7 B8 B9 B10 B11 B12 B13 B14
    have A2 := cell_of_row w6 s9 2 _ 128 _ HN6.out
    have A3 := cell_of_row w6 s9 3 _ 128 _ HN6.out
    have A4 := cell_of_row w6 sx 0 _ 79 _ HX6.out
    have A5 := cell_of_row w6 sx 1 _ 79 _ HX6.out
    simp at A2 A3 A4 A5
    go_wp2_with fail
    go_loopw [48] (fun t W => W = w6 ∧ t = .int .i64 0) (fun _ _ => 0)
    case atStart => exact ⟨rfl, rfl⟩
    case round =>
      rename World => W
      obtain ⟨hW, rfl⟩ := hrel
      subst W
      go_wp2_with fail
      go_ret
      exact ⟨rfl, WB.out.trans (K6.out.mono WB.out.size)⟩
  · go_wp2_with fail
    go_ret
    exact ⟨rfl, WB.out.trans (K5.out.mono WB.out.size)⟩
set_option maxHeartbeats 16000000 in
theorem Try.groupCheck (w : World) (q : GQ) (k : Nat) (hq : q.near k) {g c : Nat} (hG : G1 w 0 g c q.k) {gs cg : Nat} (hC : CR w (some ⟨gs, 0, none⟩) 1 cg colA) :
    Calls Try.prog 27 #[.agg #[.int .i64 q.r, .slice (some ⟨g, 0, none⟩) 1 c], .slice (some ⟨gs, 0, none⟩) 1 cg, .int .i64 k] w fun x w' => x = .returned (.int .i64 (exR q k)) ∧ Below w.heap.size w w' := by
  have HQ := Lib.hid hq
  obtain ⟨R, hR⟩ : ∃ R, exR q k = R := ⟨_, rfl⟩
  have h01 := exR_01 q k
  rw [hR] at h01 ⊢
  have HR := Lib.hid hR
  have hr1 := hq.ok.r
  have hr2 := hq.ok.r2
  have hb1 := ((Below.refl _ w).alloc (Nat.le_refl _) (.cells #[.int .i64 q.r, .slice (some ⟨g, 0, none⟩) 1 c] 79))
  have hn1 := heap_alloc_new w (.cells #[.int .i64 q.r, .slice (some ⟨g, 0, none⟩) 1 c] 79)
  obtain ⟨w1, hw1⟩ : ∃ w1, w.alloc (.cells #[.int .i64 q.r, .slice (some ⟨g, 0, none⟩) 1 c] 79) = w1 := ⟨_, rfl⟩
  obtain ⟨sx, hsx⟩ : ∃ sx, w.heap.size = sx := ⟨_, rfl⟩
  rw [hw1] at hb1 hn1
  have HG := Lib.hid (hG.below hb1)
  have HC := Lib.hid (hC.below hb1)
  rw [hsx] at hn1
  have WB := Lib.hid hb1
  have HX := Lib.hid hn1
  clear hb1 hn1 hG hR hq hC
  go_enter Try.func27, Try.ntmps27
  go_wp2
  (try rw [hw1])
  (try rw [hsx])
  clear hw1 hsx
  have V0 := cell_of_row w1 sx 0 _ 79 _ HX.out
  have V1 := cell_of_row w1 sx 1 _ 79 _ HX.out
  simp at V0 V1
  refine Go.NR.wp_scope_once 0 (fun a' wr => ∃ i : Nat, i ≤ 1 ∧ Hid (Below w1.heap.size w1 wr) ∧ Hid (i = 1 → R = 0) ∧ ∃ u4 u5 u8 u9 u10 u11 u12 u13 u14 u15 u16 u17 u18 u19 u20 u21 u22 u23 u24 u25 u26 u27 u28 u29 u30 u31 u32 u33 u34 u35 u36 : Value, a' = { tmps := #[.agg #[.int .i64 q.r, .slice (some ⟨g, 0, none⟩) 1 c], .slice (some ⟨gs, 0, none⟩) 1 cg, .int .i64 k, .pointer (some ⟨sx, 0, none⟩), u4, u5, .int .i64 0, .int .i64 i, u8, u9, u10, u11, u12, u13, u14, u15, u16, u17, u18, u19, u20, u21, u22, u23, u24, u25, u26, u27, u28, u29, u30, u31, u32, u33, u34, u35, u36], defers := [] }) (fun a' _ => 2 - (intOf (a'.tmps.getD 7 undef)).toNat) rfl ?_ ?_
  · intro hJ
    go_wp2_with fail
    refine (Try.rowsMay q.r hr1 hr2 w1).mono ?_
    rintro x w4 ⟨rfl, hw4⟩
    rw [hw4]
    clear hw4 w4 V0 V1
    go_wp2_with (refine wp_label ?_; rename_i Q0 K0 hK; refine hK _ _ (hJ _ _ ?_); exact ⟨0, Nat.zero_le _, Lib.hid (Below.refl _ _), Lib.hid (fun h => absurd h (by decide)), _, _, _, _, _, _, _, _, _, _, _, _, _, _, _, _, _, _, _, _, _, _, _, _, _, _, _, _, _, _, _, rfl⟩)
  · rintro a' wr ⟨i, hi, HK, HI, u4, u5, u8, u9, u10, u11, u12, u13, u14, u15, u16, u17, u18, u19, u20, u21, u22, u23, u24, u25, u26, u27, u28, u29, u30, u31, u32, u33, u34, u35, u36, rfl⟩
    clear V0 V1
    have h01i : i = 0 ∨ i = 1 := by omega
    rcases h01i with rfl | rfl
    · go_upto_region 8 with fail
      have U0 := Lib.hid (cellW (cell_of_row w1 sx 0 _ 79 _ HX.out) HK.out)
      have U1 := Lib.hid (cellW (cell_of_row w1 sx 1 _ 79 _ HX.out) HK.out)
      have u2 : wr.cell? ⟨gs, 1, none⟩ = some (.int .i64 1) := by
        obtain ⟨b, e, _, h2⟩ := (HC.out.below HK.out).at' 0 ([97], 1) rfl
        cases e
        exact h2
      have U2 := Lib.hid u2
      clear u2
      refine wp_region_noPanic ?_
      refine wp_region_held_drew (S := (fun W => W.cell? ⟨sx, 0, none⟩ = some (.int .i64 q.r) ∧ W.cell? ⟨sx, 1, none⟩ = some (.slice (some ⟨g, 0, none⟩) 1 c) ∧ W.cell? ⟨gs, 1, none⟩ = some (.int .i64 1))) (by kernel_rfl) ?_ (fun hHeld => ?_)
      · exact ⟨U0.out, U1.out, U2.out⟩
      refine wpAnyH_take (i := 0) (oi := { dst := some 23, op := Op.load 79 (Operand.tmp 3), type := 79, pos := "group.go:102", after := #[], guard := none }) (v := ?_) rfl (by kernel_rfl) (by kernel_rfl) (by kernel_rfl) (fun _ _ _ h => h) (Or.inl ⟨by rfl, ?_⟩) (by assumption) ?_
      rotate_left
      · (intro w hSw; (try dsimp only at hSw); go_simp; try with_reducible rfl)
      try simp only [Act.put, List.setIfInBounds_toArray, List.set_cons_zero, List.set_cons_succ]
      refine wpAnyH_take (i := 1) (oi := { dst := some 24, op := Op.move (Operand.tmp 7), type := 3, pos := "group.go:102", after := #[], guard := none }) (v := ?_) rfl (by kernel_rfl) (by kernel_rfl) (by kernel_rfl) (fun _ _ _ h => h) (Or.inl ⟨by rfl, ?_⟩) (by assumption) ?_
      rotate_left
      · (intro w hSw; (try dsimp only at hSw); go_simp; try with_reducible rfl)
      try simp only [Act.put, List.setIfInBounds_toArray, List.set_cons_zero, List.set_cons_succ]
      refine wpAnyH_take (i := 2) (oi := { dst := some 25, op := Op.move (Operand.tmp 1), type := 45, pos := "group.go:102", after := #[], guard := none }) (v := ?_) rfl (by kernel_rfl) (by kernel_rfl) (by kernel_rfl) (fun _ _ _ h => h) (Or.inl ⟨by rfl, ?_⟩) (by assumption) ?_
      rotate_left
      · (intro w hSw; (try dsimp only at hSw); go_simp; try with_reducible rfl)
      try simp only [Act.put, List.setIfInBounds_toArray, List.set_cons_zero, List.set_cons_succ]
      refine wpAnyH_take (i := 3) (oi := { dst := some 26, op := Op.move (Operand.tmp 7), type := 3, pos := "group.go:102", after := #[], guard := none }) (v := ?_) rfl (by kernel_rfl) (by kernel_rfl) (by kernel_rfl) (fun _ _ _ h => h) (Or.inl ⟨by rfl, ?_⟩) (by assumption) ?_
      rotate_left
      · (intro w hSw; (try dsimp only at hSw); go_simp; try with_reducible rfl)
      try simp only [Act.put, List.setIfInBounds_toArray, List.set_cons_zero, List.set_cons_succ]
      refine wpAnyH_take (i := 4) (oi := { dst := some 27, op := Op.indexAddr 45 (Operand.tmp 25) (Operand.tmp 26), type := 0, pos := "group.go:102", after := #[{ on := 2, ground := Ground.data }, { on := 3, ground := Ground.data }], guard := none }) (v := ?_) rfl (by kernel_rfl) (by kernel_rfl) (by kernel_rfl) (fun _ _ _ h => h) (Or.inl ⟨by rfl, ?_⟩) (by assumption) ?_
      rotate_left
      · (intro w hSw; (try dsimp only at hSw); go_simp; try with_reducible rfl)
      try simp only [Act.put, List.setIfInBounds_toArray, List.set_cons_zero, List.set_cons_succ]
      refine wpAnyH_take (i := 5) (oi := { dst := some 28, op := Op.fieldAddr 103 (Operand.tmp 27) 1, type := 0, pos := "group.go:102", after := #[{ on := 4, ground := Ground.data }], guard := none }) (v := ?_) rfl (by kernel_rfl) (by kernel_rfl) (by kernel_rfl) (fun _ _ _ h => h) (Or.inl ⟨by rfl, ?_⟩) (by assumption) ?_
      rotate_left
      · (intro w hSw; (try dsimp only at hSw); go_simp; try with_reducible rfl)
      try simp only [Act.put, List.setIfInBounds_toArray, List.set_cons_zero, List.set_cons_succ]
      refine wpAnyH_take (i := 6) (oi := { dst := some 29, op := Op.load 3 (Operand.tmp 28), type := 3, pos := "group.go:102", after := #[{ on := 5, ground := Ground.data }], guard := none }) (v := ?_) rfl (by kernel_rfl) (by kernel_rfl) (by kernel_rfl) (fun _ _ _ h => h) (Or.inl ⟨by rfl, ?_⟩) (by assumption) ?_
      rotate_left
      · (intro w hSw; (try dsimp only at hSw); go_simp; try with_reducible rfl)
      try simp only [Act.put, List.setIfInBounds_toArray, List.set_cons_zero, List.set_cons_succ]
      refine wpAnyH_take (i := 7) (oi := { dst := some 30, op := Op.move (Operand.tmp 2), type := 3, pos := "group.go:102", after := #[], guard := none }) (v := ?_) rfl (by kernel_rfl) (by kernel_rfl) (by kernel_rfl) (fun _ _ _ h => h) (Or.inl ⟨by rfl, ?_⟩) (by assumption) ?_
      rotate_left
      · (intro w hSw; (try dsimp only at hSw); go_simp; try with_reducible rfl)
      try simp only [Act.put, List.setIfInBounds_toArray, List.set_cons_zero, List.set_cons_succ]
      refine wpAnyH_ready (rs := [8]) (by kernel_rfl) (by simp) ?_
      refine AllReadyH.cons (o := { dst := some 31, op := Op.call { callee := Callee.value (Operand.func 59), args := #[Operand.tmp 23, Operand.tmp 24, Operand.tmp 29, Operand.tmp 30], argTypes := #[79, 3, 3, 3] }, type := 51, pos := "group.go:102", after := #[{ on := 0, ground := Ground.data }, { on := 1, ground := Ground.data }, { on := 6, ground := Ground.data }, { on := 7, ground := Ground.data }], guard := none }) rfl (fun K hK => ?_) AllReadyH.nil
      go_simp
      refine (Try.checkChunk wr.drew q k HQ.out (HG.out.below HK.out.drew)).mono ?_
      rintro x w5 ⟨rfl, hb5⟩
      rw [HR.out]
      have KW : Hid (Below wr.heap.size wr w5) := Lib.hid ((Below.refl _ wr).drew.trans hb5)
      have K5 : Hid (Below w1.heap.size w1 w5) := Lib.hid (HK.out.trans (KW.out.mono HK.out.size))
      clear hb5
      refine hK.out _ _ ?_ (fun hHeld => ?_)
      · exact ⟨cellW U0.out KW.out, cellW U1.out KW.out, cellW U2.out KW.out⟩
      clear hK K
      try simp only [Act.put, List.setIfInBounds_toArray, List.set_cons_zero, List.set_cons_succ]
      refine wpAnyH_take (i := 9) (oi := { dst := some 8, op := Op.assign (Operand.tmp 31), type := 51, pos := "group.go:102", after := #[{ on := 8, ground := Ground.data }, { on := 8, ground := Ground.chain }, { on := 0, ground := Ground.phase }, { on := 1, ground := Ground.phase }, { on := 2, ground := Ground.phase }, { on := 3, ground := Ground.phase }, { on := 4, ground := Ground.phase }, { on := 5, ground := Ground.phase }, { on := 6, ground := Ground.phase }, { on := 7, ground := Ground.phase }, { on := 8, ground := Ground.phase }], guard := none }) (v := ?_) rfl (by kernel_rfl) (by kernel_rfl) (by kernel_rfl) (fun _ _ _ h => h) (Or.inl ⟨by rfl, ?_⟩) (by assumption) ?_
      rotate_left
      · (intro w hSw; (try dsimp only at hSw); go_simp; try with_reducible rfl)
      try simp only [Act.put, List.setIfInBounds_toArray, List.set_cons_zero, List.set_cons_succ]
      refine wpAnyH_done (by kernel_rfl) ?_ _
      refine NoPanic.normal ?_
      clear U0 U1 U2 hHeld
      rcases h01 with rfl | rfl
      · go_wp2
        go_step3
        exact ⟨rfl, ⟨1, Nat.le_refl _, K5, Lib.hid (fun _ => rfl), _, _, _, _, _, _, _, _, _, _, _, _, _, _, _, _, _, _, _, _, _, _, _, _, _, _, _, _, _, _, _, rfl⟩, by simp [intOf]⟩
      · go_wp2_with fail
        (try simp only [Exit.jump])
        go_ret
        exact ⟨rfl, WB.out.trans (K5.out.mono WB.out.size)⟩
    · go_wp2_with fail
      (try simp only [Exit.jump])
      go_ret
      have hR0 : R = 0 := HI.out (by trivial)
      rw [hR0]
      exact ⟨rfl, WB.out.trans (HK.out.mono WB.out.size)⟩
end Go.Proofs.Ytfblhcphbcghpaa
end

section
namespace Go.Proofs.Ytfblhcphbcghpaa
open Go.RowKit
open Go.NR (At wpList_app)
set_option maxRecDepth 100000
theorem Try.E58 : Go.NR.Elems Try.prog 58 60 2 16 (.agg #[.int .i64 0, .int .i64 0]) := ⟨by kernel_rfl, by kernel_rfl, rfl, by decide, by decide⟩
structure GAt (w : World) (A : Option Addr) (n c : Nat) (gs : List GQ) : Prop where
  len : gs.length = n
  le : n ≤ c
  max : c ≤ maxLen
  at' : ∀ (j : Nat) (q : GQ), gs[j]? = some q → ∃ b o g c', A = some ⟨b, o, none⟩ ∧ w.cell? ⟨b, o + j * 2, none⟩ = some (.int .i64 q.r) ∧ w.cell? ⟨b, o + j * 2 + 1, none⟩ = some (.slice (some ⟨g, 0, none⟩) 1 c') ∧ G1 w 0 g c' q.k
theorem GAt.below {w w' : World} {A : Option Addr} {n c : Nat} {gs : List GQ} (h : GAt w A n c gs) (hb : Below w.heap.size w w') : GAt w' A n c gs :=
  ⟨h.len, h.le, h.max, fun j q hj => by
    obtain ⟨b, o, g, c', e, h1, h2, h3⟩ := h.at' j q hj
    exact ⟨b, o, g, c', e, cellW h1 hb, cellW h2 hb, h3.below hb⟩⟩
theorem GRow.head {w : World} {B : Nat} {A : Option Addr} {n c : Nat} {gs : List GQ} (h : GRow w B A n c gs) (i : Nat) (hi : i ≤ n) : GAt w A i c (gs.take i) :=
  ⟨by rw [List.length_take, h.len]; omega, by have := h.le; omega, h.max, fun j q hj => by
    have hj' : gs[j]? = some q := by
      rw [List.getElem?_take] at hj
      split at hj
      · exact hj
      · cases hj
    obtain ⟨b, g, c', e, _, h1, h2, h3⟩ := h.at' j q hj'
    exact ⟨b, 0, g, c', e, by rw [Nat.zero_add]; exact h1, by rw [Nat.zero_add]; exact h2, h3.mono (Nat.zero_le _)⟩⟩
theorem GRow.one {w : World} {B b n c : Nat} {gs : List GQ} (h : GRow w B (some ⟨b, 0, none⟩) n c gs) (i : Nat) {q : GQ} (hq : gs[i]? = some q) : GAt w (some ⟨b, i * 2, none⟩) 1 (c - i) [q] := by
  have hl := (List.getElem?_eq_some_iff.1 hq).1
  have := h.len
  refine ⟨rfl, by have := h.le; omega, by have := h.max; omega, fun j p hj => ?_⟩
  match j, hj with
  | 0, e =>
    cases e
    obtain ⟨b', g, c', e, _, h1, h2, h3⟩ := h.at' i q hq
    cases e
    exact ⟨b, i * 2, g, c', rfl, by simpa using h1, by simpa using h2, h3.mono (Nat.zero_le _)⟩
  | j + 1, e => simp at e
def flatE (gs : List GQ) : List Value := gs.flatMap fun q => [.int .i64 q.a, .int .i64 q.n]
theorem flatE_snoc (gs : List GQ) (q : GQ) : flatE (gs ++ [q]) = flatE gs ++ [.int .i64 q.a, .int .i64 q.n] := by simp [flatE]
theorem flatE_get : ∀ (gs : List GQ) (j : Nat) (q : GQ), gs[j]? = some q → (flatE gs)[j * 2]? = some (.int .i64 q.a) ∧ (flatE gs)[j * 2 + 1]? = some (.int .i64 q.n)
  | [], j, q, h => by simp at h
  | p :: gs, 0, q, h => by
    simp at h
    subst h
    exact ⟨rfl, rfl⟩
  | p :: gs, j + 1, q, h => by
    have ih := flatE_get gs j q (by simpa using h)
    have e : flatE (p :: gs) = .int .i64 (p.a : Int) :: .int .i64 (p.n : Int) :: flatE gs := rfl
    rw [e, show (j + 1) * 2 = j * 2 + 1 + 1 by omega, show j * 2 + 1 + 1 + 1 = (j * 2 + 1) + 1 + 1 by omega]
    simpa using ih
structure EW (w W : World) (v : Value) (gs : List GQ) : Prop where
  own : W.ownsRow w.heap.size 60 2 v gs.length (flatE gs)
  be : Below w.heap.size w W
theorem EW.below {w W W' : World} {v : Value} {gs : List GQ} (h : EW w W v gs) (hb : Below W.heap.size W W') : EW w W' v gs := ⟨Go.NR.own_below h.own hb, h.be.trans (hb.mono h.be.size)⟩
theorem EW.push {w W W' : World} {v v' : Value} {gs : List GQ} (h : EW w W v gs) (q : GQ) (hg : W.grownBy W' v.ownBlock) (ho : W'.ownsRow w.heap.size 60 2 v' (gs.length + 1) (flatE gs ++ [.int .i64 q.a, .int .i64 q.n])) : EW w W' v' (gs ++ [q]) :=
  ⟨by rw [flatE_snoc, List.length_append]; exact ho, h.be.grown hg h.be.size (fun k hk => (h.own.lt k hk).1)⟩
set_option maxHeartbeats 16000000 in
theorem Try.exts (w : World) {A : Option Addr} {n c : Nat} {gs : List GQ} (hG : GAt w A n c gs) (hn : n ≤ 1000) :
    Calls Try.prog 29 #[.slice A n c] w fun x w' => ∃ v, x = .returned v ∧ EW w w' v gs := by
  have HG := Lib.hid hG
  have HLN := Lib.hid hG.len
  have hcm : c ≤ maxLen := hG.max
  have hnc : n ≤ c := hG.le
  have H0 : Hid (EW w w (.slice none 0 0) (gs.take 0)) := Lib.hid ⟨World.ownsRow_nil w _ 60 2, Below.refl _ _⟩
  clear hG
  go_enter Try.func29, Try.ntmps29
  go_wp2_with fail
  go_loopw [3, 10] (fun v t W => ∃ i : Nat, i ≤ n ∧ t = .int .i64 i ∧ Hid (EW w W v (gs.take i))) (fun _ t _ => n - (intOf t).toNat)
  case atStart => exact ⟨0, Nat.zero_le _, rfl, H0⟩
  case round =>
    rename World => W
    obtain ⟨i, hi, rfl, HE⟩ := hrel
    clear H0
    by_cases hlt : i < n
    · have d1 : decide ((i : Int) < (n : Int)) = true := decide_eq_true (by omega)
      have d1' : decide (i < n) = true := decide_eq_true hlt
      obtain ⟨q, hq⟩ : ∃ q, gs[i]? = some q := ⟨_, List.getElem?_eq_getElem (by rw [HLN.out]; exact hlt)⟩
      obtain ⟨b, o, g, cg, eA, p0, p1, hg⟩ := HG.out.at' i q hq
      subst eA
      have Z0 := cellW p0 HE.out.be
      have Z1 := cellW p1 HE.out.be
      have HGQ := Lib.hid (hg.below HE.out.be)
      have hcg1 : 1 ≤ cg := hg.2.1
      have hcgm : cg ≤ maxLen := hg.2.2.1
      have HQI := Lib.hid hq
      clear p0 p1 hg hq
      go_upto_region 5 with fail
      have hb5 := ((Below.refl W.heap.size W).alloc (Nat.le_refl _) (.cells #[.int .i64 q.r, .slice (some ⟨g, 0, none⟩) 1 cg] 79))
      have hn5 := heap_alloc_new W (.cells #[.int .i64 q.r, .slice (some ⟨g, 0, none⟩) 1 cg] 79)
      obtain ⟨w5, hw5⟩ : ∃ w5, W.alloc (.cells #[.int .i64 q.r, .slice (some ⟨g, 0, none⟩) 1 cg] 79) = w5 := ⟨_, rfl⟩
      obtain ⟨s5, hs5⟩ : ∃ s5, W.heap.size = s5 := ⟨_, rfl⟩
      rw [hw5] at hb5 hn5
      have E5 := Lib.hid (HE.out.below hb5)
      have G5 := Lib.hid (HGQ.out.below hb5)
      rw [hs5] at hn5
      rw [hw5]
      (try rw [hs5])
      have HN5 := Lib.hid hn5
      clear hb5 hn5 hw5 hs5 Z0 Z1 HGQ HE
      have V1 := cell_of_row w5 s5 1 _ 79 _ HN5.out
      simp at V1
      go_wp2_with fail
      clear V1
      go_loopw [3, 17] (fun v t V => (t = .int .i64 0 ∧ v = u3 ∧ V = w5) ∨ (t = .int .i64 1 ∧ Hid (EW w V v (gs.take (i + 1))))) (fun _ t _ => 1 - (intOf t).toNat)
      case atStart => exact .inl ⟨rfl, rfl, rfl⟩
      case round =>
        rename World => V
        rcases hrel with ⟨rfl, hv, hV⟩ | ⟨rfl, HE⟩
        · subst hv
          subst V
          have U0 : w5.cell? ⟨g, 0, none⟩ = some (.int .i64 q.a) := G5.out.2.2.2 0 _ rfl
          have U1 : w5.cell? ⟨g, 1, none⟩ = some (.int .i64 q.n) := G5.out.2.2.2 1 _ rfl
          have U2 : w5.cell? ⟨g, 2, none⟩ = some (.int .i64 1) := G5.out.2.2.2 2 _ rfl
          have U3 : w5.cell? ⟨g, 3, none⟩ = some (.int .i64 q.r) := G5.out.2.2.2 3 _ rfl
          have U4 : w5.cell? ⟨g, 4, none⟩ = some (.int .i64 0) := G5.out.2.2.2 4 _ rfl
          have U5 : w5.cell? ⟨g, 5, none⟩ = some (.int .i64 1) := G5.out.2.2.2 5 _ rfl
          have U6 : w5.cell? ⟨g, 6, none⟩ = some (.int .i64 q.lo) := G5.out.2.2.2 6 _ rfl
          have U7 : w5.cell? ⟨g, 7, none⟩ = some (.string ⟨#[]⟩) := G5.out.2.2.2 7 _ rfl
          have U8 : w5.cell? ⟨g, 8, none⟩ = some (.complex .f64 0 0) := G5.out.2.2.2 8 _ rfl
          have U9 : w5.cell? ⟨g, 9, none⟩ = some (.int .i64 1) := G5.out.2.2.2 9 _ rfl
          have U10 : w5.cell? ⟨g, 10, none⟩ = some (.int .i64 q.hi) := G5.out.2.2.2 10 _ rfl
          have U11 : w5.cell? ⟨g, 11, none⟩ = some (.string ⟨#[]⟩) := G5.out.2.2.2 11 _ rfl
          have U12 : w5.cell? ⟨g, 12, none⟩ = some (.complex .f64 0 0) := G5.out.2.2.2 12 _ rfl
          have U13 : w5.cell? ⟨g, 13, none⟩ = some (.complex .f64 0 0) := G5.out.2.2.2 13 _ rfl
          have U14 : w5.cell? ⟨g, 14, none⟩ = some (.complex .f64 0 0) := G5.out.2.2.2 14 _ rfl
          have hsc := storeC
          go_upto_region 8 with fail
          clear hsc U0 U1 U2 U3 U4 U5 U6 U7 U8 U9 U10 U11 U12 U13 U14
          have hb6 := ((Below.refl w5.heap.size w5).alloc (Nat.le_refl _) (.cells #[.int .i64 q.a, .int .i64 q.n, .int .i64 1, .int .i64 q.r, .int .i64 0, .int .i64 1, .int .i64 q.lo, .string ⟨#[]⟩, .complex .f64 0 0, .int .i64 1, .int .i64 q.hi, .string ⟨#[]⟩, .complex .f64 0 0, .complex .f64 0 0, .complex .f64 0 0] 128))
          have hn6 := heap_alloc_new w5 (.cells #[.int .i64 q.a, .int .i64 q.n, .int .i64 1, .int .i64 q.r, .int .i64 0, .int .i64 1, .int .i64 q.lo, .string ⟨#[]⟩, .complex .f64 0 0, .int .i64 1, .int .i64 q.hi, .string ⟨#[]⟩, .complex .f64 0 0, .complex .f64 0 0, .complex .f64 0 0] 128)
          obtain ⟨w6, hw6⟩ : ∃ w6, w5.alloc (.cells #[.int .i64 q.a, .int .i64 q.n, .int .i64 1, .int .i64 q.r, .int .i64 0, .int .i64 1, .int .i64 q.lo, .string ⟨#[]⟩, .complex .f64 0 0, .int .i64 1, .int .i64 q.hi, .string ⟨#[]⟩, .complex .f64 0 0, .complex .f64 0 0, .complex .f64 0 0] 128) = w6 := ⟨_, rfl⟩
          obtain ⟨s7, hs7⟩ : ∃ s7, w5.heap.size = s7 := ⟨_, rfl⟩
          rw [hw6] at hb6 hn6
          rw [hs7] at hn6
          rw [hw6]
          (try rw [hs7])
          have E6 := Lib.hid (E5.out.below hb6)
          have HN6 := Lib.hid hn6
          clear hb6 hn6 hw6 hs7
          have A0 := cell_of_row w6 s7 0 _ 128 _ HN6.out
          have A1 := cell_of_row w6 s7 1 _ 128 _ HN6.out
          simp at A0 A1
          have E7 := Lib.hid (E6.out.below ((Below.refl w6.heap.size w6).alloc (Nat.le_refl _) (.cells #[.int .i64 q.a, .int .i64 q.n] 60)))
          have C7 := Lib.hid (Go.NR.at_alloc w6 #[.int .i64 q.a, .int .i64 q.n] 60)
          have HTI : Hid ((gs.take i).length = i) := Lib.hid (by rw [List.length_take, HLN.out]; omega)
          obtain ⟨P, hP⟩ : ∃ P, gs.take i = P := ⟨_, rfl⟩
          have HPP := Lib.hid hP
          rw [hP] at E7 HTI
          clear hP
          go_wp2_with (refine wpList_app Try.E58 rfl (.tmp 21) (.tmp 24) rfl w.heap.size _ P.length (flatE P) rfl E7.out.own w6.heap.size 1 1 [.int .i64 q.a, .int .i64 q.n] rfl rfl C7.out (by intro u hu; simp at hu; rcases hu with rfl | rfl <;> rfl) (by have := HTI.out; omega) E7.out.be.size ?_)
          intro v8 w8 o8 g8
          have E8 : Hid (EW w w8 v8 (gs.take (i + 1))) := Lib.hid (by rw [take_snoc HQI.out, HPP.out]; exact E7.out.push q g8 o8)
          clear o8 g8 E7 E6 A0 A1
          go_wp2_with fail
          exact ⟨.inr ⟨rfl, E8⟩, by simp [intOf]⟩
        · go_wp2_with fail
          exact ⟨⟨i + 1, hlt, rfl, HE⟩, by simp [intOf]; omega⟩
    · obtain rfl : i = n := by omega
      have d1 : decide ((i : Int) < (i : Int)) = false := by simp
      have d1' : decide (i < i) = false := by simp
      go_wp2_with fail
      go_ret
      refine ⟨u3, rfl, ?_⟩
      have h := HE.out
      rw [List.take_of_length_le (by rw [HLN.out]; exact Nat.le_refl _)] at h
      exact h
end Go.Proofs.Ytfblhcphbcghpaa
end

section
namespace Go.Proofs.Ytfblhcphbcghpaa
open Go.RowKit
open Go.NR (At)
set_option maxRecDepth 100000
structure EAt (w : World) (A : Option Addr) (n c : Nat) (gs : List GQ) : Prop where
  len : gs.length = n
  le : n ≤ c
  max : c ≤ maxLen
  at' : ∀ (j : Nat) (q : GQ), gs[j]? = some q → ∃ b, A = some ⟨b, 0, none⟩ ∧ w.cell? ⟨b, j * 2, none⟩ = some (.int .i64 q.a) ∧ w.cell? ⟨b, j * 2 + 1, none⟩ = some (.int .i64 q.n)
theorem EAt.below {w w' : World} {A : Option Addr} {n c : Nat} {gs : List GQ} (h : EAt w A n c gs) (hb : Below w.heap.size w w') : EAt w' A n c gs :=
  ⟨h.len, h.le, h.max, fun j q hj => by
    obtain ⟨b, e, h1, h2⟩ := h.at' j q hj
    exact ⟨b, e, cellW h1 hb, cellW h2 hb⟩⟩
theorem EW.at {w W : World} {v : Value} {gs : List GQ} (h : EW w W v gs) : ∃ A c, v = .slice A gs.length c ∧ EAt W A gs.length c gs := by
  have ho := h.own
  by_cases hn : gs.length = 0
  · obtain rfl : gs = [] := List.length_eq_zero_iff.1 hn
    rcases ho.2 with ⟨rfl, _⟩ | ⟨g, cap, cur, rfl, hb, hg, h1, h2, _⟩
    · exact ⟨none, 0, rfl, rfl, Nat.le_refl _, Nat.zero_le _, fun j q hj => by simp at hj⟩
    · exact ⟨_, cap, rfl, rfl, h1, h2, fun j q hj => by simp at hj⟩
  · obtain ⟨g, c, rfl, hb, hl, h1, h2, hc, _⟩ := Go.NR.own_at ho hn
    refine ⟨_, c, rfl, rfl, h1, h2, fun j q hj => ?_⟩
    obtain ⟨x1, x2⟩ := flatE_get gs j q hj
    have hjl : j < gs.length := (List.getElem?_eq_some_iff.1 hj).1
    exact ⟨g, rfl, (hc (j * 2) (by omega)).trans x1, (hc (j * 2 + 1) (by omega)).trans x2⟩
def GQ.roomy (q : GQ) : Prop := 1 ≤ q.n ∧ q.n ≤ 5000 ∧ q.a ≤ 5000
def hits (p q : GQ) : Prop := ovl p.a p.n q.a q.n
instance (p q : GQ) : Decidable (hits p q) := by unfold hits; infer_instance
set_option maxHeartbeats 16000000 in
theorem Try.meet (w : World) {A B : Option Addr} {n c cb : Nat} {gs : List GQ} {q : GQ} (hA : EAt w A n c gs) (hB : EAt w B 1 cb [q]) (hn : n ≤ 1000) (hg : ∀ (j : Nat) (p : GQ), gs[j]? = some p → p.roomy) (hq : q.roomy) (R : Bool) (hR : R = true ↔ ∃ (j : Nat) (p : GQ), gs[j]? = some p ∧ hits p q) :
    Calls Try.prog 28 #[.slice A n c, .slice B 1 cb] w fun x w' => x = .returned (.bool R) ∧ Below w.heap.size w w' := by
  have HA := Lib.hid hA
  have HB := Lib.hid hB
  have HG := Lib.hid hg
  have HQ := Lib.hid hq
  have HR := Lib.hid hR
  have HLN := Lib.hid hA.len
  have hcm : c ≤ maxLen := hA.max
  have hnc : n ≤ c := hA.le
  have hbm : cb ≤ maxLen := hB.max
  have hb1 : 1 ≤ cb := hB.le
  obtain ⟨bb, eB, q0, q1⟩ := hB.at' 0 q rfl
  subst eB
  have Q0 := Lib.hid q0
  have Q1 := Lib.hid q1
  clear hA hB hg hq hR q0 q1
  go_enter Try.func28, Try.ntmps28
  go_wp2_with fail
  go_loopw [11] (fun t W => ∃ i : Nat, i ≤ n ∧ t = .int .i64 i ∧ Hid (Below w.heap.size w W) ∧ Hid (∀ (j : Nat) (p : GQ), j < i → gs[j]? = some p → ¬ hits p q)) (fun t _ => n - (intOf t).toNat)
  case atStart => exact ⟨0, Nat.zero_le _, rfl, Lib.hid (Below.refl _ _), Lib.hid (fun j p hj => by omega)⟩
  case round =>
    rename World => W
    obtain ⟨i, hi, rfl, HK, HNO⟩ := hrel
    by_cases hlt : i < n
    · have d1 : decide ((i : Int) < (n : Int)) = true := decide_eq_true (by omega)
      have d1' : decide (i < n) = true := decide_eq_true hlt
      obtain ⟨p, hp⟩ : ∃ p, gs[i]? = some p := ⟨_, List.getElem?_eq_getElem (by rw [HLN.out]; exact hlt)⟩
      obtain ⟨ba, eA, p0, p1⟩ := HA.out.at' i p hp
      subst eA
      have Z0 := cellW p0 HK.out
      have Z1 := cellW p1 HK.out
      have HPI := Lib.hid hp
      clear p0 p1 hp
      go_upto_region 4 with fail
      have hb5 := ((Below.refl W.heap.size W).alloc (Nat.le_refl _) (.cells #[.int .i64 p.a, .int .i64 p.n] 60))
      have hn5 := heap_alloc_new W (.cells #[.int .i64 p.a, .int .i64 p.n] 60)
      obtain ⟨w5, hw5⟩ : ∃ w5, W.alloc (.cells #[.int .i64 p.a, .int .i64 p.n] 60) = w5 := ⟨_, rfl⟩
      obtain ⟨s5, hs5⟩ : ∃ s5, W.heap.size = s5 := ⟨_, rfl⟩
      rw [hw5] at hb5 hn5
      have K5 := Lib.hid (HK.out.trans (hb5.mono HK.out.size))
      rw [hs5] at hn5
      rw [hw5]
      (try rw [hs5])
      have HN5 := Lib.hid hn5
      clear hb5 hn5 hw5 hs5 Z0 Z1 HK
      go_wp2_with fail
      go_loopw [17] (fun t V => (t = .int .i64 0 ∧ V = w5) ∨ (t = .int .i64 1 ∧ Hid (Below w.heap.size w V) ∧ Hid (¬ hits p q))) (fun t _ => 1 - (intOf t).toNat)
      case atStart => exact .inl ⟨rfl, rfl⟩
      case round =>
        rename World => V
        rcases hrel with ⟨rfl, hV⟩ | ⟨rfl, HK, HNH⟩
        · subst V
          have Y0 := cellW Q0.out K5.out
          have Y1 := cellW Q1.out K5.out
          simp at Y0 Y1
          go_upto_region 7 with fail
          have hb6 := ((Below.refl w5.heap.size w5).alloc (Nat.le_refl _) (.cells #[.int .i64 q.a, .int .i64 q.n] 60))
          have hn6 := heap_alloc_new w5 (.cells #[.int .i64 q.a, .int .i64 q.n] 60)
          obtain ⟨w6, hw6⟩ : ∃ w6, w5.alloc (.cells #[.int .i64 q.a, .int .i64 q.n] 60) = w6 := ⟨_, rfl⟩
          obtain ⟨s6, hs6⟩ : ∃ s6, w5.heap.size = s6 := ⟨_, rfl⟩
          rw [hw6] at hb6 hn6
          have K6 := Lib.hid (K5.out.trans (hb6.mono K5.out.size))
          have HN5' := Lib.hid ((hb6.block s5 (Go.NR.heap_lt HN5.out)).trans HN5.out)
          rw [hs6] at hn6
          rw [hw6]
          (try rw [hs6])
          have HN6 := Lib.hid hn6
          clear hb6 hn6 hw6 hs6 Y0 Y1
          have A0 := cell_of_row w6 s5 0 _ 60 _ HN5'.out
          have A1 := cell_of_row w6 s5 1 _ 60 _ HN5'.out
          have B0 := cell_of_row w6 s6 0 _ 60 _ HN6.out
          have B1 := cell_of_row w6 s6 1 _ 60 _ HN6.out
          simp at A0 A1 B0 B1
          go_wp2_with fail
          have hrp := HG.out i p HPI.out
          refine (Try.overlap w6 p.a p.n q.a q.n hrp.1 HQ.out.1 hrp.2.2 HQ.out.2.2 hrp.2.1 HQ.out.2.1).mono ?_
          rintro x w7 ⟨rfl, hb7⟩
          have K7 := Lib.hid (K6.out.trans (hb7.mono K6.out.size))
          clear hb7 A0 A1 B0 B1 hrp
          by_cases hh : hits p q
          · rw [decide_eq_true (show ovl p.a p.n q.a q.n from hh)]
            have hRt : R = true := HR.out.2 ⟨i, p, HPI.out, hh⟩
            clear hh
            go_wp2_with fail
            go_ret
            exact ⟨by rw [hRt]; rfl, K7.out⟩
          · rw [decide_eq_false (show ¬ ovl p.a p.n q.a q.n from hh)]
            have HNH := Lib.hid hh
            clear hh
            go_wp2_with fail
            exact ⟨.inr ⟨rfl, K7, HNH⟩, by simp [intOf]⟩
        · have HNO2 : Hid (∀ (j : Nat) (p : GQ), j < i + 1 → gs[j]? = some p → ¬ hits p q) := Lib.hid (fun j p' hj hp' => by
            rcases Nat.lt_or_ge j i with h | h
            · exact HNO.out j p' h hp'
            · obtain rfl : j = i := by omega
              have := HPI.out
              rw [this] at hp'
              cases hp'
              exact HNH.out)
          clear HNO
          go_wp2_with fail
          exact ⟨⟨i + 1, hlt, rfl, HK, HNO2⟩, by simp [intOf]; omega⟩
    · obtain rfl : i = n := by omega
      have d1 : decide ((i : Int) < (i : Int)) = false := by simp
      have d1' : decide (i < i) = false := by simp
      have hRf : R = false := by
        cases hR : R with
        | false => rfl
        | true =>
          obtain ⟨j, p, hj, hh⟩ := HR.out.1 hR
          exact absurd hh (HNO.out j p (by have := (List.getElem?_eq_some_iff.1 hj).1; have := HLN.out; omega) hj)
      go_wp2_with fail
      go_ret
      exact ⟨by rw [hRf]; rfl, HK.out⟩
end Go.Proofs.Ytfblhcphbcghpaa
end

section
namespace Go.Proofs.Ytfblhcphbcghpaa
open Go.RowKit
open Go.NR (At)
set_option maxRecDepth 100000
theorem GQ.near.roomy {q : GQ} {k : Nat} (h : q.near k) : q.roomy := ⟨h.n1, by have := h.ok.n; omega, by have := h.ok.a; omega⟩
set_option maxHeartbeats 16000000 in
theorem Try.footCheckG (w : World) (e : Nat) (he0 : e ≠ 0) {g0 cg : Nat} (hC : CR w (some ⟨g0, 0, none⟩) 1 cg colA) {A : Option Addr} {n c : Nat} {gs : List GQ} (hG : GRow w 0 A n c gs) (hn : n ≤ 64) (bk : Nat) (hnr : ∀ (j : Nat) (q : GQ), gs[j]? = some q → q.near bk) (m : Nat) (R : Int) (hmn : m ≤ n)
    (hlow : ∀ (j : Nat) (q : GQ), j < m → gs[j]? = some q → exR q bk = 0 ∧ ¬ ∃ (i : Nat) (p : GQ), (gs.take j)[i]? = some p ∧ hits p q)
    (hm : (m = n ∧ R = 0) ∨ ∃ q, gs[m]? = some q ∧ ((exR q bk = 1 ∧ R = 1) ∨ (exR q bk = 0 ∧ R = 7 ∧ ∃ (i : Nat) (p : GQ), (gs.take m)[i]? = some p ∧ hits p q))) :
    Calls Try.prog 8 #[.agg #[.int .u64 e, .slice (some ⟨g0, 0, none⟩) 1 cg, .slice A n c], .int .i64 bk] w fun x w' => x = .returned (.int .i64 R) ∧ Below w.heap.size w w' := by
  have HNR := Lib.hid hnr
  have HLOW := Lib.hid hlow
  have HM := Lib.hid hm
  have HMN := Lib.hid hmn
  have HLN := Lib.hid hG.len
  have hcm : c ≤ maxLen := hG.max
  have hnc : n ≤ c := hG.le
  have d0 : ((e : Int) == 0) = false := by simpa using he0
  have d0' : decide (e = 0) = false := decide_eq_false he0
  have hb1 := ((Below.refl _ w).alloc (Nat.le_refl _) (.cells #[.int .u64 e, .slice (some ⟨g0, 0, none⟩) 1 cg, .slice A n c] 48))
  have hn1 := heap_alloc_new w (.cells #[.int .u64 e, .slice (some ⟨g0, 0, none⟩) 1 cg, .slice A n c] 48)
  obtain ⟨w1, hw1⟩ : ∃ w1, w.alloc (.cells #[.int .u64 e, .slice (some ⟨g0, 0, none⟩) 1 cg, .slice A n c] 48) = w1 := ⟨_, rfl⟩
  obtain ⟨sx, hsx⟩ : ∃ sx, w.heap.size = sx := ⟨_, rfl⟩
  rw [hw1] at hb1 hn1
  have HC := Lib.hid (hC.below hb1)
  have HG := Lib.hid (hG.below hb1)
  rw [hsx] at hn1
  have WB := Lib.hid hb1
  have HX := Lib.hid hn1
  have HNM : Hid (∀ (j : Nat) (q : List UInt8 × Int), colA[j]? = some q → q.1.length ≤ 60000) := Lib.hid (fun j q h => by have := ((chk_ok colA_chk).2.2 j q h).1; omega)
  have d3 : decide (64 < (n : Int)) = false := decide_eq_false (by omega)
  have d3' : decide (64 < n) = false := decide_eq_false (by omega)
  clear hb1 hn1 hnr hlow hm hmn hC hG he0
  go_enter Try.func8, Try.ntmps8
  go_wp2
  (try rw [hw1])
  (try rw [hsx])
  clear hw1 hsx
  have V0 := cell_of_row w1 sx 0 _ 48 _ HX.out
  have V1 := cell_of_row w1 sx 1 _ 48 _ HX.out
  have V2 := cell_of_row w1 sx 2 _ 48 _ HX.out
  simp at V0 V1 V2
  refine Go.NR.wp_scope_once 0 (fun a' wr => ∃ i : Nat, i ≤ m ∧ Hid (Below w1.heap.size w1 wr) ∧ ∃ u3 u6 u7 u8 u9 u10 u11 u12 u13 u14 u15 u16 u17 u18 u19 u20 u21 u22 u23 u24 u25 u26 u27 u28 u29 u30 u31 u32 u33 u34 u35 u36 u37 u38 u39 u40 u41 u42 u43 u44 u45 u46 u47 u48 u49 u50 u51 u52 : Value, a' = { tmps := #[.agg #[.int .u64 e, .slice (some ⟨g0, 0, none⟩) 1 cg, .slice A n c], .int .i64 bk, .pointer (some ⟨sx, 0, none⟩), u3, .int .i64 0, .int .i64 i, u6, u7, u8, u9, u10, u11, u12, u13, u14, u15, u16, u17, u18, u19, u20, u21, u22, u23, u24, u25, u26, u27, u28, u29, u30, u31, u32, u33, u34, u35, u36, u37, u38, u39, u40, u41, u42, u43, u44, u45, u46, u47, u48, u49, u50, u51, u52], defers := [] }) (fun a' _ => n + 1 - (intOf (a'.tmps.getD 5 undef)).toNat) rfl ?_ ?_
  · intro hJ
    go_wp2_with fail
    refine (Try.check w1 _ 1 cg colA HC.out HNM.out).mono ?_
    rintro x w2 ⟨rfl, hb2⟩
    rw [colA_chk]
    have K2 := Lib.hid hb2
    clear hb2
    clear V0 V1
    have V2 := cell_of_row w2 sx 2 _ 48 _ ((K2.out.block sx (Go.NR.heap_lt HX.out)).trans HX.out)
    simp at V2
    go_wp2_with (refine wp_label ?_; rename_i Q0 K0 hK; refine hK _ _ (hJ _ _ ?_); exact ⟨0, Nat.zero_le _, K2, _, _, _, _, _, _, _, _, _, _, _, _, _, _, _, _, _, _, _, _, _, _, _, _, _, _, _, _, _, _, _, _, _, _, _, _, _, _, _, _, _, _, _, _, _, _, _, _, rfl⟩)
  · rintro a' wr ⟨i, hi, HK, u3, u6, u7, u8, u9, u10, u11, u12, u13, u14, u15, u16, u17, u18, u19, u20, u21, u22, u23, u24, u25, u26, u27, u28, u29, u30, u31, u32, u33, u34, u35, u36, u37, u38, u39, u40, u41, u42, u43, u44, u45, u46, u47, u48, u49, u50, u51, u52, rfl⟩
    clear V0 V1 V2
    have c2 := cellW (cell_of_row w1 sx 2 _ 48 _ HX.out) HK.out
    simp at c2
    have him : i ≤ n := Nat.le_trans hi HMN.out
    by_cases hlt : i < n
    · have d1 : decide ((i : Int) = (n : Int)) = false := decide_eq_false (by omega)
      have d1' : decide (i = n) = false := decide_eq_false (by omega)
      have d1'' : ((i : Int) == (n : Int)) = false := by simp; omega
      obtain ⟨q, hq⟩ : ∃ q, gs[i]? = some q := ⟨_, List.getElem?_eq_getElem (by rw [HLN.out]; exact hlt)⟩
      obtain ⟨b2, g2, cg2, eA, hbl, p0, p1, hg2⟩ := HG.out.at' i q hq
      subst eA
      have HGQ := Lib.hid (hg2.below HK.out)
      have HQI := Lib.hid hq
      have P0 := Lib.hid (cellW p0 HK.out)
      have P1 := Lib.hid (cellW p1 HK.out)
      clear hbl p0 p1 hg2 hq
      go_upto_region 11 with fail
      have U1 := Lib.hid (cellW (cell_of_row w1 sx 1 _ 48 _ HX.out) HK.out)
      have U2 := Lib.hid c2
      clear c2
      obtain ⟨ER, hER⟩ : ∃ ER, exR q bk = ER := ⟨_, rfl⟩
      have HER := Lib.hid hER
      have h01 := exR_01 q bk
      rw [hER] at h01
      clear hER
      refine wp_region_noPanic ?_
      refine wp_region_held_drew (S := (fun V => V.cell? ⟨sx, 1, none⟩ = some (.slice (some ⟨g0, 0, none⟩) 1 cg) ∧ V.cell? ⟨sx, 2, none⟩ = some (.slice (some ⟨b2, 0, none⟩) n c) ∧ V.cell? ⟨b2, i * 2, none⟩ = some (.int .i64 q.r) ∧ V.cell? ⟨b2, i * 2 + 1, none⟩ = some (.slice (some ⟨g2, 0, none⟩) 1 cg2))) (by kernel_rfl) ?_ (fun hHeld => ?_)
      · exact ⟨U1.out, U2.out, P0.out, P1.out⟩
      refine wpAnyH_take (i := 0) (oi := { dst := some 26, op := Op.fieldAddr 48 (Operand.tmp 2) 2, type := 0, pos := "foot.go:38", after := #[], guard := none }) (v := ?_) rfl (by kernel_rfl) (by kernel_rfl) (by kernel_rfl) (fun _ _ _ h => h) (Or.inl ⟨by rfl, ?_⟩) (by assumption) ?_
      rotate_left
      · (intro w hSw; (try dsimp only at hSw); go_simp; try with_reducible rfl)
      try simp only [Act.put, List.setIfInBounds_toArray, List.set_cons_zero, List.set_cons_succ]
      refine wpAnyH_take (i := 1) (oi := { dst := some 27, op := Op.load 46 (Operand.tmp 26), type := 46, pos := "foot.go:38", after := #[{ on := 0, ground := Ground.data }], guard := none }) (v := ?_) rfl (by kernel_rfl) (by kernel_rfl) (by kernel_rfl) (fun _ _ _ h => h) (Or.inl ⟨by rfl, ?_⟩) (by assumption) ?_
      rotate_left
      · (intro w hSw; (try dsimp only at hSw); go_simp; try with_reducible rfl)
      try simp only [Act.put, List.setIfInBounds_toArray, List.set_cons_zero, List.set_cons_succ]
      refine wpAnyH_take (i := 2) (oi := { dst := some 28, op := Op.move (Operand.tmp 5), type := 3, pos := "foot.go:38", after := #[], guard := none }) (v := ?_) rfl (by kernel_rfl) (by kernel_rfl) (by kernel_rfl) (fun _ _ _ h => h) (Or.inl ⟨by rfl, ?_⟩) (by assumption) ?_
      rotate_left
      · (intro w hSw; (try dsimp only at hSw); go_simp; try with_reducible rfl)
      try simp only [Act.put, List.setIfInBounds_toArray, List.set_cons_zero, List.set_cons_succ]
      refine wpAnyH_take (i := 3) (oi := { dst := some 29, op := Op.indexAddr 46 (Operand.tmp 27) (Operand.tmp 28), type := 0, pos := "foot.go:38", after := #[{ on := 1, ground := Ground.data }, { on := 2, ground := Ground.data }], guard := none }) (v := ?_) rfl (by kernel_rfl) (by kernel_rfl) (by kernel_rfl) (fun _ _ _ h => h) (Or.inl ⟨by rfl, ?_⟩) (by assumption) ?_
      rotate_left
      · (intro w hSw; (try dsimp only at hSw); go_simp; try with_reducible rfl)
      try simp only [Act.put, List.setIfInBounds_toArray, List.set_cons_zero, List.set_cons_succ]
      refine wpAnyH_take (i := 4) (oi := { dst := some 30, op := Op.load 79 (Operand.tmp 29), type := 79, pos := "foot.go:38", after := #[{ on := 3, ground := Ground.data }], guard := none }) (v := ?_) rfl (by kernel_rfl) (by kernel_rfl) (by kernel_rfl) (fun _ _ _ h => h) (Or.inl ⟨by rfl, ?_⟩) (by assumption) ?_
      rotate_left
      · (intro w hSw; (try dsimp only at hSw); go_simp; try with_reducible rfl)
      try simp only [Act.put, List.setIfInBounds_toArray, List.set_cons_zero, List.set_cons_succ]
      refine wpAnyH_take (i := 5) (oi := { dst := some 31, op := Op.fieldAddr 48 (Operand.tmp 2) 1, type := 0, pos := "foot.go:38", after := #[], guard := none }) (v := ?_) rfl (by kernel_rfl) (by kernel_rfl) (by kernel_rfl) (fun _ _ _ h => h) (Or.inl ⟨by rfl, ?_⟩) (by assumption) ?_
      rotate_left
      · (intro w hSw; (try dsimp only at hSw); go_simp; try with_reducible rfl)
      try simp only [Act.put, List.setIfInBounds_toArray, List.set_cons_zero, List.set_cons_succ]
      refine wpAnyH_take (i := 6) (oi := { dst := some 32, op := Op.load 45 (Operand.tmp 31), type := 45, pos := "foot.go:38", after := #[{ on := 5, ground := Ground.data }], guard := none }) (v := ?_) rfl (by kernel_rfl) (by kernel_rfl) (by kernel_rfl) (fun _ _ _ h => h) (Or.inl ⟨by rfl, ?_⟩) (by assumption) ?_
      rotate_left
      · (intro w hSw; (try dsimp only at hSw); go_simp; try with_reducible rfl)
      try simp only [Act.put, List.setIfInBounds_toArray, List.set_cons_zero, List.set_cons_succ]
      refine wpAnyH_take (i := 7) (oi := { dst := some 33, op := Op.move (Operand.tmp 1), type := 3, pos := "foot.go:38", after := #[], guard := none }) (v := ?_) rfl (by kernel_rfl) (by kernel_rfl) (by kernel_rfl) (fun _ _ _ h => h) (Or.inl ⟨by rfl, ?_⟩) (by assumption) ?_
      rotate_left
      · (intro w hSw; (try dsimp only at hSw); go_simp; try with_reducible rfl)
      try simp only [Act.put, List.setIfInBounds_toArray, List.set_cons_zero, List.set_cons_succ]
      refine wpAnyH_ready (rs := [8]) (by kernel_rfl) (by simp) ?_
      refine AllReadyH.cons (o := { dst := some 34, op := Op.call { callee := Callee.value (Operand.func 27), args := #[Operand.tmp 30, Operand.tmp 32, Operand.tmp 33], argTypes := #[79, 45, 3] }, type := 51, pos := "foot.go:38", after := #[{ on := 4, ground := Ground.data }, { on := 6, ground := Ground.data }, { on := 7, ground := Ground.data }], guard := none }) rfl (fun K hK => ?_) AllReadyH.nil
      go_simp
      refine (Try.groupCheck wr.drew q bk (HNR.out i q HQI.out) (HGQ.out.below (Below.refl _ wr).drew) (HC.out.below HK.out.drew)).mono ?_
      rintro x w5 ⟨rfl, hb5⟩
      rw [HER.out]
      have KW : Hid (Below wr.heap.size wr w5) := Lib.hid ((Below.refl _ wr).drew.trans hb5)
      have K5 : Hid (Below w1.heap.size w1 w5) := Lib.hid (HK.out.trans (KW.out.mono HK.out.size))
      clear hb5
      refine hK.out _ _ ?_ (fun hHeld => ?_)
      · exact ⟨cellW U1.out KW.out, cellW U2.out KW.out, cellW P0.out KW.out, cellW P1.out KW.out⟩
      clear hK K
      try simp only [Act.put, List.setIfInBounds_toArray, List.set_cons_zero, List.set_cons_succ]
      refine wpAnyH_take (i := 9) (oi := { dst := some 7, op := Op.assign (Operand.tmp 34), type := 51, pos := "foot.go:38", after := #[{ on := 8, ground := Ground.data }, { on := 8, ground := Ground.chain }, { on := 0, ground := Ground.phase }, { on := 1, ground := Ground.phase }, { on := 2, ground := Ground.phase }, { on := 3, ground := Ground.phase }, { on := 4, ground := Ground.phase }, { on := 5, ground := Ground.phase }, { on := 6, ground := Ground.phase }, { on := 7, ground := Ground.phase }, { on := 8, ground := Ground.phase }], guard := none }) (v := ?_) rfl (by kernel_rfl) (by kernel_rfl) (by kernel_rfl) (fun _ _ _ h => h) (Or.inl ⟨by rfl, ?_⟩) (by assumption) ?_
      rotate_left
      · (intro w hSw; (try dsimp only at hSw); go_simp; try with_reducible rfl)
      try simp only [Act.put, List.setIfInBounds_toArray, List.set_cons_zero, List.set_cons_succ]
      refine wpAnyH_done (by kernel_rfl) ?_ _
      refine NoPanic.normal ?_
      clear hHeld
      rcases h01 with rfl | rfl
      · have c2' := cellW (cell_of_row w1 sx 2 _ 48 _ HX.out) K5.out
        simp at c2'
        go_upto_region 14 with fail
        have U2' := Lib.hid c2'
        clear c2'
        have HGA := Lib.hid ((HG.out.below K5.out).head i him)
        have HGO := Lib.hid ((HG.out.below K5.out).one i HQI.out)
        have HTI : Hid ((gs.take i).length = i) := Lib.hid (by rw [List.length_take, HLN.out]; omega)
        have HRM : Hid (∀ (j : Nat) (p : GQ), (gs.take i)[j]? = some p → p.roomy) := Lib.hid (fun j p hj => by
          rw [List.getElem?_take] at hj
          split at hj
          · exact (HNR.out j p hj).roomy
          · cases hj)
        have s1 : IntKind.i64.wrap ((i : Int) + 1) = (i : Int) + 1 := wrapi (by omega) (by omega)
        have hic : i ≤ c := by omega
        have hic1 : i + 1 ≤ c := by omega
        open Classical in
        obtain ⟨HB, hHB⟩ : ∃ HB : Bool, HB = true ↔ ∃ (j : Nat) (p : GQ), (gs.take i)[j]? = some p ∧ hits p q := ⟨decide (∃ (j : Nat) (p : GQ), (gs.take i)[j]? = some p ∧ hits p q), decide_eq_true_iff⟩
        have HHB := Lib.hid hHB
        clear hHB
        refine wp_region_noPanic ?_
        refine wp_region_held_drew (S := (fun V => V.cell? ⟨sx, 2, none⟩ = some (.slice (some ⟨b2, 0, none⟩) n c))) (by kernel_rfl) ?_ (fun hHeld => ?_)
        · exact U2'.out
        refine wpAnyH_take (i := 0) (oi := { dst := some 38, op := Op.fieldAddr 48 (Operand.tmp 2) 2, type := 0, pos := "foot.go:41", after := #[], guard := none }) (v := ?_) rfl (by kernel_rfl) (by kernel_rfl) (by kernel_rfl) (fun _ _ _ h => h) (Or.inl ⟨by rfl, ?_⟩) (by assumption) ?_
        rotate_left
        · (intro w hSw; (try dsimp only at hSw); go_simp; try with_reducible rfl)
        try simp only [Act.put, List.setIfInBounds_toArray, List.set_cons_zero, List.set_cons_succ]
        refine wpAnyH_take (i := 1) (oi := { dst := some 39, op := Op.load 46 (Operand.tmp 38), type := 46, pos := "foot.go:41", after := #[{ on := 0, ground := Ground.data }], guard := none }) (v := ?_) rfl (by kernel_rfl) (by kernel_rfl) (by kernel_rfl) (fun _ _ _ h => h) (Or.inl ⟨by rfl, ?_⟩) (by assumption) ?_
        rotate_left
        · (intro w hSw; (try dsimp only at hSw); go_simp; try with_reducible rfl)
        try simp only [Act.put, List.setIfInBounds_toArray, List.set_cons_zero, List.set_cons_succ]
        refine wpAnyH_take (i := 2) (oi := { dst := some 40, op := Op.move (Operand.tmp 5), type := 3, pos := "foot.go:41", after := #[], guard := none }) (v := ?_) rfl (by kernel_rfl) (by kernel_rfl) (by kernel_rfl) (fun _ _ _ h => h) (Or.inl ⟨by rfl, ?_⟩) (by assumption) ?_
        rotate_left
        · (intro w hSw; (try dsimp only at hSw); go_simp; try with_reducible rfl)
        try simp only [Act.put, List.setIfInBounds_toArray, List.set_cons_zero, List.set_cons_succ]
        refine wpAnyH_take (i := 3) (oi := { dst := some 41, op := Op.slice 46 (Operand.tmp 39) none (some (Operand.tmp 40)) none, type := 46, pos := "foot.go:41", after := #[{ on := 1, ground := Ground.data }, { on := 2, ground := Ground.data }], guard := none }) (v := ?_) rfl (by kernel_rfl) (by kernel_rfl) (by kernel_rfl) (fun _ _ _ h => h) (Or.inl ⟨by rfl, ?_⟩) (by assumption) ?_
        rotate_left
        · (intro w hSw; (try dsimp only at hSw); go_simp; try with_reducible rfl)
        try simp only [Act.put, List.setIfInBounds_toArray, List.set_cons_zero, List.set_cons_succ]
        refine wpAnyH_take (i := 5) (oi := { dst := some 43, op := Op.fieldAddr 48 (Operand.tmp 2) 2, type := 0, pos := "foot.go:41", after := #[], guard := none }) (v := ?_) rfl (by kernel_rfl) (by kernel_rfl) (by kernel_rfl) (fun _ _ _ h => h) (Or.inl ⟨by rfl, ?_⟩) (by assumption) ?_
        rotate_left
        · (intro w hSw; (try dsimp only at hSw); go_simp; try with_reducible rfl)
        try simp only [Act.put, List.setIfInBounds_toArray, List.set_cons_zero, List.set_cons_succ]
        refine wpAnyH_take (i := 6) (oi := { dst := some 44, op := Op.load 46 (Operand.tmp 43), type := 46, pos := "foot.go:41", after := #[{ on := 5, ground := Ground.data }], guard := none }) (v := ?_) rfl (by kernel_rfl) (by kernel_rfl) (by kernel_rfl) (fun _ _ _ h => h) (Or.inl ⟨by rfl, ?_⟩) (by assumption) ?_
        rotate_left
        · (intro w hSw; (try dsimp only at hSw); go_simp; try with_reducible rfl)
        try simp only [Act.put, List.setIfInBounds_toArray, List.set_cons_zero, List.set_cons_succ]
        refine wpAnyH_take (i := 7) (oi := { dst := some 45, op := Op.move (Operand.tmp 5), type := 3, pos := "foot.go:41", after := #[], guard := none }) (v := ?_) rfl (by kernel_rfl) (by kernel_rfl) (by kernel_rfl) (fun _ _ _ h => h) (Or.inl ⟨by rfl, ?_⟩) (by assumption) ?_
        rotate_left
        · (intro w hSw; (try dsimp only at hSw); go_simp; try with_reducible rfl)
        try simp only [Act.put, List.setIfInBounds_toArray, List.set_cons_zero, List.set_cons_succ]
        refine wpAnyH_take (i := 8) (oi := { dst := some 46, op := Op.move (Operand.tmp 5), type := 3, pos := "foot.go:41", after := #[], guard := none }) (v := ?_) rfl (by kernel_rfl) (by kernel_rfl) (by kernel_rfl) (fun _ _ _ h => h) (Or.inl ⟨by rfl, ?_⟩) (by assumption) ?_
        rotate_left
        · (intro w hSw; (try dsimp only at hSw); go_simp; try with_reducible rfl)
        try simp only [Act.put, List.setIfInBounds_toArray, List.set_cons_zero, List.set_cons_succ]
        refine wpAnyH_take (i := 9) (oi := { dst := some 47, op := Op.binOp BinOp.add 3 (Operand.tmp 46) (Operand.const (Value.int IntKind.i64 1)) 3, type := 3, pos := "foot.go:41", after := #[{ on := 8, ground := Ground.data }], guard := none }) (v := ?_) rfl (by kernel_rfl) (by kernel_rfl) (by kernel_rfl) (fun _ _ _ h => h) (Or.inl ⟨by rfl, ?_⟩) (by assumption) ?_
        rotate_left
        · (intro w hSw; (try dsimp only at hSw); go_simp; try with_reducible rfl)
        try simp only [Act.put, List.setIfInBounds_toArray, List.set_cons_zero, List.set_cons_succ]
        refine wpAnyH_take (i := 10) (oi := { dst := some 48, op := Op.slice 46 (Operand.tmp 44) (some (Operand.tmp 45)) (some (Operand.tmp 47)) none, type := 46, pos := "foot.go:41", after := #[{ on := 6, ground := Ground.data }, { on := 7, ground := Ground.data }, { on := 9, ground := Ground.data }], guard := none }) (v := ?_) rfl (by kernel_rfl) (by kernel_rfl) (by kernel_rfl) (fun _ _ _ h => h) (Or.inl ⟨by rfl, ?_⟩) (by assumption) ?_
        rotate_left
        · (intro w hSw; (try dsimp only at hSw); go_simp; rw [if_pos (by omega), if_neg (by omega)])
        try simp only [Act.put, List.setIfInBounds_toArray, List.set_cons_zero, List.set_cons_succ]
        refine wpAnyH_ready (rs := [4]) (by kernel_rfl) (by simp) ?_
        refine AllReadyH.cons (o := { dst := some 42, op := Op.call { callee := Callee.value (Operand.func 29), args := #[Operand.tmp 41], argTypes := #[46] }, type := 58, pos := "foot.go:41", after := #[{ on := 3, ground := Ground.data }], guard := none }) rfl (fun K hK => ?_) AllReadyH.nil
        go_simp
        refine (Try.exts w5.drew (HGA.out.below (Below.refl _ w5).drew) (by omega)).mono ?_
        rintro x w6 ⟨v6, rfl, he6⟩
        obtain ⟨A6, c6, rfl, ha6⟩ := he6.at
        rw [HTI.out] at ha6
        rw [HTI.out]
        have KA : Hid (Below w5.heap.size w5 w6) := Lib.hid ((Below.refl _ w5).drew.trans he6.be)
        have EA := Lib.hid ha6
        clear he6 ha6
        refine hK.out _ _ ?_ (fun hHeld => ?_)
        · exact cellW U2'.out KA.out
        clear hK K
        try simp only [Act.put, List.setIfInBounds_toArray, List.set_cons_zero, List.set_cons_succ]
        refine wpAnyH_ready (rs := [11]) (by kernel_rfl) (by simp) ?_
        refine AllReadyH.cons (o := { dst := some 49, op := Op.call { callee := Callee.value (Operand.func 29), args := #[Operand.tmp 48], argTypes := #[46] }, type := 58, pos := "foot.go:41", after := #[{ on := 10, ground := Ground.data }, { on := 4, ground := Ground.chain }], guard := none }) rfl (fun K hK => ?_) AllReadyH.nil
        go_simp
        refine (Try.exts w6 (HGO.out.below KA.out) (by omega)).mono ?_
        rintro x w7 ⟨v7, rfl, he7⟩
        obtain ⟨A7, c7, rfl, ha7⟩ := he7.at
        dsimp only [List.length_singleton, List.length_cons, List.length_nil] at ha7
        dsimp only [List.length_singleton, List.length_cons, List.length_nil]
        have KB : Hid (Below w5.heap.size w5 w7) := Lib.hid (KA.out.trans (he7.be.mono KA.out.size))
        have EB := Lib.hid ha7
        have EA7 := Lib.hid (EA.out.below he7.be)
        clear he7 ha7
        refine hK.out _ _ ?_ (fun hHeld => ?_)
        · exact cellW U2'.out KB.out
        clear hK K
        try simp only [Act.put, List.setIfInBounds_toArray, List.set_cons_zero, List.set_cons_succ]
        refine wpAnyH_ready (rs := [12]) (by kernel_rfl) (by simp) ?_
        refine AllReadyH.cons (o := { dst := some 50, op := Op.call { callee := Callee.value (Operand.func 28), args := #[Operand.tmp 42, Operand.tmp 49], argTypes := #[58, 58] }, type := 4, pos := "foot.go:41", after := #[{ on := 4, ground := Ground.data }, { on := 11, ground := Ground.data }, { on := 11, ground := Ground.chain }], guard := none }) rfl (fun K hK => ?_) AllReadyH.nil
        go_simp
        refine (Try.meet w7 EA7.out EB.out (by omega) HRM.out (HNR.out i q HQI.out).roomy HB HHB.out).mono ?_
        rintro x w8 ⟨rfl, hb8⟩
        have K8 : Hid (Below w5.heap.size w5 w8) := Lib.hid (KB.out.trans (hb8.mono KB.out.size))
        clear hb8
        refine hK.out _ _ ?_ (fun hHeld => ?_)
        · exact cellW U2'.out K8.out
        clear hK K
        try simp only [Act.put, List.setIfInBounds_toArray, List.set_cons_zero, List.set_cons_succ]
        refine wpAnyH_done (by kernel_rfl) ?_ _
        refine NoPanic.normal ?_
        have K9 : Hid (Below w1.heap.size w1 w8) := Lib.hid (K5.out.trans (K8.out.mono K5.out.size))
        clear hHeld s1
        cases hHB : HB with
        | true =>
          have hex := HHB.out.1 hHB
          have hR7 : R = 7 := by
            rcases Nat.lt_or_ge i m with h | h
            · exact absurd hex (HLOW.out i q h HQI.out).2
            · obtain rfl : i = m := by omega
              rcases HM.out with ⟨h1, _⟩ | ⟨q', h1, h2⟩
              · omega
              · rw [HQI.out] at h1
                cases h1
                rcases h2 with ⟨h4, _⟩ | ⟨_, h4, _⟩
                · rw [HER.out] at h4
                  cases h4
                · exact h4
          clear hex
          go_wp2_with fail
          (try simp only [Exit.jump])
          go_ret
          exact ⟨by rw [hR7]; rfl, WB.out.trans (K9.out.mono WB.out.size)⟩
        | false =>
          have him2 : i + 1 ≤ m := by
            rcases Nat.lt_or_ge i m with h | h
            · exact h
            · obtain rfl : i = m := by omega
              rcases HM.out with ⟨h1, _⟩ | ⟨q', h1, h2⟩
              · omega
              · rw [HQI.out] at h1
                cases h1
                rcases h2 with ⟨h4, _⟩ | ⟨_, _, h5⟩
                · rw [HER.out] at h4
                  cases h4
                · have := HHB.out.2 h5
                  rw [hHB] at this
                  cases this
          clear hHB
          go_wp2
          go_step3
          exact ⟨rfl, ⟨i + 1, him2, K9, _, _, _, _, _, _, _, _, _, _, _, _, _, _, _, _, _, _, _, _, _, _, _, _, _, _, _, _, _, _, _, _, _, _, _, _, _, _, _, _, _, _, _, _, _, _, _, _, rfl⟩, by simp [intOf]; omega⟩
      · have hR1 : R = 1 := by
          rcases HM.out with ⟨h1, h2⟩ | ⟨q', h1, h2⟩
          · have h3 := (HLOW.out i q (by omega) HQI.out).1
            rw [HER.out] at h3
            cases h3
          · rcases Nat.lt_or_ge i m with h | h
            · have h3 := (HLOW.out i q h HQI.out).1
              rw [HER.out] at h3
              cases h3
            · obtain rfl : i = m := by omega
              rw [HQI.out] at h1
              cases h1
              rcases h2 with ⟨_, h4⟩ | ⟨h4, _⟩
              · exact h4
              · rw [HER.out] at h4
                cases h4
        go_wp2_with fail
        (try simp only [Exit.jump])
        go_ret
        exact ⟨by rw [hR1]; rfl, WB.out.trans (K5.out.mono WB.out.size)⟩
    · have hin : i = n := by omega
      have hR0 : R = 0 := by
        rcases HM.out with ⟨h1, h2⟩ | ⟨q, h1, _⟩
        · exact h2
        · have := (List.getElem?_eq_some_iff.1 h1).1
          have := HLN.out
          omega
      have d1 : decide ((i : Int) = (n : Int)) = true := decide_eq_true (by omega)
      have d1' : decide (i = n) = true := decide_eq_true (by omega)
      have d1'' : ((i : Int) == (n : Int)) = true := by simp; omega
      clear hin
      go_wp2_with fail
      (try simp only [Exit.jump])
      go_ret
      exact ⟨by rw [hR0]; rfl, WB.out.trans (HK.out.mono WB.out.size)⟩
set_option maxHeartbeats 16000000 in
theorem Try.footCheckLong (w : World) (e : Nat) (he0 : e ≠ 0) {g0 cg : Nat} (hC : CR w (some ⟨g0, 0, none⟩) 1 cg colA) (A : Option Addr) (n c : Nat) (hn : 64 < n) (hn2 : n ≤ 1000) (bk : Int) :
    Calls Try.prog 8 #[.agg #[.int .u64 e, .slice (some ⟨g0, 0, none⟩) 1 cg, .slice A n c], .int .i64 bk] w fun x w' => x = .returned (.int .i64 4) ∧ Below w.heap.size w w' := by
  have d0 : ((e : Int) == 0) = false := by simpa using he0
  have d0' : decide (e = 0) = false := decide_eq_false he0
  have hb1 := ((Below.refl _ w).alloc (Nat.le_refl _) (.cells #[.int .u64 e, .slice (some ⟨g0, 0, none⟩) 1 cg, .slice A n c] 48))
  have hn1 := heap_alloc_new w (.cells #[.int .u64 e, .slice (some ⟨g0, 0, none⟩) 1 cg, .slice A n c] 48)
  obtain ⟨w1, hw1⟩ : ∃ w1, w.alloc (.cells #[.int .u64 e, .slice (some ⟨g0, 0, none⟩) 1 cg, .slice A n c] 48) = w1 := ⟨_, rfl⟩
  obtain ⟨sx, hsx⟩ : ∃ sx, w.heap.size = sx := ⟨_, rfl⟩
  rw [hw1] at hb1 hn1
  have HC := Lib.hid (hC.below hb1)
  rw [hsx] at hn1
  have WB := Lib.hid hb1
  have HX := Lib.hid hn1
  have HNM : Hid (∀ (j : Nat) (q : List UInt8 × Int), colA[j]? = some q → q.1.length ≤ 60000) := Lib.hid (fun j q h => by have := ((chk_ok colA_chk).2.2 j q h).1; omega)
  have d3 : decide (64 < (n : Int)) = true := decide_eq_true (by omega)
  have d3' : decide (64 < n) = true := decide_eq_true hn
  clear hb1 hn1 hC he0
  go_enter Try.func8, Try.ntmps8
  go_wp2
  (try rw [hw1])
  (try rw [hsx])
  clear hw1 hsx
  have V0 := cell_of_row w1 sx 0 _ 48 _ HX.out
  have V1 := cell_of_row w1 sx 1 _ 48 _ HX.out
  simp at V0 V1
  refine Go.NR.wp_scope_once 0 (fun _ _ => False) (fun _ _ => 0) rfl ?_ ?_
  · intro hJ
    go_wp2_with fail
    refine (Try.check w1 _ 1 cg colA HC.out HNM.out).mono ?_
    rintro x w2 ⟨rfl, hb2⟩
    rw [colA_chk]
    have K2 := Lib.hid hb2
    clear hb2
    clear V0 V1
    have V2 := cell_of_row w2 sx 2 _ 48 _ ((K2.out.block sx (Go.NR.heap_lt HX.out)).trans HX.out)
    simp at V2
    go_wp2_with fail
    (try simp only [Exit.jump])
    go_ret
    exact ⟨rfl, WB.out.trans (K2.out.mono WB.out.size)⟩
  · intro a' wr h
    exact h.elim
end Go.Proofs.Ytfblhcphbcghpaa
end

section
namespace Go.Proofs.Ytfblhcphbcghpaa
open Go.RowKit
open Go.NR (At)
set_option maxRecDepth 100000
theorem Try.held60 : Try.prog.stoodInHeld 60 = false := by kernel_rfl
theorem Try.held126 : Try.prog.stoodInHeld 126 = false := by kernel_rfl
theorem Try.held128 : Try.prog.stoodInHeld 128 = false := by kernel_rfl
theorem Try.held103 : Try.prog.stoodInHeld 103 = false := by kernel_rfl
theorem Try.guard128 : Try.prog.eqGuardType Try.prog.depth 128 = false := by kernel_rfl
theorem Try.guard103 : Try.prog.eqGuardType Try.prog.depth 103 = false := by kernel_rfl
theorem st103 : Try.prog.underlying 103 = some (.struct (Try.prog.fieldsOf 103)) := by kernel_rfl
theorem fields60 : ∃ f1 f2 : Field, (Try.prog.fieldsOf 60).toList = [f1, f2] ∧ (f1.name ≠ "_" ∧ f1.type = 3 ∧ f1.offset = 0) ∧ (f2.name ≠ "_" ∧ f2.type = 3 ∧ f2.offset = 1) := by
  have h : (Try.prog.fieldsOf 60).toList.map (fun f => (f.name == "_", f.type, f.offset)) = [(false, 3, 0), (false, 3, 1)] := by kernel_rfl
  generalize (Try.prog.fieldsOf 60).toList = L at h
  rcases L with _ | ⟨f1, _ | ⟨f2, _ | ⟨f3, L⟩⟩⟩ <;> simp at h
  exact ⟨f1, f2, rfl, h.1, h.2⟩
theorem fields103 : ∃ f1 f2 : Field, (Try.prog.fieldsOf 103).toList = [f1, f2] ∧ (f1.name ≠ "_" ∧ f1.type = 9 ∧ f1.offset = 0) ∧ (f2.name ≠ "_" ∧ f2.type = 3 ∧ f2.offset = 1) := by
  have h : (Try.prog.fieldsOf 103).toList.map (fun f => (f.name == "_", f.type, f.offset)) = [(false, 9, 0), (false, 3, 1)] := by kernel_rfl
  generalize (Try.prog.fieldsOf 103).toList = L at h
  rcases L with _ | ⟨f1, _ | ⟨f2, _ | ⟨f3, L⟩⟩⟩ <;> simp at h
  exact ⟨f1, f2, rfl, h.1, h.2⟩
theorem fields128 : ∃ f1 f2 : Field, (Try.prog.fieldsOf 128).toList = [f1, f2] ∧ (f1.name ≠ "_" ∧ f1.type = 60 ∧ f1.offset = 0) ∧ (f2.name ≠ "_" ∧ f2.type = 126 ∧ f2.offset = 2) := by
  have h : (Try.prog.fieldsOf 128).toList.map (fun f => (f.name == "_", f.type, f.offset)) = [(false, 60, 0), (false, 126, 2)] := by kernel_rfl
  generalize (Try.prog.fieldsOf 128).toList = L at h
  rcases L with _ | ⟨f1, _ | ⟨f2, _ | ⟨f3, L⟩⟩⟩ <;> simp at h
  exact ⟨f1, f2, rfl, h.1, h.2⟩
theorem fields126 : ∃ f1 f2 f3 f4 f5 f6 : Field, (Try.prog.fieldsOf 126).toList = [f1, f2, f3, f4, f5, f6] ∧ (f1.name ≠ "_" ∧ f1.type = 3 ∧ f1.offset = 0) ∧ (f2.name ≠ "_" ∧ f2.type = 3 ∧ f2.offset = 1) ∧ (f3.name ≠ "_" ∧ f3.type = 3 ∧ f3.offset = 2) ∧ (f4.name ≠ "_" ∧ f4.type = 123 ∧ f4.offset = 3) ∧ (f5.name ≠ "_" ∧ f5.type = 123 ∧ f5.offset = 7) ∧ (f6.name ≠ "_" ∧ f6.type = 124 ∧ f6.offset = 11) := by
  have h : (Try.prog.fieldsOf 126).toList.map (fun f => (f.name == "_", f.type, f.offset)) = [(false, 3, 0), (false, 3, 1), (false, 3, 2), (false, 123, 3), (false, 123, 7), (false, 124, 11)] := by kernel_rfl
  generalize (Try.prog.fieldsOf 126).toList = L at h
  rcases L with _ | ⟨f1, _ | ⟨f2, _ | ⟨f3, _ | ⟨f4, _ | ⟨f5, _ | ⟨f6, _ | ⟨f7, L⟩⟩⟩⟩⟩⟩⟩ <;> simp at h
  exact ⟨f1, f2, f3, f4, f5, f6, rfl, h.1, h.2.1, h.2.2.1, h.2.2.2.1, h.2.2.2.2.1, h.2.2.2.2.2⟩
theorem qI3 (w : World) (d : Nat) (a : Int) : (Op.equalIn (d + 1) 3 (.int .i64 a) (.int .i64 a)).run Try.prog w = .ok true w := by
  have := run_equalIn_int w d 3 .i64 .i64 a a Try.underlying3
  rwa [beq_self_eq_true] at this
theorem qI2 (w : World) (d : Nat) (a : Int) : (Op.equalIn (d + 1) 2 (.int .i64 a) (.int .i64 a)).run Try.prog w = .ok true w := by
  have := run_equalIn_int w d 2 .i64 .i64 a a Try.underlying2
  rwa [beq_self_eq_true] at this
theorem q9 (w : World) (d : Nat) (s : ByteArray) : (Op.equalIn (d + 1) 9 (.string s) (.string s)).run Try.prog w = .ok true w := by
  rw [run_equalIn_string w d 9 _ _ Try.underlying9, beq_self_eq_true]
theorem qE (w : World) (d : Nat) (a n : Int) : (Op.equalIn (d + 2) 60 (.agg #[.int .i64 a, .int .i64 n]) (.agg #[.int .i64 a, .int .i64 n])).run Try.prog w = .ok true w := by
  rw [run_equalIn_agg w (d + 1) 60 _ _ st60 Try.held60]
  obtain ⟨f1, f2, h, ⟨a1, a2, a3⟩, b1, b2, b3⟩ := fields60
  rw [h]
  simp only [Op.eqFields, a1, a2, a3, b1, b2, b3, if_true, ne_eq, not_false_eq_true]
  simp [part, go_sem, qI3]
theorem qC (w : World) (d : Nat) (s : ByteArray) (n : Int) : (Op.equalIn (d + 2) 103 (.agg #[.string s, .int .i64 n]) (.agg #[.string s, .int .i64 n])).run Try.prog w = .ok true w := by
  rw [run_equalIn_agg w (d + 1) 103 _ _ st103 Try.held103]
  obtain ⟨f1, f2, h, ⟨a1, a2, a3⟩, b1, b2, b3⟩ := fields103
  rw [h]
  simp only [Op.eqFields, a1, a2, a3, b1, b2, b3, if_true, ne_eq, not_false_eq_true]
  simp [part, go_sem, qI3, q9]
theorem qB (w : World) (d : Nat) : (Op.equalIn (d + 2) 124 (.agg #[.complex .f64 0 0, .complex .f64 0 0]) (.agg #[.complex .f64 0 0, .complex .f64 0 0])).run Try.prog w = .ok true w := by
  rw [run_equalIn_agg w (d + 1) 124 _ _ st124 Try.held124]
  obtain ⟨f1, f2, h, ⟨a1, a2, a3⟩, b1, b2, b3⟩ := fields124
  rw [h]
  simp only [Op.eqFields, a1, a2, a3, b1, b2, b3, if_true, ne_eq, not_false_eq_true]
  simp [part, go_sem, eqC]
theorem qV (w : World) (d : Nat) (n : Int) : (Op.equalIn (d + 2) 123 (.agg #[.int .i64 1, .int .i64 n, .string ⟨#[]⟩, .complex .f64 0 0]) (.agg #[.int .i64 1, .int .i64 n, .string ⟨#[]⟩, .complex .f64 0 0])).run Try.prog w = .ok true w := by
  rw [run_equalIn_agg w (d + 1) 123 _ _ st123 Try.held123]
  obtain ⟨f1, f2, f3, f4, h, ⟨a1, a2, a3⟩, ⟨b1, b2, b3⟩, ⟨c1, c2, c3⟩, d1, d2, d3⟩ := fields123
  rw [h]
  simp only [Op.eqFields, a1, a2, a3, b1, b2, b3, c1, c2, c3, d1, d2, d3, if_true, ne_eq, not_false_eq_true]
  simp [part, go_sem, qI3, qI2, q9, eqC]
theorem qS (w : World) (d : Nat) (r lo hi : Int) : (Op.equalIn (d + 3) 126 (.agg (scl r lo hi)) (.agg (scl r lo hi))).run Try.prog w = .ok true w := by
  unfold scl
  rw [run_equalIn_agg w (d + 2) 126 _ _ st126 Try.held126]
  obtain ⟨f1, f2, f3, f4, f5, f6, h, ⟨a1, a2, a3⟩, ⟨b1, b2, b3⟩, ⟨c1, c2, c3⟩, ⟨d1, d2, d3⟩, ⟨e1, e2, e3⟩, g1, g2, g3⟩ := fields126
  rw [h]
  simp only [Op.eqFields, a1, a2, a3, b1, b2, b3, c1, c2, c3, d1, d2, d3, e1, e2, e3, g1, g2, g3, if_true, ne_eq, not_false_eq_true]
  simp [part, go_sem, qI3, qV, qB, run_underlying st123, run_underlying st124, sizeOf_run w size123, sizeOf_run w size124, isAgg_run w st123, isAgg_run w st124]
theorem qK (w : World) (d : Nat) (a n r lo hi : Int) : (Op.equalIn (d + 4) 128 (.agg (kcl a n r lo hi)) (.agg (kcl a n r lo hi))).run Try.prog w = .ok true w := by
  have hS := qS w d r lo hi
  unfold kcl
  unfold scl at hS
  rw [run_equalIn_agg w (d + 3) 128 _ _ st128 Try.held128]
  obtain ⟨f1, f2, h, ⟨a1, a2, a3⟩, b1, b2, b3⟩ := fields128
  rw [h]
  simp only [Op.eqFields, a1, a2, a3, b1, b2, b3, if_true, ne_eq, not_false_eq_true]
  simp [part, go_sem, qE, hS, eqC, run_underlying st60, run_underlying st126, sizeOf_run w size60, sizeOf_run w size126, isAgg_run w st60, isAgg_run w st126]
theorem neqK (w : World) (a n r lo hi : Int) : (binOp .neq 128 (.agg (kcl a n r lo hi)) (.agg (kcl a n r lo hi))).run Try.prog w = .ok (.bool false) w := by
  rw [run_neq_struct, qK w 9996, Result.andThen_ok]
  rfl
theorem neqC (w : World) (s : ByteArray) (n : Int) : (binOp .neq 103 (.agg #[.string s, .int .i64 n]) (.agg #[.string s, .int .i64 n])).run Try.prog w = .ok (.bool false) w := by
  rw [run_neq_struct, qC w 9998, Result.andThen_ok]
  rfl
theorem eqGK (op : BinOp) (x y : Operand) (xs ys : Array Value) (w : World) : (eqGuard op 128 x y (.agg xs) (.agg ys)).run Try.prog w = .ok () w := run_eqGuard_agg w op 128 x y xs ys Try.guard128
theorem eqGC (op : BinOp) (x y : Operand) (xs ys : Array Value) (w : World) : (eqGuard op 103 x y (.agg xs) (.agg ys)).run Try.prog w = .ok () w := run_eqGuard_agg w op 103 x y xs ys Try.guard103
end Go.Proofs.Ytfblhcphbcghpaa
end

section
namespace Go.Proofs.Ytfblhcphbcghpaa
open Go.RowKit
open Go.NR (At)
set_option maxRecDepth 100000
set_option maxHeartbeats 16000000 in
theorem Try.eqChunks (w : World) (q : GQ) {g1 c1 g2 c2 : Nat} (h1 : G1 w 0 g1 c1 q.k) (h2 : G1 w 0 g2 c2 q.k) : Calls Try.prog 69 #[.slice (some ⟨g1, 0, none⟩) 1 c1, .slice (some ⟨g2, 0, none⟩) 1 c2] w fun x w' => x = .returned (.bool true) ∧ Below w.heap.size w w' := by
  have hne : ∀ w, (binOp .neq 128 (.agg #[.int .i64 q.a, .int .i64 q.n, .int .i64 1, .int .i64 q.r, .int .i64 0, .int .i64 1, .int .i64 q.lo, .string ⟨#[]⟩, .complex .f64 0 0, .int .i64 1, .int .i64 q.hi, .string ⟨#[]⟩, .complex .f64 0 0, .complex .f64 0 0, .complex .f64 0 0]) (.agg #[.int .i64 q.a, .int .i64 q.n, .int .i64 1, .int .i64 q.r, .int .i64 0, .int .i64 1, .int .i64 q.lo, .string ⟨#[]⟩, .complex .f64 0 0, .int .i64 1, .int .i64 q.hi, .string ⟨#[]⟩, .complex .f64 0 0, .complex .f64 0 0, .complex .f64 0 0])).run Try.prog w = .ok (.bool false) w := fun w => neqK w q.a q.n q.r q.lo q.hi
  have hgd := eqGK
  have U0 : Hid (w.cell? ⟨g1, 0, none⟩ = some (.int .i64 q.a)) := Lib.hid (h1.2.2.2 0 _ rfl)
  have W0 : Hid (w.cell? ⟨g2, 0, none⟩ = some (.int .i64 q.a)) := Lib.hid (h2.2.2.2 0 _ rfl)
  have U1 : Hid (w.cell? ⟨g1, 1, none⟩ = some (.int .i64 q.n)) := Lib.hid (h1.2.2.2 1 _ rfl)
  have W1 : Hid (w.cell? ⟨g2, 1, none⟩ = some (.int .i64 q.n)) := Lib.hid (h2.2.2.2 1 _ rfl)
  have U2 : Hid (w.cell? ⟨g1, 2, none⟩ = some (.int .i64 1)) := Lib.hid (h1.2.2.2 2 _ rfl)
  have W2 : Hid (w.cell? ⟨g2, 2, none⟩ = some (.int .i64 1)) := Lib.hid (h2.2.2.2 2 _ rfl)
  have U3 : Hid (w.cell? ⟨g1, 3, none⟩ = some (.int .i64 q.r)) := Lib.hid (h1.2.2.2 3 _ rfl)
  have W3 : Hid (w.cell? ⟨g2, 3, none⟩ = some (.int .i64 q.r)) := Lib.hid (h2.2.2.2 3 _ rfl)
  have U4 : Hid (w.cell? ⟨g1, 4, none⟩ = some (.int .i64 0)) := Lib.hid (h1.2.2.2 4 _ rfl)
  have W4 : Hid (w.cell? ⟨g2, 4, none⟩ = some (.int .i64 0)) := Lib.hid (h2.2.2.2 4 _ rfl)
  have U5 : Hid (w.cell? ⟨g1, 5, none⟩ = some (.int .i64 1)) := Lib.hid (h1.2.2.2 5 _ rfl)
  have W5 : Hid (w.cell? ⟨g2, 5, none⟩ = some (.int .i64 1)) := Lib.hid (h2.2.2.2 5 _ rfl)
  have U6 : Hid (w.cell? ⟨g1, 6, none⟩ = some (.int .i64 q.lo)) := Lib.hid (h1.2.2.2 6 _ rfl)
  have W6 : Hid (w.cell? ⟨g2, 6, none⟩ = some (.int .i64 q.lo)) := Lib.hid (h2.2.2.2 6 _ rfl)
  have U7 : Hid (w.cell? ⟨g1, 7, none⟩ = some (.string ⟨#[]⟩)) := Lib.hid (h1.2.2.2 7 _ rfl)
  have W7 : Hid (w.cell? ⟨g2, 7, none⟩ = some (.string ⟨#[]⟩)) := Lib.hid (h2.2.2.2 7 _ rfl)
  have U8 : Hid (w.cell? ⟨g1, 8, none⟩ = some (.complex .f64 0 0)) := Lib.hid (h1.2.2.2 8 _ rfl)
  have W8 : Hid (w.cell? ⟨g2, 8, none⟩ = some (.complex .f64 0 0)) := Lib.hid (h2.2.2.2 8 _ rfl)
  have U9 : Hid (w.cell? ⟨g1, 9, none⟩ = some (.int .i64 1)) := Lib.hid (h1.2.2.2 9 _ rfl)
  have W9 : Hid (w.cell? ⟨g2, 9, none⟩ = some (.int .i64 1)) := Lib.hid (h2.2.2.2 9 _ rfl)
  have U10 : Hid (w.cell? ⟨g1, 10, none⟩ = some (.int .i64 q.hi)) := Lib.hid (h1.2.2.2 10 _ rfl)
  have W10 : Hid (w.cell? ⟨g2, 10, none⟩ = some (.int .i64 q.hi)) := Lib.hid (h2.2.2.2 10 _ rfl)
  have U11 : Hid (w.cell? ⟨g1, 11, none⟩ = some (.string ⟨#[]⟩)) := Lib.hid (h1.2.2.2 11 _ rfl)
  have W11 : Hid (w.cell? ⟨g2, 11, none⟩ = some (.string ⟨#[]⟩)) := Lib.hid (h2.2.2.2 11 _ rfl)
  have U12 : Hid (w.cell? ⟨g1, 12, none⟩ = some (.complex .f64 0 0)) := Lib.hid (h1.2.2.2 12 _ rfl)
  have W12 : Hid (w.cell? ⟨g2, 12, none⟩ = some (.complex .f64 0 0)) := Lib.hid (h2.2.2.2 12 _ rfl)
  have U13 : Hid (w.cell? ⟨g1, 13, none⟩ = some (.complex .f64 0 0)) := Lib.hid (h1.2.2.2 13 _ rfl)
  have W13 : Hid (w.cell? ⟨g2, 13, none⟩ = some (.complex .f64 0 0)) := Lib.hid (h2.2.2.2 13 _ rfl)
  have U14 : Hid (w.cell? ⟨g1, 14, none⟩ = some (.complex .f64 0 0)) := Lib.hid (h1.2.2.2 14 _ rfl)
  have W14 : Hid (w.cell? ⟨g2, 14, none⟩ = some (.complex .f64 0 0)) := Lib.hid (h2.2.2.2 14 _ rfl)
  have a1 := h1.2.1
  have a2 := h1.2.2.1
  have a3 := h2.2.1
  have a4 := h2.2.2.1
  clear h1 h2
  have HN := Lib.hid hne
  have HGD := Lib.hid hgd
  clear hne hgd
  go_enter Try.func69, Try.ntmps69
  go_wp2_with fail
  go_loopw [13] (fun t W => (t = .int .i64 0 ∧ W = w) ∨ (t = .int .i64 1 ∧ Hid (Below w.heap.size w W))) (fun t _ => 1 - (intOf t).toNat)
  case atStart => exact .inl ⟨rfl, rfl⟩
  case round =>
    rename World => W
    rcases hrel with ⟨rfl, hW⟩ | ⟨rfl, HK⟩
    · subst W
      go_upto_region 6 with fail
      have hne := HN.out
      have hgd := HGD.out
      refine wp_region_noPanic ?_
      refine wp_region_held_drew (S := (fun V => V.cell? ⟨g1, 0, none⟩ = some (.int .i64 q.a) ∧ V.cell? ⟨g1, 1, none⟩ = some (.int .i64 q.n) ∧ V.cell? ⟨g1, 2, none⟩ = some (.int .i64 1) ∧ V.cell? ⟨g1, 3, none⟩ = some (.int .i64 q.r) ∧ V.cell? ⟨g1, 4, none⟩ = some (.int .i64 0) ∧ V.cell? ⟨g1, 5, none⟩ = some (.int .i64 1) ∧ V.cell? ⟨g1, 6, none⟩ = some (.int .i64 q.lo) ∧ V.cell? ⟨g1, 7, none⟩ = some (.string ⟨#[]⟩) ∧ V.cell? ⟨g1, 8, none⟩ = some (.complex .f64 0 0) ∧ V.cell? ⟨g1, 9, none⟩ = some (.int .i64 1) ∧ V.cell? ⟨g1, 10, none⟩ = some (.int .i64 q.hi) ∧ V.cell? ⟨g1, 11, none⟩ = some (.string ⟨#[]⟩) ∧ V.cell? ⟨g1, 12, none⟩ = some (.complex .f64 0 0) ∧ V.cell? ⟨g1, 13, none⟩ = some (.complex .f64 0 0) ∧ V.cell? ⟨g1, 14, none⟩ = some (.complex .f64 0 0) ∧ V.cell? ⟨g2, 0, none⟩ = some (.int .i64 q.a) ∧ V.cell? ⟨g2, 1, none⟩ = some (.int .i64 q.n) ∧ V.cell? ⟨g2, 2, none⟩ = some (.int .i64 1) ∧ V.cell? ⟨g2, 3, none⟩ = some (.int .i64 q.r) ∧ V.cell? ⟨g2, 4, none⟩ = some (.int .i64 0) ∧ V.cell? ⟨g2, 5, none⟩ = some (.int .i64 1) ∧ V.cell? ⟨g2, 6, none⟩ = some (.int .i64 q.lo) ∧ V.cell? ⟨g2, 7, none⟩ = some (.string ⟨#[]⟩) ∧ V.cell? ⟨g2, 8, none⟩ = some (.complex .f64 0 0) ∧ V.cell? ⟨g2, 9, none⟩ = some (.int .i64 1) ∧ V.cell? ⟨g2, 10, none⟩ = some (.int .i64 q.hi) ∧ V.cell? ⟨g2, 11, none⟩ = some (.string ⟨#[]⟩) ∧ V.cell? ⟨g2, 12, none⟩ = some (.complex .f64 0 0) ∧ V.cell? ⟨g2, 13, none⟩ = some (.complex .f64 0 0) ∧ V.cell? ⟨g2, 14, none⟩ = some (.complex .f64 0 0))) (by kernel_rfl) ?_ (fun hHeld => ?_)
      · exact ⟨U0.out, U1.out, U2.out, U3.out, U4.out, U5.out, U6.out, U7.out, U8.out, U9.out, U10.out, U11.out, U12.out, U13.out, U14.out, W0.out, W1.out, W2.out, W3.out, W4.out, W5.out, W6.out, W7.out, W8.out, W9.out, W10.out, W11.out, W12.out, W13.out, W14.out⟩
      refine wpAnyH_take (i := 0) (oi := { dst := some 16, op := Op.move (Operand.tmp 0), type := 77, pos := "slices.go:25", after := #[], guard := none }) (v := ?_) rfl (by kernel_rfl) (by kernel_rfl) (by kernel_rfl) (fun _ _ _ h => h) (Or.inl ⟨by rfl, ?_⟩) (by assumption) ?_
      rotate_left
      · (intro w hSw; (try dsimp only at hSw); go_simp; try with_reducible rfl)
      try simp only [Act.put, List.setIfInBounds_toArray, List.set_cons_zero, List.set_cons_succ]
      refine wpAnyH_take (i := 1) (oi := { dst := some 17, op := Op.move (Operand.tmp 5), type := 3, pos := "slices.go:25", after := #[], guard := none }) (v := ?_) rfl (by kernel_rfl) (by kernel_rfl) (by kernel_rfl) (fun _ _ _ h => h) (Or.inl ⟨by rfl, ?_⟩) (by assumption) ?_
      rotate_left
      · (intro w hSw; (try dsimp only at hSw); go_simp; try with_reducible rfl)
      try simp only [Act.put, List.setIfInBounds_toArray, List.set_cons_zero, List.set_cons_succ]
      refine wpAnyH_take (i := 2) (oi := { dst := some 18, op := Op.indexAddr 77 (Operand.tmp 16) (Operand.tmp 17), type := 0, pos := "slices.go:25", after := #[{ on := 0, ground := Ground.data }, { on := 1, ground := Ground.data }], guard := none }) (v := ?_) rfl (by kernel_rfl) (by kernel_rfl) (by kernel_rfl) (fun _ _ _ h => h) (Or.inl ⟨by rfl, ?_⟩) (by assumption) ?_
      rotate_left
      · (intro w hSw; (try dsimp only at hSw); go_simp; try with_reducible rfl)
      try simp only [Act.put, List.setIfInBounds_toArray, List.set_cons_zero, List.set_cons_succ]
      refine wpAnyH_take (i := 3) (oi := { dst := some 19, op := Op.load 128 (Operand.tmp 18), type := 128, pos := "slices.go:25", after := #[{ on := 2, ground := Ground.data }], guard := none }) (v := ?_) rfl (by kernel_rfl) (by kernel_rfl) (by kernel_rfl) (fun _ _ _ h => h) (Or.inl ⟨by rfl, ?_⟩) (by assumption) ?_
      rotate_left
      · (intro w hSw; (try dsimp only at hSw); go_simp; try with_reducible rfl)
      try simp only [Act.put, List.setIfInBounds_toArray, List.set_cons_zero, List.set_cons_succ]
      refine wpAnyH_take (i := 4) (oi := { dst := some 20, op := Op.move (Operand.tmp 1), type := 77, pos := "slices.go:25", after := #[], guard := none }) (v := ?_) rfl (by kernel_rfl) (by kernel_rfl) (by kernel_rfl) (fun _ _ _ h => h) (Or.inl ⟨by rfl, ?_⟩) (by assumption) ?_
      rotate_left
      · (intro w hSw; (try dsimp only at hSw); go_simp; try with_reducible rfl)
      try simp only [Act.put, List.setIfInBounds_toArray, List.set_cons_zero, List.set_cons_succ]
      refine wpAnyH_take (i := 5) (oi := { dst := some 21, op := Op.move (Operand.tmp 5), type := 3, pos := "slices.go:25", after := #[], guard := none }) (v := ?_) rfl (by kernel_rfl) (by kernel_rfl) (by kernel_rfl) (fun _ _ _ h => h) (Or.inl ⟨by rfl, ?_⟩) (by assumption) ?_
      rotate_left
      · (intro w hSw; (try dsimp only at hSw); go_simp; try with_reducible rfl)
      try simp only [Act.put, List.setIfInBounds_toArray, List.set_cons_zero, List.set_cons_succ]
      refine wpAnyH_take (i := 6) (oi := { dst := some 22, op := Op.indexAddr 77 (Operand.tmp 20) (Operand.tmp 21), type := 0, pos := "slices.go:25", after := #[{ on := 4, ground := Ground.data }, { on := 5, ground := Ground.data }], guard := none }) (v := ?_) rfl (by kernel_rfl) (by kernel_rfl) (by kernel_rfl) (fun _ _ _ h => h) (Or.inl ⟨by rfl, ?_⟩) (by assumption) ?_
      rotate_left
      · (intro w hSw; (try dsimp only at hSw); go_simp; try with_reducible rfl)
      try simp only [Act.put, List.setIfInBounds_toArray, List.set_cons_zero, List.set_cons_succ]
      refine wpAnyH_take (i := 7) (oi := { dst := some 23, op := Op.load 128 (Operand.tmp 22), type := 128, pos := "slices.go:25", after := #[{ on := 6, ground := Ground.data }], guard := none }) (v := ?_) rfl (by kernel_rfl) (by kernel_rfl) (by kernel_rfl) (fun _ _ _ h => h) (Or.inl ⟨by rfl, ?_⟩) (by assumption) ?_
      rotate_left
      · (intro w hSw; (try dsimp only at hSw); go_simp; try with_reducible rfl)
      try simp only [Act.put, List.setIfInBounds_toArray, List.set_cons_zero, List.set_cons_succ]
      refine wpAnyH_take (i := 8) (oi := { dst := some 24, op := Op.binOp BinOp.neq 128 (Operand.tmp 19) (Operand.tmp 23) 128, type := 4, pos := "slices.go:25", after := #[{ on := 3, ground := Ground.data }, { on := 7, ground := Ground.data }], guard := none }) (v := ?_) rfl (by kernel_rfl) (by kernel_rfl) (by kernel_rfl) (fun _ _ _ h => h) (Or.inl ⟨by rfl, ?_⟩) (by assumption) ?_
      rotate_left
      · (intro w hSw; (try dsimp only at hSw); go_simp; try with_reducible rfl)
      try simp only [Act.put, List.setIfInBounds_toArray, List.set_cons_zero, List.set_cons_succ]
      refine wpAnyH_done (by kernel_rfl) ?_ _
      refine NoPanic.normal ?_
      have HK : Hid (Below w.heap.size w w.drew) := Lib.hid (Below.refl _ w).drew
      clear hne hgd hHeld
      go_wp2_with fail
      exact ⟨.inr ⟨rfl, HK⟩, by simp [intOf]⟩
    · go_wp2_with fail
      go_ret
      exact ⟨rfl, HK.out⟩
theorem Try.groupSame (w : World) (q : GQ) {g1 c1 g2 c2 : Nat} (h1 : G1 w 0 g1 c1 q.k) (h2 : G1 w 0 g2 c2 q.k) : Calls Try.prog 41 #[.agg #[.int .i64 q.r, .slice (some ⟨g1, 0, none⟩) 1 c1], .agg #[.int .i64 q.r, .slice (some ⟨g2, 0, none⟩) 1 c2]] w fun x w' => x = .returned (.bool true) ∧ Below w.heap.size w w' := by
  obtain ⟨w4, s8, s9, hw4, hs8, hs9, HB, H8, H9, HO⟩ := alloc2' w (.cells #[.int .i64 q.r, .slice (some ⟨g1, 0, none⟩) 1 c1] 79) (.cells #[.int .i64 q.r, .slice (some ⟨g2, 0, none⟩) 1 c2] 79)
  have HG1 := Lib.hid (h1.below HB.out)
  have HG2 := Lib.hid (h2.below HB.out)
  clear h1 h2
  go_enter Try.func41, Try.ntmps41
  go_upto_region 1 with fail
  (try rw [hw4])
  (try rw [hs8])
  (try rw [hs9])
  clear hw4 hs8 hs9
  have V0 := cell_of_row w4 s8 0 _ 79 _ H8.out
  have V1 := cell_of_row w4 s8 1 _ 79 _ H8.out
  have V2 := cell_of_row w4 s9 0 _ 79 _ H9.out
  have V3 := cell_of_row w4 s9 1 _ 79 _ H9.out
  simp at V0 V1 V2 V3
  go_wp2_with fail
  refine (Try.eqChunks w4 q HG1.out HG2.out).mono ?_
  rintro x w5 ⟨rfl, hb5⟩
  have K5 := Lib.hid (HB.out.trans (hb5.mono HB.out.size))
  clear hb5 V0 V1 V2 V3
  go_wp2_with fail
  go_ret
  exact ⟨rfl, K5.out⟩
set_option maxHeartbeats 16000000 in
theorem Try.equalFunc (w : World) {A B : Option Addr} {n c1 c2 : Nat} {gs : List GQ} (h1 : GRow w 0 A n c1 gs) (h2 : GRow w 0 B n c2 gs) (hn : n ≤ 1000) : Calls Try.prog 40 #[.slice A n c1, .slice B n c2, .func (.func 41) #[] #[]] w fun x w' => x = .returned (.bool true) ∧ Below w.heap.size w w' := by
  have HA := Lib.hid h1
  have HB := Lib.hid h2
  have HLN := Lib.hid h1.len
  have a1 := h1.le
  have a2 := h1.max
  have a3 := h2.le
  have a4 := h2.max
  clear h1 h2
  go_enter Try.func40, Try.ntmps40
  go_wp2_with fail
  go_loopw [17] (fun t W => ∃ i : Nat, i ≤ n ∧ t = .int .i64 i ∧ Hid (Below w.heap.size w W)) (fun t _ => n - (intOf t).toNat)
  case atStart => exact ⟨0, Nat.zero_le _, rfl, Lib.hid (Below.refl _ _)⟩
  case round =>
    rename World => W
    obtain ⟨i, hi, rfl, HK⟩ := hrel
    by_cases hlt : i < n
    · have d1 : decide ((i : Int) < (n : Int)) = true := decide_eq_true (by omega)
      have d1' : decide (i < n) = true := decide_eq_true hlt
      obtain ⟨q, hq⟩ : ∃ q, gs[i]? = some q := ⟨_, List.getElem?_eq_getElem (by rw [HLN.out]; exact hlt)⟩
      obtain ⟨b1, g1, k1, eA, _, p0, p1, hg1⟩ := HA.out.at' i q hq
      obtain ⟨b2, g2, k2, eB, _, r0, r1, hg2⟩ := HB.out.at' i q hq
      subst eA
      subst eB
      have Z0 := cellW p0 HK.out
      have Z1 := cellW p1 HK.out
      have Y0 := cellW r0 HK.out
      have Y1 := cellW r1 HK.out
      have HG1 := Lib.hid (hg1.below HK.out)
      have HG2 := Lib.hid (hg2.below HK.out)
      clear p0 p1 r0 r1 hg1 hg2 hq
      go_upto_region 6 with fail
      have hb5 := ((Below.refl W.heap.size W).alloc (Nat.le_refl _) (.cells #[.int .i64 q.r, .slice (some ⟨g1, 0, none⟩) 1 k1] 79))
      have hn5 := heap_alloc_new W (.cells #[.int .i64 q.r, .slice (some ⟨g1, 0, none⟩) 1 k1] 79)
      obtain ⟨w5, hw5⟩ : ∃ w5, W.alloc (.cells #[.int .i64 q.r, .slice (some ⟨g1, 0, none⟩) 1 k1] 79) = w5 := ⟨_, rfl⟩
      obtain ⟨s5, hs5⟩ : ∃ s5, W.heap.size = s5 := ⟨_, rfl⟩
      rw [hw5] at hb5 hn5
      have K5 := Lib.hid (HK.out.trans (hb5.mono HK.out.size))
      have HG15 := Lib.hid (HG1.out.below hb5)
      have HG25 := Lib.hid (HG2.out.below hb5)
      have y0 := cellW Y0 hb5
      have y1 := cellW Y1 hb5
      rw [hs5] at hn5
      rw [hw5]
      (try rw [hs5])
      have HN5 := Lib.hid hn5
      clear hb5 hn5 hw5 hs5 Z0 Z1 Y0 Y1 HG1 HG2 HK
      go_upto_region 7 with fail
      have hb6 := ((Below.refl w5.heap.size w5).alloc (Nat.le_refl _) (.cells #[.int .i64 q.r, .slice (some ⟨g2, 0, none⟩) 1 k2] 79))
      have hn6 := heap_alloc_new w5 (.cells #[.int .i64 q.r, .slice (some ⟨g2, 0, none⟩) 1 k2] 79)
      obtain ⟨w6, hw6⟩ : ∃ w6, w5.alloc (.cells #[.int .i64 q.r, .slice (some ⟨g2, 0, none⟩) 1 k2] 79) = w6 := ⟨_, rfl⟩
      obtain ⟨s6, hs6⟩ : ∃ s6, w5.heap.size = s6 := ⟨_, rfl⟩
      rw [hw6] at hb6 hn6
      have K6 := Lib.hid (K5.out.trans (hb6.mono K5.out.size))
      have HG16 := Lib.hid (HG15.out.below hb6)
      have HG26 := Lib.hid (HG25.out.below hb6)
      have HN56 := Lib.hid ((hb6.block s5 (Go.NR.heap_lt HN5.out)).trans HN5.out)
      rw [hs6] at hn6
      rw [hw6]
      (try rw [hs6])
      have HN6 := Lib.hid hn6
      clear hb6 hn6 hw6 hs6 y0 y1
      have A0 := cell_of_row w6 s5 0 _ 79 _ HN56.out
      have A1 := cell_of_row w6 s5 1 _ 79 _ HN56.out
      have B0 := cell_of_row w6 s6 0 _ 79 _ HN6.out
      have B1 := cell_of_row w6 s6 1 _ 79 _ HN6.out
      simp at A0 A1 B0 B1
      go_wp2_with fail
      refine (Try.groupSame w6 q HG16.out HG26.out).mono ?_
      rintro x w7 ⟨rfl, hb7⟩
      have K7 := Lib.hid (K6.out.trans (hb7.mono K6.out.size))
      clear hb7 A0 A1 B0 B1
      go_wp2_with fail
      exact ⟨⟨i + 1, hlt, rfl, K7⟩, by simp [intOf]; omega⟩
    · obtain rfl : i = n := by omega
      have d1 : decide ((i : Int) < (i : Int)) = false := by simp
      have d1' : decide (i < i) = false := by simp
      go_wp2_with fail
      go_ret
      exact ⟨rfl, HK.out⟩
end Go.Proofs.Ytfblhcphbcghpaa
end

section
namespace Go.Proofs.Ytfblhcphbcghpaa
open Go.RowKit
open Go.NR (At)
set_option maxRecDepth 100000
set_option maxHeartbeats 16000000 in
theorem Try.eqCols (w : World) {A B : Option Addr} {n c1 c2 : Nat} {cs : List (List UInt8 × Int)} (h1 : CR w A n c1 cs) (h2 : CR w B n c2 cs) (hn : n ≤ 1000) : Calls Try.prog 68 #[.slice A n c1, .slice B n c2] w fun x w' => x = .returned (.bool true) ∧ Below w.heap.size w w' := by
  have HA := Lib.hid h1
  have HB := Lib.hid h2
  have HLN := Lib.hid h1.len
  have a1 := h1.le
  have a2 := h1.max
  have a3 := h2.le
  have a4 := h2.max
  clear h1 h2
  go_enter Try.func68, Try.ntmps68
  go_wp2_with fail
  go_loopw [13] (fun t W => ∃ i : Nat, i ≤ n ∧ t = .int .i64 i ∧ Hid (Below w.heap.size w W)) (fun t _ => n - (intOf t).toNat)
  case atStart => exact ⟨0, Nat.zero_le _, rfl, Lib.hid (Below.refl _ _)⟩
  case round =>
    rename World => W
    obtain ⟨i, hi, rfl, HK⟩ := hrel
    by_cases hlt : i < n
    · have d1 : decide ((i : Int) < (n : Int)) = true := decide_eq_true (by omega)
      have d1' : decide (i < n) = true := decide_eq_true hlt
      obtain ⟨q, hq⟩ : ∃ q, cs[i]? = some q := ⟨_, List.getElem?_eq_getElem (by rw [HLN.out]; exact hlt)⟩
      obtain ⟨b1, eA, p0, p1⟩ := HA.out.at' i q hq
      obtain ⟨b2, eB, r0, r1⟩ := HB.out.at' i q hq
      subst eA
      subst eB
      obtain ⟨qs, qk⟩ := q
      dsimp only at p0 p1 r0 r1
      obtain ⟨S, hS⟩ : ∃ S, strOf qs = S := ⟨_, rfl⟩
      rw [hS] at p0 r0
      have Z0 := Lib.hid (cellW p0 HK.out)
      have Z1 := Lib.hid (cellW p1 HK.out)
      have Y0 := Lib.hid (cellW r0 HK.out)
      have Y1 := Lib.hid (cellW r1 HK.out)
      clear p0 p1 r0 r1 hq hS
      go_upto_region 6 with fail
      have hne := fun w => neqC w S qk
      have hgd := eqGC
      refine wp_region_noPanic ?_
      refine wp_region_held_drew (S := (fun V => V.cell? ⟨b1, i * 2, none⟩ = some (.string S) ∧ V.cell? ⟨b1, i * 2 + 1, none⟩ = some (.int .i64 qk) ∧ V.cell? ⟨b2, i * 2, none⟩ = some (.string S) ∧ V.cell? ⟨b2, i * 2 + 1, none⟩ = some (.int .i64 qk))) (by kernel_rfl) ?_ (fun hHeld => ?_)
      · exact ⟨Z0.out, Z1.out, Y0.out, Y1.out⟩
      refine wpAnyH_take (i := 0) (oi := { dst := some 16, op := Op.move (Operand.tmp 0), type := 45, pos := "slices.go:25", after := #[], guard := none }) (v := ?_) rfl (by kernel_rfl) (by kernel_rfl) (by kernel_rfl) (fun _ _ _ h => h) (Or.inl ⟨by rfl, ?_⟩) (by assumption) ?_
      rotate_left
      · (intro w hSw; (try dsimp only at hSw); go_simp; try with_reducible rfl)
      try simp only [Act.put, List.setIfInBounds_toArray, List.set_cons_zero, List.set_cons_succ]
      refine wpAnyH_take (i := 1) (oi := { dst := some 17, op := Op.move (Operand.tmp 5), type := 3, pos := "slices.go:25", after := #[], guard := none }) (v := ?_) rfl (by kernel_rfl) (by kernel_rfl) (by kernel_rfl) (fun _ _ _ h => h) (Or.inl ⟨by rfl, ?_⟩) (by assumption) ?_
      rotate_left
      · (intro w hSw; (try dsimp only at hSw); go_simp; try with_reducible rfl)
      try simp only [Act.put, List.setIfInBounds_toArray, List.set_cons_zero, List.set_cons_succ]
      refine wpAnyH_take (i := 2) (oi := { dst := some 18, op := Op.indexAddr 45 (Operand.tmp 16) (Operand.tmp 17), type := 0, pos := "slices.go:25", after := #[{ on := 0, ground := Ground.data }, { on := 1, ground := Ground.data }], guard := none }) (v := ?_) rfl (by kernel_rfl) (by kernel_rfl) (by kernel_rfl) (fun _ _ _ h => h) (Or.inl ⟨by rfl, ?_⟩) (by assumption) ?_
      rotate_left
      · (intro w hSw; (try dsimp only at hSw); go_simp; try with_reducible rfl)
      try simp only [Act.put, List.setIfInBounds_toArray, List.set_cons_zero, List.set_cons_succ]
      refine wpAnyH_take (i := 3) (oi := { dst := some 19, op := Op.load 103 (Operand.tmp 18), type := 103, pos := "slices.go:25", after := #[{ on := 2, ground := Ground.data }], guard := none }) (v := ?_) rfl (by kernel_rfl) (by kernel_rfl) (by kernel_rfl) (fun _ _ _ h => h) (Or.inl ⟨by rfl, ?_⟩) (by assumption) ?_
      rotate_left
      · (intro w hSw; (try dsimp only at hSw); go_simp; try with_reducible rfl)
      try simp only [Act.put, List.setIfInBounds_toArray, List.set_cons_zero, List.set_cons_succ]
      refine wpAnyH_take (i := 4) (oi := { dst := some 20, op := Op.move (Operand.tmp 1), type := 45, pos := "slices.go:25", after := #[], guard := none }) (v := ?_) rfl (by kernel_rfl) (by kernel_rfl) (by kernel_rfl) (fun _ _ _ h => h) (Or.inl ⟨by rfl, ?_⟩) (by assumption) ?_
      rotate_left
      · (intro w hSw; (try dsimp only at hSw); go_simp; try with_reducible rfl)
      try simp only [Act.put, List.setIfInBounds_toArray, List.set_cons_zero, List.set_cons_succ]
      refine wpAnyH_take (i := 5) (oi := { dst := some 21, op := Op.move (Operand.tmp 5), type := 3, pos := "slices.go:25", after := #[], guard := none }) (v := ?_) rfl (by kernel_rfl) (by kernel_rfl) (by kernel_rfl) (fun _ _ _ h => h) (Or.inl ⟨by rfl, ?_⟩) (by assumption) ?_
      rotate_left
      · (intro w hSw; (try dsimp only at hSw); go_simp; try with_reducible rfl)
      try simp only [Act.put, List.setIfInBounds_toArray, List.set_cons_zero, List.set_cons_succ]
      refine wpAnyH_take (i := 6) (oi := { dst := some 22, op := Op.indexAddr 45 (Operand.tmp 20) (Operand.tmp 21), type := 0, pos := "slices.go:25", after := #[{ on := 4, ground := Ground.data }, { on := 5, ground := Ground.data }], guard := none }) (v := ?_) rfl (by kernel_rfl) (by kernel_rfl) (by kernel_rfl) (fun _ _ _ h => h) (Or.inl ⟨by rfl, ?_⟩) (by assumption) ?_
      rotate_left
      · (intro w hSw; (try dsimp only at hSw); go_simp; try with_reducible rfl)
      try simp only [Act.put, List.setIfInBounds_toArray, List.set_cons_zero, List.set_cons_succ]
      refine wpAnyH_take (i := 7) (oi := { dst := some 23, op := Op.load 103 (Operand.tmp 22), type := 103, pos := "slices.go:25", after := #[{ on := 6, ground := Ground.data }], guard := none }) (v := ?_) rfl (by kernel_rfl) (by kernel_rfl) (by kernel_rfl) (fun _ _ _ h => h) (Or.inl ⟨by rfl, ?_⟩) (by assumption) ?_
      rotate_left
      · (intro w hSw; (try dsimp only at hSw); go_simp; try with_reducible rfl)
      try simp only [Act.put, List.setIfInBounds_toArray, List.set_cons_zero, List.set_cons_succ]
      refine wpAnyH_take (i := 8) (oi := { dst := some 24, op := Op.binOp BinOp.neq 103 (Operand.tmp 19) (Operand.tmp 23) 103, type := 4, pos := "slices.go:25", after := #[{ on := 3, ground := Ground.data }, { on := 7, ground := Ground.data }], guard := none }) (v := ?_) rfl (by kernel_rfl) (by kernel_rfl) (by kernel_rfl) (fun _ _ _ h => h) (Or.inl ⟨by rfl, ?_⟩) (by assumption) ?_
      rotate_left
      · (intro w hSw; (try dsimp only at hSw); go_simp; try with_reducible rfl)
      try simp only [Act.put, List.setIfInBounds_toArray, List.set_cons_zero, List.set_cons_succ]
      refine wpAnyH_done (by kernel_rfl) ?_ _
      refine NoPanic.normal ?_
      have HK2 : Hid (Below w.heap.size w W.drew) := Lib.hid HK.out.drew
      clear hne hgd hHeld
      go_wp2_with fail
      exact ⟨⟨i + 1, hlt, rfl, HK2⟩, by simp [intOf]; omega⟩
    · obtain rfl : i = n := by omega
      have d1 : decide ((i : Int) < (i : Int)) = false := by simp
      have d1' : decide (i < i) = false := by simp
      go_wp2_with fail
      go_ret
      exact ⟨rfl, HK.out⟩
theorem Try.schemaSame (w : World) {A B : Option Addr} {n c1 c2 : Nat} {cs : List (List UInt8 × Int)} (h1 : CR w A n c1 cs) (h2 : CR w B n c2 cs) (hn : n ≤ 1000) : Calls Try.prog 39 #[.slice A n c1, .slice B n c2] w fun x w' => x = .returned (.bool true) ∧ Below w.heap.size w w' := by
  go_enter Try.func39, Try.ntmps39
  go_wp2_with fail
  refine (Try.eqCols w h1 h2 hn).mono ?_
  rintro x w5 ⟨rfl, hb5⟩
  have K5 := Lib.hid hb5
  clear hb5
  go_wp2_with fail
  go_ret
  exact ⟨rfl, K5.out⟩
theorem Try.footSame (w : World) (e : Nat) {A B A' B' : Option Addr} {m k1 k2 n c1 c2 : Nat} {cs : List (List UInt8 × Int)} {gs : List GQ} (hA : CR w A m k1 cs) (hB : CR w B m k2 cs) (hm : m ≤ 1000) (h1 : GRow w 0 A' n c1 gs) (h2 : GRow w 0 B' n c2 gs) (hn : n ≤ 1000) :
    Calls Try.prog 10 #[.agg #[.int .u64 e, .slice A m k1, .slice A' n c1], .agg #[.int .u64 e, .slice B m k2, .slice B' n c2]] w fun x w' => x = .returned (.bool true) ∧ Below w.heap.size w w' := by
  obtain ⟨w4, s8, s9, hw4, hs8, hs9, HB, H8, H9, HO⟩ := alloc2' w (.cells #[.int .u64 e, .slice A m k1, .slice A' n c1] 48) (.cells #[.int .u64 e, .slice B m k2, .slice B' n c2] 48)
  have HA1 := Lib.hid (hA.below HB.out)
  have HB1 := Lib.hid (hB.below HB.out)
  have HG1 := Lib.hid (h1.below HB.out)
  have HG2 := Lib.hid (h2.below HB.out)
  clear hA hB h1 h2
  go_enter Try.func10, Try.ntmps10
  go_upto_region 1 with fail
  (try rw [hw4])
  (try rw [hs8])
  (try rw [hs9])
  clear hw4 hs8 hs9
  have V0 := cell_of_row w4 s8 0 _ 48 _ H8.out
  have V1 := cell_of_row w4 s8 1 _ 48 _ H8.out
  have V2 := cell_of_row w4 s9 0 _ 48 _ H9.out
  have V3 := cell_of_row w4 s9 1 _ 48 _ H9.out
  simp at V0 V1 V2 V3
  go_wp2_with fail
  refine (Try.schemaSame w4 HA1.out HB1.out hm).mono ?_
  rintro x w5 ⟨rfl, hb5⟩
  have K5 := Lib.hid (HB.out.trans (hb5.mono HB.out.size))
  have X0 := cellW (cell_of_row w4 s8 2 _ 48 _ H8.out) hb5
  have X1 := cellW (cell_of_row w4 s9 2 _ 48 _ H9.out) hb5
  simp at X0 X1
  have HG15 := Lib.hid (HG1.out.below hb5)
  have HG25 := Lib.hid (HG2.out.below hb5)
  clear hb5 V0 V1 V2 V3
  go_wp2_with fail
  refine (Try.equalFunc w5 HG15.out HG25.out hn).mono ?_
  rintro x w6 ⟨rfl, hb6⟩
  have K6 := Lib.hid (K5.out.trans (hb6.mono K5.out.size))
  clear hb6 X0 X1
  go_wp2_with fail
  go_ret
  exact ⟨rfl, K6.out⟩
theorem Try.footLess (w : World) (e : Nat) {A B A' B' : Option Addr} {m k1 k2 c1 c2 : Nat} {cs : List (List UInt8 × Int)} (hA : CR w A m k1 cs) (hB : CR w B m k2 cs) (hm : m ≤ 1000) :
    Calls Try.prog 10 #[.agg #[.int .u64 e, .slice A m k1, .slice A' 1 c1], .agg #[.int .u64 e, .slice B m k2, .slice B' 0 c2]] w fun x w' => x = .returned (.bool false) ∧ Below w.heap.size w w' := by
  obtain ⟨w4, s8, s9, hw4, hs8, hs9, HB, H8, H9, HO⟩ := alloc2' w (.cells #[.int .u64 e, .slice A m k1, .slice A' 1 c1] 48) (.cells #[.int .u64 e, .slice B m k2, .slice B' 0 c2] 48)
  have HA1 := Lib.hid (hA.below HB.out)
  have HB1 := Lib.hid (hB.below HB.out)
  have HEF : Hid (∀ W, Calls Try.prog 40 #[.slice A' 1 c1, .slice B' 0 c2, .func (.func 41) #[] #[]] W fun x w' => x = .returned (.bool false) ∧ w' = W) := Lib.hid (fun W => by
    go_enter Try.func40, Try.ntmps40
    go_wp2_with fail
    go_ret
    exact ⟨rfl, rfl⟩)
  clear hA hB
  go_enter Try.func10, Try.ntmps10
  go_upto_region 1 with fail
  (try rw [hw4])
  (try rw [hs8])
  (try rw [hs9])
  clear hw4 hs8 hs9
  have V0 := cell_of_row w4 s8 0 _ 48 _ H8.out
  have V1 := cell_of_row w4 s8 1 _ 48 _ H8.out
  have V2 := cell_of_row w4 s9 0 _ 48 _ H9.out
  have V3 := cell_of_row w4 s9 1 _ 48 _ H9.out
  simp at V0 V1 V2 V3
  go_wp2_with fail
  refine (Try.schemaSame w4 HA1.out HB1.out hm).mono ?_
  rintro x w5 ⟨rfl, hb5⟩
  have K5 := Lib.hid (HB.out.trans (hb5.mono HB.out.size))
  have X0 := cellW (cell_of_row w4 s8 2 _ 48 _ H8.out) hb5
  have X1 := cellW (cell_of_row w4 s9 2 _ 48 _ H9.out) hb5
  simp at X0 X1
  clear hb5 V0 V1 V2 V3
  go_wp2_with fail
  refine (HEF.out w5).mono ?_
  rintro x w6 ⟨rfl, hw6⟩
  rw [hw6]
  clear hw6 w6 X0 X1
  go_wp2_with fail
  go_ret
  exact ⟨rfl, K5.out⟩
end Go.Proofs.Ytfblhcphbcghpaa
end

section
namespace Go.Proofs.Ytfblhcphbcghpaa
open Go.RowKit
set_option maxRecDepth 100000
set_option maxHeartbeats 8000000 in
theorem Try.footGetMore (w : World) {A : Option Addr} {n c e : Nat} {cs : List (List UInt8 × Int)} (he : e < 18446744073709551616) (he0 : e ≠ 0) (hok : chk cs = 0) (hD : DI w A n c (footB e cs ++ [0])) :
    Calls Try.prog 9 #[.slice A n c] w (fun x w' => x = .returned (.tuple #[.agg foot0, .int .i64 4]) ∧ Below w.heap.size w w') := by
  have hfl0 := footB_le (e := e) hok
  have hln := hD.len
  have hlen : (footB e cs ++ [0]).length = (encN e).length + (schB cs).length + (encN 0).length + 1 := by rw [List.length_append, footB_len]; rfl
  have hd0 : (footB e cs ++ [0]).drop 0 = encN e ++ (schB cs ++ (encN 0 ++ [0])) := by rw [List.drop_zero]; simp [footB]
  obtain ⟨l1, hd1⟩ := drop_fit hd0 (Nat.zero_le _)
  obtain ⟨l2, hd2⟩ := drop_fit hd1 l1
  rw [Nat.zero_add] at l1 hd1 l2 hd2
  have f1 : Proofs.rnum (footB e cs ++ [0]) 0 0 = ((e : Int), (encN e).length, 0) := by
    have := rnum_ok (getN_put hd0 he)
    rw [this, Nat.zero_add]
  have f2 := sget_sch hd1 hok l1
  have f3 : Proofs.rnum (footB e cs ++ [0]) ((encN e).length + (schB cs).length) 0 = (((0 : Nat) : Int), (encN e).length + (schB cs).length + (encN 0).length, 0) := rnum_ok (getN_put hd2 (by decide))
  clear hd0 hd1 hd2 l1 l2
  have hcn : cs ≠ [] := by
    obtain ⟨h1, _, _⟩ := chk_ok hok
    intro h
    rw [h] at h1
    simp at h1
  obtain ⟨l, hl⟩ : ∃ l, footB e cs ++ [0] = l := ⟨_, rfl⟩
  obtain ⟨p1, hp1⟩ : ∃ p, (encN e).length = p := ⟨_, rfl⟩
  obtain ⟨k, hk⟩ : ∃ k, (schB cs).length = k := ⟨_, rfl⟩
  have hz1 : (encN 0).length = 1 := rfl
  rw [hl] at hln hlen hD f1 f2 f3
  have hfl : l.length ≤ 201 := by rw [← hl, List.length_append]; simp; omega
  rw [hp1] at hlen f1 f2 f3
  rw [hk] at hlen f2 f3
  rw [hz1] at hlen f3
  have F1 := Lib.hid f1
  have F2 := Lib.hid f2
  have F3 := Lib.hid f3
  have HCN := Lib.hid hcn
  obtain ⟨pe, hpe⟩ : ∃ pe, p1 + k + 1 = pe := ⟨_, rfl⟩
  have hn : pe + 1 = n := by omega
  have hn6 : n ≤ 201 := by omega
  have HPE := Lib.hid hpe
  have HD := Lib.hid (hD.below ((Below.refl _ w).alloc (Nat.le_refl _) (.cells foot0 48)))
  have VZ := Lib.hid (heap_alloc_new w (.cells foot0 48))
  have BZ := Lib.hid ((Below.refl _ w).alloc (Nat.le_refl _) (.cells foot0 48))
  obtain ⟨w0, hw0⟩ : ∃ w0, w.alloc (.cells foot0 48) = w0 := ⟨_, rfl⟩
  obtain ⟨z, hz⟩ : ∃ z, w.heap.size = z := ⟨_, rfl⟩
  rw [hw0] at HD VZ BZ
  rw [hz] at VZ
  have hg0 : decide ((0 : Int) < (e : Int)) = true := decide_eq_true (by omega)
  have hg0' : decide (0 < e) = true := decide_eq_true (by omega)
  clear hfl0 f1 f2 f3 hcn hD hl hp1 hk hz1 hlen hln hfl he0
  go_enter Try.func9, Try.ntmps9
  go_upto_region 1 with fail
  unfold foot0 at hw0
  rw [hw0]
  have HZ := Lib.hid hz
  clear hw0 hz
  refine Go.NR.wp_scope_once 0 (fun a' wr => ∃ b s g cv : Nat, Hid (FG w w0 wr b s z A n c l pe 0 #[.int .u64 e, .slice (some ⟨g, 0, none⟩) cs.length cv, .slice none 0 0]) ∧ Hid (FO w0 wr b s g cv cs) ∧ ∃ u1 u7 u8 u9 u10 u11 u12 u13 u14 u15 u16 u17 u18 u19 u20 u21 u22 u23 u24 u25 u26 u27 u28 u29 u30 u31 u32 u33 u34 u35 u36 u37 u38 u39 u40 u41 u42 u43 u44 u45 u46 u47 u48 u49 u50 u51 u52 u53 u54 u55 u56 : Value, a' = { tmps := #[.slice A n c, u1, .pointer (some ⟨z, 0, none⟩), .int .i64 0, .pointer (some ⟨b, 0, none⟩), .pointer (some ⟨s, 0, none⟩), .int .u64 0, u7, u8, u9, u10, u11, u12, u13, u14, u15, u16, u17, u18, u19, u20, u21, u22, u23, u24, u25, u26, u27, u28, u29, u30, u31, u32, u33, u34, u35, u36, u37, u38, u39, u40, u41, u42, u43, u44, u45, u46, u47, u48, u49, u50, u51, u52, u53, u54, u55, u56], defers := [] }) (fun _ _ => 0) rfl ?_ ?_
  · intro hL
    go_wp2_with fail
    refine (Try.rnew w0 A n c 0 0 (by omega) (by rw [if_pos]; omega)).mono ?_
    rintro x w1 ⟨b, rfl, hrb, hR1, hb1⟩
    have hR : RdIn w0 w1 b A n c l 0 0 0 := ⟨hR1, HD.out, hb1, hrb, by omega, by omega⟩
    have HR := Lib.hid hR
    clear hrb hR1 hb1 hR
    go_wp2_with fail
    refine (Try.rnum HR.out).mono ?_
    rintro x w2 ⟨rfl, h2⟩
    rw [F1.out] at h2 ⊢
    dsimp only at h2 ⊢
    have HR2 : Hid (RdIn w0 w2 b A n c l 0 p1 0) := Lib.hid (HR.out.next h2 (by omega))
    clear h2
    have HF : Hid (FG w w0 (w2.alloc (.cells #[.int .u64 e, .slice none 0 0, .slice none 0 0] 48)) b w2.heap.size z A n c l p1 0 #[.int .u64 e, .slice none 0 0, .slice none 0 0]) := Lib.hid (by
      have hr := HR2.out
      have hbl := hr.rb.lt
      have hz0 := Go.NR.heap_lt VZ.out
      have hs := hr.bel.size
      have hb3 := (Below.refl w2.heap.size w2).alloc (Nat.le_refl _) (.cells #[.int .u64 e, .slice none 0 0, .slice none 0 0] 48)
      refine ⟨⟨hr.rb.eq (hb3.block b hbl), hr.di, hr.bel.trans (hb3.mono hs), hr.box, hr.hn, hr.hp⟩, heap_alloc_new w2 _, by omega, hs, by have := HZ.out; omega, hz0, (hb3.block z (by omega)).trans ((hr.bel.block z hz0).trans VZ.out), BZ.out.trans ((hr.bel.trans (hb3.mono hs)).mono BZ.out.size)⟩)
    clear HR
    go_wp2_with fail
    refine (Try.rneed HF.out.rd.rb true 1 0 (by simp)).mono ?_
    rintro x w3 ⟨rfl, h3⟩
    obtain ⟨s, hs⟩ : ∃ s, w2.heap.size = s := ⟨_, rfl⟩
    rw [hs] at HF
    rw [hs]
    have HF3 := Lib.hid (HF.out.next h3 (by omega))
    clear h3 HF hs HR2
    go_wp2_with fail
    refine (Try.rofS HF3.out.rd F2.out (by omega)).mono ?_
    rintro x w4 ⟨v, m, rfl, ho, hm8, h4⟩
    have HF4 := Lib.hid (HF3.out.next h4 (by omega))
    obtain ⟨g, cv, rfl, rfl, hg, _⟩ := own_crs ho HCN.out
    have HO4 : Hid (FO w0 w4 b s g cv cs) := Lib.hid ⟨Go.NR.own_mono ho HF3.out.rd.bel.size, by
      have := Go.NR.heap_lt HF3.out.here
      omega, by
      have := HF3.out.rd.rb.lt
      omega⟩
    have f1 := frozen_of_row w4 s 1 _ 48 HF4.out.here
    have f2 : w4.cell? ⟨s, 1, none⟩ = some (.slice none 0 0) := cell_of_row w4 s 1 _ 48 _ HF4.out.here
    have HF5 := Lib.hid (HF4.out.set 1 (.slice (some ⟨g, 0, none⟩) cs.length cv))
    have HO5 := Lib.hid (HO4.out.set 1 (.slice (some ⟨g, 0, none⟩) cs.length cv))
    clear h4 HF3 ho HF4 HO4
    go_wp2_with fail
    refine (Try.rnum HF5.out.rd).mono ?_
    rintro x w6 ⟨rfl, h6⟩
    rw [F3.out] at h6 ⊢
    dsimp only at h6 ⊢
    have HF6 : Hid (FG w w0 w6 b s z A n c l pe 0 #[.int .u64 e, .slice (some ⟨g, 0, none⟩) cs.length cv, .slice none 0 0]) := Lib.hid (by
      have := HF5.out.next h6 (by have := HPE.out; omega)
      rw [HPE.out] at this
      exact this)
    have HO6 := Lib.hid (HO5.out.next h6)
    clear h6 HF5 HO5 f1 f2
    go_wp2_with fail
    refine (Try.rneed HF6.out.rd.rb true 4 0 (by simp)).mono ?_
    rintro x w7 ⟨rfl, h7⟩
    have HF7 := Lib.hid (HF6.out.next h7 (by omega))
    have HO7 := Lib.hid (HO6.out.next h7)
    clear h7 HF6 HO6
    go_wp2_with (refine wp_label ?_; rename_i Q0 K0 hK; refine hK _ _ (hL _ _ ?_); exact ⟨b, s, g, cv, HF7, HO7, _, _, _, _, _, _, _, _, _, _, _, _, _, _, _, _, _, _, _, _, _, _, _, _, _, _, _, _, _, _, _, _, _, _, _, _, _, _, _, _, _, _, _, _, _, _, _, _, _, _, _, rfl⟩)
  · rintro a' wr ⟨b, s, g, cv, HF, HO, u1, u7, u8, u9, u10, u11, u12, u13, u14, u15, u16, u17, u18, u19, u20, u21, u22, u23, u24, u25, u26, u27, u28, u29, u30, u31, u32, u33, u34, u35, u36, u37, u38, u39, u40, u41, u42, u43, u44, u45, u46, u47, u48, u49, u50, u51, u52, u53, u54, u55, u56, rfl⟩
    have c2 : wr.cell? ⟨s, 2, none⟩ = some (.slice none 0 0) := cell_of_row wr s 2 _ 48 _ HF.out.here
    go_wp2_with fail
    refine (Try.rerr HF.out.rd.rb).mono ?_
    rintro x w1 ⟨rfl, hw1⟩
    rw [hw1]
    clear hw1 w1
    go_wp2_with fail
    refine (Try.leftI HF.out.rd 1 (by rw [if_pos rfl]; omega)).mono ?_
    rintro x w1 ⟨rfl, h1⟩
    have HF1 := Lib.hid (HF.out.next h1 (by omega))
    have HO1 := Lib.hid (HO.out.next h1)
    clear h1 HF HO c2
    go_wp2_with fail
    refine (Try.rneed HF1.out.rd.rb false 4 4 (by simp)).mono ?_
    rintro x w2 ⟨rfl, h2⟩
    have HF2 := Lib.hid (HF1.out.next h2 (by omega))
    clear h2 HF1 HO1
    go_wp2_with fail
    refine (Try.rerr HF2.out.rd.rb).mono ?_
    rintro x w3 ⟨rfl, hw3⟩
    rw [hw3]
    clear hw3 w3
    have HZ2 := Lib.hid HF2.out.zh
    have HB2 := Lib.hid HF2.out.be
    have HZ0 := Lib.hid HF2.out.z0
    go_wp2_with (refine wpList_store_at w2 rfl 48 (.tmp 2) (.tmp 54) rfl z 48 0 foot0 foot0 foot0 rfl rfl HZ2.out (show 0 + 3 ≤ 3 by omega) rfl size48 foot0_one ?_)
    (try simp only [Exit.jump])
    refine bodyPost_ret (results_cell_tmp rfl _ _ z 48 foot0 _ rfl (setRow_heap' _ z _ _ 48 HZ2.out) size48 st48) rfl ?_
    exact ⟨rfl, Below.setRow HB2.out HZ0.out _⟩
theorem Try.footPut0 (w : World) (v v' : Value) (hv : v.oneCell' = true) (hv' : v'.oneCell' = true) : Calls Try.prog 7 #[.agg #[.int .u64 0, v, v']] w fun x w' => x = .returned (.tuple #[.slice none 0 0, .int .i64 1]) ∧ Below w.heap.size w w' := by
  go_enter Try.func7, Try.ntmps7
  go_wp2_with fail
  go_ret2
  exact ⟨rfl, (Below.refl _ w).alloc (Nat.le_refl _) _⟩
theorem Try.rows0 (w : World) (e : Nat) (A : Option Addr) (n c : Nat) : Calls Try.prog 20 #[.agg #[.int .u64 e, .slice A n c, .slice none 0 0]] w fun x w' => x = .returned (.int .i64 0) ∧ Below w.heap.size w w' := by
  have hb := Lib.hid ((Below.refl _ w).alloc (Nat.le_refl _) (.cells #[.int .u64 e, .slice A n c, .slice none 0 0] 48))
  go_enter Try.func20, Try.ntmps20
  go_wp2_with fail
  obtain ⟨w1, hw1⟩ : ∃ w1, w.alloc (.cells #[.int .u64 e, .slice A n c, .slice none 0 0] 48) = w1 := ⟨_, rfl⟩
  rw [hw1]
  rw [hw1] at hb
  clear hw1
  go_loopw [3, 9] (fun v t W => v = .int .i64 0 ∧ t = .int .i64 0 ∧ W = w1) (fun _ _ _ => 0)
  case atStart => exact ⟨rfl, rfl, rfl⟩
  case round =>
    rename World => W
    obtain ⟨rfl, rfl, hW⟩ := hrel
    subst W
    go_wp2_with fail
    go_ret
    exact ⟨rfl, hb.out⟩
theorem Try.groupCheck0 (w : World) (A : Option Addr) (n c : Nat) (hn : 0 < n) (bk : Int) : Calls Try.prog 27 #[.agg #[.int .i64 0, .slice none 0 0], .slice A n c, .int .i64 bk] w fun x w' => x = .returned (.int .i64 4) ∧ Below w.heap.size w w' := by
  have d1 : ((0 : Int) != (n : Int)) = true := by simp; omega
  have d2 : decide ((0 : Int) = (n : Int)) = false := decide_eq_false (by omega)
  have d3 : (n == 0) = false := by simp; omega
  have d4 : decide (n = 0) = false := decide_eq_false (by omega)
  have d5 : decide (0 = n) = false := decide_eq_false (by omega)
  clear d1
  go_enter Try.func27, Try.ntmps27
  go_wp2
  refine Go.NR.wp_scope_once 0 (fun _ _ => False) (fun _ _ => 0) rfl ?_ ?_
  · intro hJ
    go_wp2_with fail
    (try simp only [Exit.jump])
    go_ret
    exact ⟨rfl, (Below.refl _ w).alloc (Nat.le_refl _) _⟩
  · intro a' wr h
    exact h.elim
end Go.Proofs.Ytfblhcphbcghpaa
end

section
namespace Go.Proofs.Ytfblhcphbcghpaa
open Go.RowKit
set_option maxRecDepth 100000
theorem app_byte {w : World} {ops : Array Oper} {rest : List Oper} {o : Oper} {a : Act} {Q : Exit → Act → World → Prop} (hg : o.guard = none) (s x : Operand) (hop : o.op = Op.call { callee := Callee.builtin Builtin.append, args := #[s, x], argTypes := #[50, 50] })
    {B gA n cv gz : Nat} {l : List UInt8} (ho : OB w B (.slice (some ⟨gA, 0, none⟩) n cv) l) (hl : l.length = n) (hn : n ≤ 60000) (hs : a.eval s = .slice (some ⟨gA, 0, none⟩) n cv) (hx : a.eval x = .slice (some ⟨gz, 0, none⟩) 1 1) (hz : w.cell? ⟨gz, 0, none⟩ = some (.int .u8 0)) (hB : B ≤ w.heap.size)
    (K : ∀ A' c' w', DI w' A' (n + 1) c' (l ++ [0]) → DI w' (some ⟨gA, 0, none⟩) n cv l → w.grownBy w' (some gA) → wpList Try.prog ops Q rest (a.put o.dst (.slice A' (n + 1) c')) w') : wpList Try.prog ops Q (o :: rest) a w := by
  obtain ⟨i0, hi, hz0, hz1, hz2⟩ := info_parts Try.info5
  have hown : w.ownsRow B 5 1 (.slice (some ⟨gA, 0, none⟩) n cv) n (l.map u8v) := by
    unfold OB at ho
    rw [hl] at ho
    exact ho
  obtain ⟨_, c0, e0, hd0⟩ := ho.di
  rw [hl] at e0 hd0
  cases e0
  have hnews : ∀ j u, ([Value.int .u8 0] : List Value)[j]? = some u → w.cell? ((⟨gz, 0, none⟩ : Addr).add j) = some u := fun j u hu => by
    match j, hu with
    | 0, e => cases e; exact hz
    | j + 1, e => simp at e
  have h1c : ∀ u ∈ ([Value.int .u8 0] : List Value), u.oneCell' = true := fun u hu => by simp at hu; subst hu; rfl
  by_cases hr : n + 1 ≤ cv
  · refine wpList_append_fits w hg s x 50 hop B 5 i0 1 Try.underlying50 hi hz1 gA n cv (l.map u8v) hs hown ⟨gz, 0, none⟩ 1 1 [.int .u8 0] hx rfl hnews h1c hr fun w' h2 h3 => ?_
    have hob : OB w' B (.slice (some ⟨gA, 0, none⟩) (n + 1) cv) (l ++ [0]) := by
      unfold OB
      rw [List.length_append, hl, List.map_append]
      exact h2
    obtain ⟨_, c', e', hd'⟩ := hob.di
    rw [List.length_append, hl] at hd' e'
    cases e'
    refine K _ _ w' hd' ⟨hl, hd0.le, hd0.max, fun j u hj => ⟨_, rfl, ?_⟩⟩ h3
    have hjl := (List.getElem?_eq_some_iff.1 hj).1
    obtain ⟨X, eX, hc⟩ := hd'.at' j u (by rw [List.getElem?_append_left hjl]; exact hj)
    cases eX
    exact hc
  · refine wpList_append_grows w hg s x 50 hop 5 i0 (.int .u8 0) 1 1 Try.underlying50 hi hz0 hz1 hz2 rfl (by omega) (some ⟨gA, 0, none⟩) n cv (l.map u8v) hs (fun e => by cases e) (by rw [List.length_map, hl, Nat.mul_one]) (fun b e => by cases e; exact hd0.srcX (Below.refl _ w)) ⟨gz, 0, none⟩ 1 1 [.int .u8 0] hx rfl hnews h1c (by omega) (by unfold maxLen; omega) (by omega) fun v' w' h2 h3 => ?_
    have hob : OB w' w.heap.size v' (l ++ [0]) := by
      unfold OB
      rw [List.length_append, hl, List.map_append]
      exact h2
    obtain ⟨A', c', e', hd'⟩ := hob.di
    rw [List.length_append, hl] at hd' e'
    subst e'
    have hb : Below w.heap.size w w' := (Below.refl _ w).grown h3 (Nat.le_refl _) (fun k hk => by cases hk)
    exact K _ _ w' hd' (hd0.below hb) (grown_below hb _)
end Go.Proofs.Ytfblhcphbcghpaa
end

section
namespace Go.Proofs.Ytfblhcphbcghpaa
open Go.RowKit
set_option maxRecDepth 100000
set_option maxHeartbeats 16000000 in
theorem Try.footCheckX (w : World) (e : Nat) (he0 : e ≠ 0) {A : Option Addr} {n c : Nat} {cs : List (List UInt8 × Int)} (hC : CR w A n c cs) (hok : chk cs = 0) {gx cx : Nat} (hcx : 1 ≤ cx) (hcm : cx ≤ maxLen) (x0 : w.cell? ⟨gx, 0, none⟩ = some (.int .i64 0)) (x1 : w.cell? ⟨gx, 1, none⟩ = some (.slice none 0 0)) (bk : Int) :
    Calls Try.prog 8 #[.agg #[.int .u64 e, .slice A n c, .slice (some ⟨gx, 0, none⟩) 1 cx], .int .i64 bk] w fun x w' => x = .returned (.int .i64 4) ∧ Below w.heap.size w w' := by
  have d0 : ((e : Int) == 0) = false := by simpa using he0
  have d0' : decide (e = 0) = false := decide_eq_false he0
  have hn0 : 0 < n := by have h1 := (chk_ok hok).1; have := hC.len; omega
  have hb1 := ((Below.refl _ w).alloc (Nat.le_refl _) (.cells #[.int .u64 e, .slice A n c, .slice (some ⟨gx, 0, none⟩) 1 cx] 48))
  have hn1 := heap_alloc_new w (.cells #[.int .u64 e, .slice A n c, .slice (some ⟨gx, 0, none⟩) 1 cx] 48)
  obtain ⟨w1, hw1⟩ : ∃ w1, w.alloc (.cells #[.int .u64 e, .slice A n c, .slice (some ⟨gx, 0, none⟩) 1 cx] 48) = w1 := ⟨_, rfl⟩
  obtain ⟨sx, hsx⟩ : ∃ sx, w.heap.size = sx := ⟨_, rfl⟩
  rw [hw1] at hb1 hn1
  have HC := Lib.hid (hC.below hb1)
  have Z0 := Lib.hid (cellW x0 hb1)
  have Z1 := Lib.hid (cellW x1 hb1)
  rw [hsx] at hn1
  have WB := Lib.hid hb1
  have HX := Lib.hid hn1
  have HOK := Lib.hid hok
  have HN0 := Lib.hid hn0
  have HNM : Hid (∀ (j : Nat) (q : List UInt8 × Int), cs[j]? = some q → q.1.length ≤ 60000) := Lib.hid (fun j q h => by have := ((chk_ok hok).2.2 j q h).1; omega)
  clear hb1 hn1 hC x0 x1 he0 hok hn0
  go_enter Try.func8, Try.ntmps8
  go_wp2
  (try rw [hw1])
  (try rw [hsx])
  clear hw1 hsx
  have V0 := cell_of_row w1 sx 0 _ 48 _ HX.out
  have V1 := cell_of_row w1 sx 1 _ 48 _ HX.out
  simp at V0 V1
  refine Go.NR.wp_scope_once 0 (fun a' wr => Hid (Below w1.heap.size w1 wr) ∧ ∃ u3 u6 u7 u8 u9 u10 u11 u12 u13 u14 u15 u16 u17 u18 u19 u20 u21 u22 u23 u24 u25 u26 u27 u28 u29 u30 u31 u32 u33 u34 u35 u36 u37 u38 u39 u40 u41 u42 u43 u44 u45 u46 u47 u48 u49 u50 u51 u52 : Value, a' = { tmps := #[.agg #[.int .u64 e, .slice A n c, .slice (some ⟨gx, 0, none⟩) 1 cx], .int .i64 bk, .pointer (some ⟨sx, 0, none⟩), u3, .int .i64 0, .int .i64 0, u6, u7, u8, u9, u10, u11, u12, u13, u14, u15, u16, u17, u18, u19, u20, u21, u22, u23, u24, u25, u26, u27, u28, u29, u30, u31, u32, u33, u34, u35, u36, u37, u38, u39, u40, u41, u42, u43, u44, u45, u46, u47, u48, u49, u50, u51, u52], defers := [] }) (fun a' _ => 0) rfl ?_ ?_
  · intro hJ
    go_wp2_with fail
    refine (Try.check w1 _ n c cs HC.out HNM.out).mono ?_
    rintro x w2 ⟨rfl, hb2⟩
    rw [HOK.out]
    have K2 := Lib.hid hb2
    clear hb2 V0 V1
    have V2 := cell_of_row w2 sx 2 _ 48 _ ((K2.out.block sx (Go.NR.heap_lt HX.out)).trans HX.out)
    simp at V2
    go_wp2_with (refine wp_label ?_; rename_i Q0 K0 hK; refine hK _ _ (hJ _ _ ?_); exact ⟨K2, _, _, _, _, _, _, _, _, _, _, _, _, _, _, _, _, _, _, _, _, _, _, _, _, _, _, _, _, _, _, _, _, _, _, _, _, _, _, _, _, _, _, _, _, _, _, _, _, rfl⟩)
  · rintro a' wr ⟨HK, u3, u6, u7, u8, u9, u10, u11, u12, u13, u14, u15, u16, u17, u18, u19, u20, u21, u22, u23, u24, u25, u26, u27, u28, u29, u30, u31, u32, u33, u34, u35, u36, u37, u38, u39, u40, u41, u42, u43, u44, u45, u46, u47, u48, u49, u50, u51, u52, rfl⟩
    clear V0 V1
    have c2 := cellW (cell_of_row w1 sx 2 _ 48 _ HX.out) HK.out
    simp at c2
    go_upto_region 11 with fail
    have U1 := Lib.hid (cellW (cell_of_row w1 sx 1 _ 48 _ HX.out) HK.out)
    have U2 := Lib.hid c2
    have U3 := Lib.hid (cellW Z0.out HK.out)
    have U4 := Lib.hid (cellW Z1.out HK.out)
    clear c2
    refine wp_region_noPanic ?_
    refine wp_region_held_drew (S := (fun V => V.cell? ⟨sx, 1, none⟩ = some (.slice A n c) ∧ V.cell? ⟨sx, 2, none⟩ = some (.slice (some ⟨gx, 0, none⟩) 1 cx) ∧ V.cell? ⟨gx, 0, none⟩ = some (.int .i64 0) ∧ V.cell? ⟨gx, 1, none⟩ = some (.slice none 0 0))) (by kernel_rfl) ?_ (fun hHeld => ?_)
    · exact ⟨U1.out, U2.out, U3.out, U4.out⟩
    refine wpAnyH_take (i := 0) (oi := { dst := some 26, op := Op.fieldAddr 48 (Operand.tmp 2) 2, type := 0, pos := "foot.go:38", after := #[], guard := none }) (v := ?_) rfl (by kernel_rfl) (by kernel_rfl) (by kernel_rfl) (fun _ _ _ h => h) (Or.inl ⟨by rfl, ?_⟩) (by assumption) ?_
    rotate_left
    · (intro w hSw; (try dsimp only at hSw); go_simp; try with_reducible rfl)
    try simp only [Act.put, List.setIfInBounds_toArray, List.set_cons_zero, List.set_cons_succ]
    refine wpAnyH_take (i := 1) (oi := { dst := some 27, op := Op.load 46 (Operand.tmp 26), type := 46, pos := "foot.go:38", after := #[{ on := 0, ground := Ground.data }], guard := none }) (v := ?_) rfl (by kernel_rfl) (by kernel_rfl) (by kernel_rfl) (fun _ _ _ h => h) (Or.inl ⟨by rfl, ?_⟩) (by assumption) ?_
    rotate_left
    · (intro w hSw; (try dsimp only at hSw); go_simp; try with_reducible rfl)
    try simp only [Act.put, List.setIfInBounds_toArray, List.set_cons_zero, List.set_cons_succ]
    refine wpAnyH_take (i := 2) (oi := { dst := some 28, op := Op.move (Operand.tmp 5), type := 3, pos := "foot.go:38", after := #[], guard := none }) (v := ?_) rfl (by kernel_rfl) (by kernel_rfl) (by kernel_rfl) (fun _ _ _ h => h) (Or.inl ⟨by rfl, ?_⟩) (by assumption) ?_
    rotate_left
    · (intro w hSw; (try dsimp only at hSw); go_simp; try with_reducible rfl)
    try simp only [Act.put, List.setIfInBounds_toArray, List.set_cons_zero, List.set_cons_succ]
    refine wpAnyH_take (i := 3) (oi := { dst := some 29, op := Op.indexAddr 46 (Operand.tmp 27) (Operand.tmp 28), type := 0, pos := "foot.go:38", after := #[{ on := 1, ground := Ground.data }, { on := 2, ground := Ground.data }], guard := none }) (v := ?_) rfl (by kernel_rfl) (by kernel_rfl) (by kernel_rfl) (fun _ _ _ h => h) (Or.inl ⟨by rfl, ?_⟩) (by assumption) ?_
    rotate_left
    · (intro w hSw; (try dsimp only at hSw); go_simp; try with_reducible rfl)
    try simp only [Act.put, List.setIfInBounds_toArray, List.set_cons_zero, List.set_cons_succ]
    refine wpAnyH_take (i := 4) (oi := { dst := some 30, op := Op.load 79 (Operand.tmp 29), type := 79, pos := "foot.go:38", after := #[{ on := 3, ground := Ground.data }], guard := none }) (v := ?_) rfl (by kernel_rfl) (by kernel_rfl) (by kernel_rfl) (fun _ _ _ h => h) (Or.inl ⟨by rfl, ?_⟩) (by assumption) ?_
    rotate_left
    · (intro w hSw; (try dsimp only at hSw); go_simp; try with_reducible rfl)
    try simp only [Act.put, List.setIfInBounds_toArray, List.set_cons_zero, List.set_cons_succ]
    refine wpAnyH_take (i := 5) (oi := { dst := some 31, op := Op.fieldAddr 48 (Operand.tmp 2) 1, type := 0, pos := "foot.go:38", after := #[], guard := none }) (v := ?_) rfl (by kernel_rfl) (by kernel_rfl) (by kernel_rfl) (fun _ _ _ h => h) (Or.inl ⟨by rfl, ?_⟩) (by assumption) ?_
    rotate_left
    · (intro w hSw; (try dsimp only at hSw); go_simp; try with_reducible rfl)
    try simp only [Act.put, List.setIfInBounds_toArray, List.set_cons_zero, List.set_cons_succ]
    refine wpAnyH_take (i := 6) (oi := { dst := some 32, op := Op.load 45 (Operand.tmp 31), type := 45, pos := "foot.go:38", after := #[{ on := 5, ground := Ground.data }], guard := none }) (v := ?_) rfl (by kernel_rfl) (by kernel_rfl) (by kernel_rfl) (fun _ _ _ h => h) (Or.inl ⟨by rfl, ?_⟩) (by assumption) ?_
    rotate_left
    · (intro w hSw; (try dsimp only at hSw); go_simp; try with_reducible rfl)
    try simp only [Act.put, List.setIfInBounds_toArray, List.set_cons_zero, List.set_cons_succ]
    refine wpAnyH_take (i := 7) (oi := { dst := some 33, op := Op.move (Operand.tmp 1), type := 3, pos := "foot.go:38", after := #[], guard := none }) (v := ?_) rfl (by kernel_rfl) (by kernel_rfl) (by kernel_rfl) (fun _ _ _ h => h) (Or.inl ⟨by rfl, ?_⟩) (by assumption) ?_
    rotate_left
    · (intro w hSw; (try dsimp only at hSw); go_simp; try with_reducible rfl)
    try simp only [Act.put, List.setIfInBounds_toArray, List.set_cons_zero, List.set_cons_succ]
    refine wpAnyH_ready (rs := [8]) (by kernel_rfl) (by simp) ?_
    refine AllReadyH.cons (o := { dst := some 34, op := Op.call { callee := Callee.value (Operand.func 27), args := #[Operand.tmp 30, Operand.tmp 32, Operand.tmp 33], argTypes := #[79, 45, 3] }, type := 51, pos := "foot.go:38", after := #[{ on := 4, ground := Ground.data }, { on := 6, ground := Ground.data }, { on := 7, ground := Ground.data }], guard := none }) rfl (fun K hK => ?_) AllReadyH.nil
    go_simp
    refine (Try.groupCheck0 wr.drew A n c HN0.out bk).mono ?_
    rintro x w5 ⟨rfl, hb5⟩
    have KW : Hid (Below wr.heap.size wr w5) := Lib.hid ((Below.refl _ wr).drew.trans hb5)
    have K5 : Hid (Below w1.heap.size w1 w5) := Lib.hid (HK.out.trans (KW.out.mono HK.out.size))
    clear hb5
    refine hK.out _ _ ?_ (fun hHeld => ?_)
    · exact ⟨cellW U1.out KW.out, cellW U2.out KW.out, cellW U3.out KW.out, cellW U4.out KW.out⟩
    clear hK K
    try simp only [Act.put, List.setIfInBounds_toArray, List.set_cons_zero, List.set_cons_succ]
    refine wpAnyH_take (i := 9) (oi := { dst := some 7, op := Op.assign (Operand.tmp 34), type := 51, pos := "foot.go:38", after := #[{ on := 8, ground := Ground.data }, { on := 8, ground := Ground.chain }, { on := 0, ground := Ground.phase }, { on := 1, ground := Ground.phase }, { on := 2, ground := Ground.phase }, { on := 3, ground := Ground.phase }, { on := 4, ground := Ground.phase }, { on := 5, ground := Ground.phase }, { on := 6, ground := Ground.phase }, { on := 7, ground := Ground.phase }, { on := 8, ground := Ground.phase }], guard := none }) (v := ?_) rfl (by kernel_rfl) (by kernel_rfl) (by kernel_rfl) (fun _ _ _ h => h) (Or.inl ⟨by rfl, ?_⟩) (by assumption) ?_
    rotate_left
    · (intro w hSw; (try dsimp only at hSw); go_simp; try with_reducible rfl)
    try simp only [Act.put, List.setIfInBounds_toArray, List.set_cons_zero, List.set_cons_succ]
    refine wpAnyH_done (by kernel_rfl) ?_ _
    refine NoPanic.normal ?_
    clear hHeld
    go_wp2_with fail
    (try simp only [Exit.jump])
    go_ret
    exact ⟨rfl, WB.out.trans (K5.out.mono WB.out.size)⟩
def b300 : List UInt8 := [172, 2, 3, 1, 110, 1, 1, 115, 2, 1, 112, 3, 0]
theorem foot300 : footB 300 three = b300 := by decide +kernel
set_option maxHeartbeats 16000000 in
theorem Try.known16 (w : World) : Calls Try.prog 5 #[] w fun x w' => x = .returned (.bool true) ∧ Below w.heap.size w w' := by
  go_enter Try.func5, Try.ntmps5
  go_wp2_with fail
  refine (Try.threeC w).mono ?_
  rintro x w1 ⟨g, c, rfl, hcr, hb1⟩
  go_upto_region 2 with fail
  have hba := (Below.refl w1.heap.size w1).alloc (Nat.le_refl _) (.cells #[.int .u64 300, .slice (some ⟨g, 0, none⟩) 3 c, .slice none 0 0] 48)
  have hna := heap_alloc_new w1 (.cells #[.int .u64 300, .slice (some ⟨g, 0, none⟩) 3 c, .slice none 0 0] 48)
  obtain ⟨w2, hw2⟩ : ∃ w2, w1.alloc (.cells #[.int .u64 300, .slice (some ⟨g, 0, none⟩) 3 c, .slice none 0 0] 48) = w2 := ⟨_, rfl⟩
  obtain ⟨s1, hs1⟩ : ∃ s1, w1.heap.size = s1 := ⟨_, rfl⟩
  rw [hw2] at hba hna
  have HCR := Lib.hid (hcr.below hba)
  have WB := Lib.hid (hb1.trans (hba.mono hb1.size))
  rw [hs1] at hna
  rw [hw2]
  (try rw [hs1])
  have HX := Lib.hid hna
  clear hba hna hw2 hs1 hcr hb1
  have V0 := cell_of_row w2 s1 0 _ 48 _ HX.out
  have V1 := cell_of_row w2 s1 1 _ 48 _ HX.out
  have V2 := cell_of_row w2 s1 2 _ 48 _ HX.out
  simp at V0 V1 V2
  go_wp2_with fail
  refine (Try.footPut w2 300 (by omega) (by omega) HCR.out three_chk).mono ?_
  rintro x w3 ⟨v, rfl, hob, hb3⟩
  obtain ⟨A, cv, rfl, hdi⟩ := hob.di
  rw [foot300] at hdi hob
  rw [foot300]
  have h13 : b300.length = 13 := rfl
  rw [h13] at hdi hob
  rw [h13]
  obtain ⟨gA, oA, rfl⟩ := hdi.place (by omega)
  have hoz : oA = 0 := by
    obtain ⟨g', c', e', _⟩ := Go.NR.own_at hob (by rw [h13]; omega)
    cases e'
    rfl
  subst hoz
  have HOB := Lib.hid hob
  have HDI := Lib.hid hdi
  have K3 := Lib.hid hb3
  have HGA : Hid (w2.heap.size ≤ gA ∧ gA < w3.heap.size) := Lib.hid (hob.lt gA rfl)
  clear hob hb3 hdi V0 V1 V2 h13
  go_wp2_with fail
  refine (Try.footGet w3 (e := 300) (cs := three) (by omega) (by omega) three_chk (by rw [foot300]; exact HDI.out)).mono ?_
  rintro x w4 ⟨g4, c4, rfl, hcr4, hb4, hg4⟩
  have h3 : three.length = 3 := rfl
  rw [h3] at hcr4
  rw [h3]
  clear h3
  go_upto_region 4 with fail
  have hba := (Below.refl w4.heap.size w4).alloc (Nat.le_refl _) (.cells #[.int .u64 300, .slice (some ⟨g4, 0, none⟩) 3 c4, .slice none 0 0] 48)
  have hna := heap_alloc_new w4 (.cells #[.int .u64 300, .slice (some ⟨g4, 0, none⟩) 3 c4, .slice none 0 0] 48)
  have hnz := hba.trans ((((Below.refl _ (w4.alloc (.cells #[.int .u64 300, .slice (some ⟨g4, 0, none⟩) 3 c4, .slice none 0 0] 48))).alloc (Nat.le_refl _) (.cells #[.int .u8 0] 5))).mono hba.size)
  obtain ⟨w5, hw5⟩ : ∃ w5, w4.alloc (.cells #[.int .u64 300, .slice (some ⟨g4, 0, none⟩) 3 c4, .slice none 0 0] 48) = w5 := ⟨_, rfl⟩
  obtain ⟨s4, hs4⟩ : ∃ s4, w4.heap.size = s4 := ⟨_, rfl⟩
  have hs4l : s4 < w5.heap.size := by rw [← hw5, ← hs4]; simp
  rw [hw5] at hba hna hnz
  rw [hs4] at hna
  rw [hw5]
  (try rw [hs4])
  have K5 := Lib.hid (hb4.trans (hba.mono hb4.size))
  have HCR4 := Lib.hid (hcr4.below hba)
  have HX4 := Lib.hid hna
  have HS4 : Hid (w3.heap.size ≤ s4 ∧ w3.heap.size ≤ g4 ∧ g4 < w4.heap.size) := Lib.hid ⟨by rw [← hs4]; exact hb4.size, hg4, by obtain ⟨b, e, h, _⟩ := hcr4.at' 0 ([110], 1) rfl; cases e; exact block_lt_of_cell h⟩
  have K6 := Lib.hid ((Below.refl _ w5).alloc (Nat.le_refl _) (.cells #[.int .u8 0] 5))
  have HZ6 := Lib.hid (Go.NR.at_alloc w5 #[.int .u8 0] 5 0 _ rfl)
  have HO6 : Hid (OB (w5.alloc (.cells #[.int .u8 0] 5)) w2.heap.size (.slice (some ⟨gA, 0, none⟩) 13 cv) b300) := Lib.hid (Go.NR.own_below (Go.NR.own_below HOB.out K5.out) K6.out)
  clear hba hna hw5 hs4 hcr4 hb4 hg4 hnz hs4l
  go_wp2_with (refine app_byte rfl (.tmp 24) (.tmp 25) rfl HO6.out rfl (by omega) rfl rfl HZ6.out (by have h1 := K3.out.size; have h2 := K5.out.size; have h3 := K6.out.size; omega) ?_)
  intro A7 c7 w7 hd7 hd7' hg7
  have HD7 := Lib.hid hd7
  have HDV := Lib.hid hd7'
  have HST : Hid (∀ k, k < w5.heap.size → k ≠ gA → w7.heap[k]? = w5.heap[k]?) := Lib.hid (fun k hk hne => (hg7.block k (by have := K6.out.size; omega) (fun e => hne (by cases e; rfl))).trans (K6.out.block k hk))
  have K7 : Hid (Below w2.heap.size w2 w7) := Lib.hid ((K3.out.trans (((K5.out.trans (K6.out.mono K5.out.size))).mono K3.out.size)).grown hg7 (by have h1 := K3.out.size; have h2 := K5.out.size; have h3 := K6.out.size; omega) (fun k hk => by cases hk; exact HGA.out.1))
  have HX7 : Hid (w7.heap[s4]? = some (.cells #[.int .u64 300, .slice (some ⟨g4, 0, none⟩) 3 c4, .slice none 0 0] 48 (0, 0))) := Lib.hid ((HST.out s4 (Go.NR.heap_lt HX4.out) (by have := HS4.out; have := HGA.out; omega)).trans HX4.out)
  have HCR7 : Hid (CR w7 (some ⟨g4, 0, none⟩) 3 c4 three) := Lib.hid (HCR4.out.eq (HST.out g4 (by obtain ⟨b, e, h, _⟩ := HCR4.out.at' 0 ([110], 1) rfl; cases e; exact block_lt_of_cell h) (by have := HS4.out; have := HGA.out; omega)))
  clear hd7 hd7' hg7 HO6 HZ6 K6 HOB HDI HCR4 HX4
  go_wp2_with fail
  refine (Try.footGetMore w7 (e := 300) (cs := three) (by omega) (by omega) three_chk (by rw [foot300]; exact HD7.out)).mono ?_
  rintro x w8 ⟨rfl, hb8⟩
  unfold foot0
  have K8 := Lib.hid (K7.out.trans (hb8.mono K7.out.size))
  have HX8 := Lib.hid ((hb8.block s4 (Go.NR.heap_lt HX7.out)).trans HX7.out)
  have HCR8 := Lib.hid (HCR7.out.below hb8)
  have HDV8 := Lib.hid (HDV.out.below hb8)
  clear hb8 HX7 HCR7 HDV HD7 HST K5 K3
  go_upto_region 5 with fail
  have hba := (Below.refl w8.heap.size w8).alloc (Nat.le_refl _) (.cells #[.int .u64 0, .slice none 0 0, .slice none 0 0] 48)
  obtain ⟨w9, hw9⟩ : ∃ w9, w8.alloc (.cells #[.int .u64 0, .slice none 0 0, .slice none 0 0] 48) = w9 := ⟨_, rfl⟩
  rw [hw9] at hba
  rw [hw9]
  have K9 := Lib.hid (K8.out.trans (hba.mono K8.out.size))
  have HX9 := Lib.hid ((hba.block s4 (Go.NR.heap_lt HX8.out)).trans HX8.out)
  have HCR9 := Lib.hid (HCR8.out.below hba)
  have HDV9 := Lib.hid (HDV8.out.below hba)
  clear hba hw9 HX8 HCR8 HDV8 K8
  have V1 := cellW (cell_of_row w2 s1 1 _ 48 _ HX.out) K9.out
  simp at V1
  go_wp2_with fail
  refine (Try.footPut0 w9 _ _ rfl rfl).mono ?_
  rintro x wa ⟨rfl, hba⟩
  have KA := Lib.hid (K9.out.trans (hba.mono K9.out.size))
  have HX4A := Lib.hid ((hba.block s4 (Go.NR.heap_lt HX9.out)).trans HX9.out)
  have HC4A := Lib.hid (HCR9.out.below hba)
  have HDVA := Lib.hid (HDV9.out.below hba)
  clear hba HX9 HCR9 HDV9 K9 V1
  have V0 := cellW (cell_of_row w2 s1 0 _ 48 _ HX.out) KA.out
  have V1 := cellW (cell_of_row w2 s1 1 _ 48 _ HX.out) KA.out
  have V2 := cellW (cell_of_row w2 s1 2 _ 48 _ HX.out) KA.out
  simp at V0 V1 V2
  go_upto_region 7 with fail
  clear V0 V1 V2
  have hbb := (Below.refl wa.heap.size wa).alloc (Nat.le_refl _) (.cells #[.int .u64 300, .slice (some ⟨g, 0, none⟩) 3 c, .slice none 0 0] 48)
  have hnb := heap_alloc_new wa (.cells #[.int .u64 300, .slice (some ⟨g, 0, none⟩) 3 c, .slice none 0 0] 48)
  obtain ⟨wb, hwb⟩ : ∃ wb, wa.alloc (.cells #[.int .u64 300, .slice (some ⟨g, 0, none⟩) 3 c, .slice none 0 0] 48) = wb := ⟨_, rfl⟩
  obtain ⟨sb, hsb⟩ : ∃ sb, wa.heap.size = sb := ⟨_, rfl⟩
  rw [hwb] at hbb hnb
  have KB := Lib.hid (KA.out.trans (hbb.mono KA.out.size))
  have HX4B := Lib.hid ((hbb.block s4 (Go.NR.heap_lt HX4A.out)).trans HX4A.out)
  have HC4B := Lib.hid (HC4A.out.below hbb)
  have HDVB := Lib.hid (HDVA.out.below hbb)
  have HSB : Hid (w2.heap.size ≤ sb ∧ gA < sb ∧ s4 < sb ∧ g4 < sb) := Lib.hid (by
    have h1 := KA.out.size
    have h2 := block_lt_of_cell (HDVA.out.at' 0 172 rfl).choose_spec.2
    have h3 := Go.NR.heap_lt HX4A.out
    obtain ⟨b, e, h, _⟩ := HC4A.out.at' 0 ([110], 1) rfl
    have h4 := block_lt_of_cell h
    cases e
    have h5 := (HDVA.out.at' 0 172 rfl).choose_spec.1
    rw [← Option.some.inj h5] at h2
    refine ⟨by omega, ?_, by omega, by rw [← hsb]; exact h4⟩
    rw [← hsb]
    exact h2)
  rw [hsb] at hnb
  rw [hwb]
  (try rw [hsb])
  have HNB := Lib.hid hnb
  clear hbb hnb hwb hsb HX4A HC4A HDVA
  have hbc := (Below.refl wb.heap.size wb).alloc (Nat.le_refl _) (.cells #[.int .i64 0, .slice none 0 0] 79)
  have KC := Lib.hid hbc
  have HNC := Lib.hid (heap_alloc_new wb (.cells #[.int .i64 0, .slice none 0 0] 79))
  have HNBC := Lib.hid ((hbc.block sb (Go.NR.heap_lt HNB.out)).trans HNB.out)
  have f2 := frozen_of_row _ sb 2 _ 48 HNBC.out
  have V2 := cell_of_row _ sb 2 _ 48 _ HNBC.out
  simp at V2
  clear hbc
  go_upto_region 8 with fail
  clear f2 V2
  have hxc := heap_setCell_same (wb.alloc (.cells #[.int .i64 0, .slice none 0 0] 79)) sb 2 _ 48 (.slice (some ⟨wb.heap.size, 0, none⟩) 1 1) HNBC.out
  have hgx : ∀ k, k ≠ sb → ((wb.alloc (.cells #[.int .i64 0, .slice none 0 0] 79)).setCell ⟨sb, 2, none⟩ (.slice (some ⟨wb.heap.size, 0, none⟩) 1 1)).heap[k]? = (wb.alloc (.cells #[.int .i64 0, .slice none 0 0] 79)).heap[k]? := fun k hk => Below.heap_setCell _ _ _ _ hk
  have hgr := grown_set (wb.alloc (.cells #[.int .i64 0, .slice none 0 0] 79)) sb 2 (.slice (some ⟨wb.heap.size, 0, none⟩) 1 1)
  obtain ⟨wc, hwc⟩ : ∃ wc, (wb.alloc (.cells #[.int .i64 0, .slice none 0 0] 79)).setCell ⟨sb, 2, none⟩ (.slice (some ⟨wb.heap.size, 0, none⟩) 1 1) = wc := ⟨_, rfl⟩
  obtain ⟨gx, hgxx⟩ : ∃ gx, wb.heap.size = gx := ⟨_, rfl⟩
  have hsbl := Go.NR.heap_lt HNB.out
  rw [hwc, hgxx] at hxc
  rw [hwc] at hgx hgr
  rw [hwc]
  (try rw [hgxx])
  have HXC : Hid (wc.heap[sb]? = some (.cells #[.int .u64 300, .slice (some ⟨g, 0, none⟩) 3 c, .slice (some ⟨gx, 0, none⟩) 1 1] 48 (0, 0))) := Lib.hid hxc
  have KD : Hid (Below w2.heap.size w2 wc) := Lib.hid ((KB.out.trans (KC.out.mono KB.out.size)).grown hgr (by have h1 := KB.out.size; have h2 := KC.out.size; omega) (fun k hk => by cases hk; exact HSB.out.1))
  have HGX : Hid (wc.heap[gx]? = some (.cells #[.int .i64 0, .slice none 0 0] 79 (0, 0))) := Lib.hid ((hgx gx (by omega)).trans (by rw [← hgxx]; exact HNC.out))
  have hlow : ∀ k, k < sb → wc.heap[k]? = wb.heap[k]? := fun k hk => (hgx k (by omega)).trans (KC.out.block k (by omega))
  have HX4C : Hid (wc.heap[s4]? = some (.cells #[.int .u64 300, .slice (some ⟨g4, 0, none⟩) 3 c4, .slice none 0 0] 48 (0, 0))) := Lib.hid ((hlow s4 HSB.out.2.2.1).trans HX4B.out)
  have HC4C : Hid (CR wc (some ⟨g4, 0, none⟩) 3 c4 three) := Lib.hid (HC4B.out.eq (hlow g4 HSB.out.2.2.2))
  have HCRC : Hid (CR wc (some ⟨g, 0, none⟩) 3 c three) := Lib.hid (HCR.out.below KD.out)
  have HDVC : Hid (DI wc (some ⟨gA, 0, none⟩) 13 cv b300) := Lib.hid ⟨HDVB.out.len, HDVB.out.le, HDVB.out.max, fun j x hj => by
    obtain ⟨X, e, h⟩ := HDVB.out.at' j x hj
    refine ⟨X, e, ?_⟩
    cases e
    rw [add_none] at h ⊢
    exact (World.cell?_of_block (hlow gA HSB.out.2.1)).trans h⟩
  have hstr : (convert 50 9 (.slice (some ⟨gA, 0, none⟩) 13 cv)).run Try.prog wc = .ok (.string ⟨#[172, 2, 3, 1, 110, 1, 1, 115, 2, 1, 112, 3, 0]⟩) wc := HDVC.out.str ⟨gA, 0, none⟩ rfl 0 13 cv (by omega)
  clear hxc hgx hgr hwc hgxx hsbl hlow KC HNC HNBC HNB HX4B HC4B HDVB KB
  have V0 := cellW (cell_of_row w2 s1 0 _ 48 _ HX.out) KD.out
  have V1 := cellW (cell_of_row w2 s1 1 _ 48 _ HX.out) KD.out
  have V2 := cellW (cell_of_row w2 s1 2 _ 48 _ HX.out) KD.out
  have W0 := cell_of_row wc s4 0 _ 48 _ HX4C.out
  have W1 := cell_of_row wc s4 1 _ 48 _ HX4C.out
  have W2 := cell_of_row wc s4 2 _ 48 _ HX4C.out
  simp at V0 V1 V2 W0 W1 W2
  go_wp2_with fail
  refine (Try.footSame wc 300 HC4C.out HCRC.out (by omega) (GRow.nil wc 0) (GRow.nil wc 0) (by omega)).mono ?_
  rintro x wd ⟨rfl, hbd⟩
  have KE := Lib.hid (KD.out.trans (hbd.mono KD.out.size))
  have HXD := Lib.hid ((hbd.block sb (Go.NR.heap_lt HXC.out)).trans HXC.out)
  have HGD := Lib.hid ((hbd.block gx (Go.NR.heap_lt HGX.out)).trans HGX.out)
  clear hbd V0 V1 V2 W0 W1 W2 hstr HXC HGX KD HX4C HC4C HDVC HCRC
  have V0 := cellW (cell_of_row w2 s1 0 _ 48 _ HX.out) KE.out
  have V1 := cellW (cell_of_row w2 s1 1 _ 48 _ HX.out) KE.out
  have V2 := cellW (cell_of_row w2 s1 2 _ 48 _ HX.out) KE.out
  simp at V0 V1 V2
  go_wp2_with fail
  refine (Try.footCheck wd 300 (by omega) (HCR.out.below KE.out) three_chk 20).mono ?_
  rintro x we ⟨rfl, hbe⟩
  have KF := Lib.hid (KE.out.trans (hbe.mono KE.out.size))
  have HXE := Lib.hid ((hbe.block sb (Go.NR.heap_lt HXD.out)).trans HXD.out)
  have HGE := Lib.hid ((hbe.block gx (Go.NR.heap_lt HGD.out)).trans HGD.out)
  clear hbe V0 V1 V2 HXD HGD KE
  have B0 := cell_of_row we sb 0 _ 48 _ HXE.out
  have B1 := cell_of_row we sb 1 _ 48 _ HXE.out
  have B2 := cell_of_row we sb 2 _ 48 _ HXE.out
  simp at B0 B1 B2
  go_wp2_with fail
  refine (Try.footCheckX we 300 (by omega) (HCR.out.below KF.out) three_chk (Nat.le_refl 1) (by unfold maxLen; omega) (cell_of_row we gx 0 _ 79 _ HGE.out) (cell_of_row we gx 1 _ 79 _ HGE.out) 20).mono ?_
  rintro x wf ⟨rfl, hbf⟩
  have KG := Lib.hid (KF.out.trans (hbf.mono KF.out.size))
  have HXF := Lib.hid ((hbf.block sb (Go.NR.heap_lt HXE.out)).trans HXE.out)
  clear hbf B0 B1 B2 HXE HGE KF
  have V0 := cellW (cell_of_row w2 s1 0 _ 48 _ HX.out) KG.out
  have V1 := cellW (cell_of_row w2 s1 1 _ 48 _ HX.out) KG.out
  have V2 := cellW (cell_of_row w2 s1 2 _ 48 _ HX.out) KG.out
  simp at V0 V1 V2
  go_wp2_with fail
  refine (Try.rows0 wf 300 (some ⟨g, 0, none⟩) 3 c).mono ?_
  rintro x wg ⟨rfl, hbg⟩
  have KH := Lib.hid (KG.out.trans (hbg.mono KG.out.size))
  have HXG := Lib.hid ((hbg.block sb (Go.NR.heap_lt HXF.out)).trans HXF.out)
  clear hbg V0 V1 V2 HXF KG
  have V0 := cellW (cell_of_row w2 s1 0 _ 48 _ HX.out) KH.out
  have V1 := cellW (cell_of_row w2 s1 1 _ 48 _ HX.out) KH.out
  have V2 := cellW (cell_of_row w2 s1 2 _ 48 _ HX.out) KH.out
  simp at V0 V1 V2
  go_wp2_with fail
  refine (Try.used0 wg 300 (.slice (some ⟨g, 0, none⟩) 3 c) rfl).mono ?_
  rintro x wh ⟨rfl, hbh⟩
  have KI := Lib.hid (KH.out.trans (hbh.mono KH.out.size))
  have HXH := Lib.hid ((hbh.block sb (Go.NR.heap_lt HXG.out)).trans HXG.out)
  clear hbh V0 V1 V2 HXG KH
  have V0 := cellW (cell_of_row w2 s1 0 _ 48 _ HX.out) KI.out
  have V1 := cellW (cell_of_row w2 s1 1 _ 48 _ HX.out) KI.out
  have V2 := cellW (cell_of_row w2 s1 2 _ 48 _ HX.out) KI.out
  have B0 := cell_of_row wh sb 0 _ 48 _ HXH.out
  have B1 := cell_of_row wh sb 1 _ 48 _ HXH.out
  have B2 := cell_of_row wh sb 2 _ 48 _ HXH.out
  simp at V0 V1 V2 B0 B1 B2
  go_wp2_with fail
  refine (Try.footLess wh 300 (HCR.out.below KI.out) (HCR.out.below KI.out) (by omega)).mono ?_
  rintro x wi ⟨rfl, hbi⟩
  have KJ := Lib.hid (WB.out.trans ((KI.out.trans (hbi.mono KI.out.size)).mono WB.out.size))
  clear hbi V0 V1 V2 B0 B1 B2
  go_wp2_with fail
  go_ret
  exact ⟨rfl, KJ.out⟩
end Go.Proofs.Ytfblhcphbcghpaa
end

section
namespace Go.Proofs.Ytfblhcphbcghpaa
open Go.RowKit
set_option maxRecDepth 100000
def gq (i : Nat) : GQ := ⟨2 + 3 * i, 3, 1 + i % 3, i, i + 3⟩
def gd (k : Nat) (tw : Bool) (i : Nat) : GQ := if tw = true ∧ i + 1 = k then ⟨2 + 3 * i - 1, 3, 1 + i % 3, i, i + 3⟩ else gq i
def gsL (k : Nat) : List GQ := (List.range k).map gq
def gsD (k : Nat) (tw : Bool) : List GQ := (List.range k).map (gd k tw)
theorem gsL_len (k : Nat) : (gsL k).length = k := by simp [gsL]
theorem gsD_len (k : Nat) (tw : Bool) : (gsD k tw).length = k := by simp [gsD]
theorem gsL_get {k i : Nat} (h : i < k) : (gsL k)[i]? = some (gq i) := by simp [gsL, List.getElem?_range, h]
theorem gsD_get {k i : Nat} {tw : Bool} (h : i < k) : (gsD k tw)[i]? = some (gd k tw i) := by simp [gsD, List.getElem?_range, h]
theorem gsD_inv {k j : Nat} {tw : Bool} {q : GQ} (h : (gsD k tw)[j]? = some q) : j < k ∧ q = gd k tw j := by
  have hl := (List.getElem?_eq_some_iff.1 h).1
  rw [gsD_len] at hl
  rw [gsD_get hl] at h
  exact ⟨hl, (Option.some.inj h).symm⟩
theorem gsD_no (k : Nat) : gsD k false = gsL k := by simp [gsD, gsL, gd]
theorem gd_a (k : Nat) (tw : Bool) (i : Nat) : (gd k tw i).a = if tw = true ∧ i + 1 = k then 2 + 3 * i - 1 else 2 + 3 * i := by unfold gd gq; split <;> rfl
theorem gd_n (k : Nat) (tw : Bool) (i : Nat) : (gd k tw i).n = 3 := by unfold gd gq; split <;> rfl
theorem gd_r (k : Nat) (tw : Bool) (i : Nat) : (gd k tw i).r = 1 + i % 3 := by unfold gd gq; split <;> rfl
theorem gd_lo (k : Nat) (tw : Bool) (i : Nat) : (gd k tw i).lo = i := by unfold gd gq; split <;> rfl
theorem gd_hi (k : Nat) (tw : Bool) (i : Nat) : (gd k tw i).hi = i + 3 := by unfold gd gq; split <;> rfl
theorem gd_ok {k i : Nat} (tw : Bool) (hk : k ≤ 70) (hi : i < k) : (gd k tw i).ok := by
  have ha := gd_a k tw i
  refine ⟨?_, by rw [gd_n]; omega, by rw [gd_r]; omega, by rw [gd_r]; omega, by rw [gd_lo, gd_hi]; omega, by rw [gd_hi]; omega⟩
  rw [ha]
  split <;> omega
theorem gd_near {k i K : Nat} (tw : Bool) (h1 : tw = true → 1 < k) (hk : k ≤ 70) (hi : i < k) (hK : 1 + 3 * k ≤ K) (hK2 : K ≤ 1024) : (gd k tw i).near K := by
  have ha := gd_a k tw i
  refine ⟨gd_ok tw hk hi, by rw [gd_n]; omega, ?_, ?_, hK2⟩
  · rw [ha]
    split
    · rename_i h
      have := h1 h.1
      omega
    · omega
  · rw [ha]
    split <;> omega
theorem gd_hits_no {k i j : Nat} {tw : Bool} (hij : i < j) (hj : j < k) (hn : ¬ (tw = true ∧ j + 1 = k)) : ¬ hits (gd k tw i) (gd k tw j) := by
  have a1 := gd_a k tw i
  have a2 := gd_a k tw j
  rw [if_neg hn] at a2
  rw [if_neg (fun h => by omega)] at a1
  unfold hits ovl
  rw [a1, a2, gd_n, gd_n]
  omega
theorem gd_hits_last {k : Nat} (hk : 1 < k) : hits (gd k true (k - 2)) (gd k true (k - 1)) := by
  have a1 := gd_a k true (k - 2)
  have a2 := gd_a k true (k - 1)
  rw [if_neg (fun h => by omega)] at a1
  rw [if_pos ⟨rfl, by omega⟩] at a2
  unfold hits ovl
  rw [a1, a2, gd_n, gd_n]
  omega
theorem gd_exR {k i K : Nat} {tw : Bool} (hi : i < k) (hK : 2 + 3 * k ≤ K) : exR (gd k tw i) K = 0 := by
  unfold exR
  have ha := gd_a k tw i
  rw [if_pos]
  rw [ha, gd_n]
  split <;> omega
theorem gd_exR_last {k : Nat} (hk : 0 < k) : exR (gd k false (k - 1)) (1 + 3 * k) = 1 := by
  unfold exR
  have ha := gd_a k false (k - 1)
  rw [if_neg (by simp)] at ha
  rw [if_neg]
  rw [ha, gd_n]
  omega
theorem gd_exR_low {k i : Nat} (hi : i + 1 < k) : exR (gd k false i) (1 + 3 * k) = 0 := by
  unfold exR
  have ha := gd_a k false i
  rw [if_neg (by simp)] at ha
  rw [if_pos]
  rw [ha, gd_n]
  omega
theorem gsD_take {k j i : Nat} {tw : Bool} {p : GQ} (h : ((gsD k tw).take j)[i]? = some p) : i < j ∧ i < k ∧ p = gd k tw i := by
  rw [List.getElem?_take] at h
  split at h
  · rename_i hj
    obtain ⟨h1, h2⟩ := gsD_inv h
    exact ⟨hj, h1, h2⟩
  · cases h
theorem check_ok {w : World} {e : Nat} {g0 cg : Nat} (hC : CR w (some ⟨g0, 0, none⟩) 1 cg colA) {A : Option Addr} {k c : Nat} (hG : GRow w 0 A k c (gsD k false)) (hk : k ≤ 64) (K : Nat) (hK : 2 + 3 * k ≤ K) (hK2 : K ≤ 1024) (he0 : e ≠ 0) :
    Calls Try.prog 8 #[.agg #[.int .u64 e, .slice (some ⟨g0, 0, none⟩) 1 cg, .slice A k c], .int .i64 K] w fun x w' => x = .returned (.int .i64 0) ∧ Below w.heap.size w w' :=
  Try.footCheckG w e he0 hC hG hk K (fun j q h => by obtain ⟨h1, rfl⟩ := gsD_inv h; exact gd_near false (fun h => by cases h) (by omega) h1 (by omega) hK2) k 0 (Nat.le_refl _)
    (fun j q hj h => by
      obtain ⟨h1, rfl⟩ := gsD_inv h
      exact ⟨gd_exR h1 hK, fun ⟨i, p, hp, hh⟩ => by
        obtain ⟨h2, _, rfl⟩ := gsD_take hp
        exact gd_hits_no h2 h1 (by simp) hh⟩) (.inl ⟨rfl, rfl⟩)
theorem check_less {w : World} {e : Nat} {g0 cg : Nat} (hC : CR w (some ⟨g0, 0, none⟩) 1 cg colA) {A : Option Addr} {k c : Nat} (hG : GRow w 0 A k c (gsD k false)) (hk : k ≤ 64) (hk0 : 0 < k) (he0 : e ≠ 0) :
    Calls Try.prog 8 #[.agg #[.int .u64 e, .slice (some ⟨g0, 0, none⟩) 1 cg, .slice A k c], .int .i64 ((1 + 3 * k : Nat) : Int)] w fun x w' => x = .returned (.int .i64 1) ∧ Below w.heap.size w w' :=
  Try.footCheckG w e he0 hC hG hk (1 + 3 * k) (fun j q h => by obtain ⟨h1, rfl⟩ := gsD_inv h; exact gd_near false (fun h => by cases h) (by omega) h1 (by omega) (by omega)) (k - 1) 1 (by omega)
    (fun j q hj h => by
      obtain ⟨h1, rfl⟩ := gsD_inv h
      exact ⟨gd_exR_low (by omega), fun ⟨i, p, hp, hh⟩ => by
        obtain ⟨h2, _, rfl⟩ := gsD_take hp
        exact gd_hits_no h2 h1 (by simp) hh⟩) (.inr ⟨_, gsD_get (by omega), .inl ⟨gd_exR_last hk0, rfl⟩⟩)
theorem check_twice {w : World} {e : Nat} {g0 cg : Nat} (hC : CR w (some ⟨g0, 0, none⟩) 1 cg colA) {A : Option Addr} {k c : Nat} (hG : GRow w 0 A k c (gsD k true)) (hk : k ≤ 64) (hk1 : 1 < k) (he0 : e ≠ 0) :
    Calls Try.prog 8 #[.agg #[.int .u64 e, .slice (some ⟨g0, 0, none⟩) 1 cg, .slice A k c], .int .i64 ((400 : Nat) : Int)] w fun x w' => x = .returned (.int .i64 7) ∧ Below w.heap.size w w' :=
  Try.footCheckG w e he0 hC hG hk 400 (fun j q h => by obtain ⟨h1, rfl⟩ := gsD_inv h; exact gd_near true (fun _ => hk1) (by omega) h1 (by omega) (by omega)) (k - 1) 7 (by omega)
    (fun j q hj h => by
      obtain ⟨h1, rfl⟩ := gsD_inv h
      exact ⟨gd_exR h1 (by omega), fun ⟨i, p, hp, hh⟩ => by
        obtain ⟨h2, _, rfl⟩ := gsD_take hp
        exact gd_hits_no h2 h1 (by omega) hh⟩) (.inr ⟨_, gsD_get (by omega), .inr ⟨gd_exR (by omega) (by omega), rfl, k - 2, _, by rw [List.getElem?_take, if_pos (by omega)]; exact gsD_get (by omega), gd_hits_last hk1⟩⟩)
theorem Try.usedG (w : World) (e : Nat) (v : Value) (hv : v.oneCell' = true) {A : Option Addr} {n c : Nat} {gs : List GQ} (hG : GRow w 0 A n c gs) (hn : n ≤ 1000) : Calls Try.prog 11 #[.agg #[.int .u64 e, v, .slice A n c]] w fun x w' => ∃ B c', x = .returned (.slice B n c') ∧ EAt w' B n c' gs ∧ Below w.heap.size w w' := by
  have hb := (Below.refl _ w).alloc (Nat.le_refl _) (.cells #[.int .u64 e, v, .slice A n c] 48)
  have hL := hG.len
  have HH := (hG.below hb).head n (Nat.le_refl _)
  rw [List.take_of_length_le (by omega)] at HH
  have HB := Lib.hid hb
  have H1 := Lib.hid HH
  have HL := Lib.hid hL
  clear hb HH hL hG
  go_enter Try.func11, Try.ntmps11
  go_wp2_with fail
  refine (Try.exts _ H1.out hn).mono ?_
  rintro x w1 ⟨r, rfl, hw⟩
  obtain ⟨B, c', rfl, ha⟩ := hw.at
  rw [HL.out] at ha
  rw [HL.out]
  have HA := Lib.hid ha
  have HBW := Lib.hid (HB.out.trans (hw.be.mono HB.out.size))
  clear ha hw
  go_wp2_with fail
  go_ret
  exact ⟨B, c', rfl, HA.out, HBW.out⟩
end Go.Proofs.Ytfblhcphbcghpaa
end

section
namespace Go.Proofs.Ytfblhcphbcghpaa
open Go.RowKit
open Go.NR (wpList_app)
set_option maxRecDepth 100000
theorem Try.E27 : Go.NR.Elems Try.prog 27 43 2 32 (.agg #[.int .i64 0, .slice none 0 0]) := ⟨by kernel_rfl, by kernel_rfl, rfl, by decide, by decide⟩
theorem size36 : (Try.prog.info? 36).map (·.size) = some 13 := by kernel_rfl
theorem st36 : Try.prog.underlying 36 = some (.struct (Try.prog.fieldsOf 36)) := by kernel_rfl
structure LF (w5 W : World) (sf g : Nat) (v : Value) (n : Nat) (xs : List Value) (bs : Nat → Nat) : Prop where
  h3 : W.heap[sf]? = some (.cells #[.int .u64 5, .slice (some ⟨g, 0, none⟩) 1 1, v] 29 (0, 0))
  own : W.ownsRow (sf + 1) 43 2 v n xs
  be : Below sf w5 W
  len : xs.length = n * 2
  at' : ∀ j, j < n → xs[j * 2]? = some (.int .i64 (gq j).r) ∧ xs[j * 2 + 1]? = some (.slice (some ⟨bs j, 0, none⟩) 1 1) ∧ W.heap[bs j]? = some (.cells (gq j).k 40 (0, 0)) ∧ sf < bs j ∧ v.ownBlock ≠ some (bs j) ∧ ∀ i, i < j → bs i ≠ bs j
theorem LF.push {w5 W W' : World} {sf g n g2 : Nat} {v v' : Value} {xs : List Value} {bs : Nat → Nat} (h : LF w5 W sf g v n xs bs)
    (o4 : W'.ownsRow (sf + 1) 43 2 v' (n + 1) (xs ++ [.int .i64 (gq n).r, .slice (some ⟨g2, 0, none⟩) 1 1])) (s4 : W'.heap[sf]? = some (.cells #[.int .u64 5, .slice (some ⟨g, 0, none⟩) 1 1, v'] 29 (0, 0)))
    (g4 : Go.NR.Chg W W' (fun b => b = sf ∨ v.ownBlock = some b)) (hk : W'.heap[g2]? = some (.cells (gq n).k 40 (0, 0))) (hg : W.heap.size ≤ g2) (hv : ∀ k, v'.ownBlock = some k → v.ownBlock = some k ∨ (W.heap.size ≤ k ∧ k ≠ g2)) :
    LF w5 W' sf g v' (n + 1) (xs ++ [.int .i64 (gq n).r, .slice (some ⟨g2, 0, none⟩) 1 1]) (fun j => if j = n then g2 else bs j) := by
  have hsf := Go.NR.heap_lt h.h3
  refine ⟨s4, o4, h.be.trans (g4.isBelow (by omega) (fun b hb e => ?_)), by simp [h.len]; omega, fun j hj => ?_⟩
  · rcases e with e | e
    · omega
    · have := (h.own.lt b e).1
      omega
  have hxl := h.len
  by_cases hjn : j = n
  · subst hjn
    refine ⟨?_, ?_, by simpa using hk, by simp; omega, ?_, fun i hi => ?_⟩
    · rw [List.getElem?_append_right (by omega)]; simp [hxl]
    · rw [List.getElem?_append_right (by omega), show j * 2 + 1 - xs.length = 1 by omega]
      simp
    · simp
      intro e
      rcases hv g2 e with q | q
      · have := (h.own.lt g2 q).2
        omega
      · exact q.2 rfl
    · rw [if_neg (by omega), if_pos rfl]
      have := Go.NR.heap_lt (h.at' i hi).2.2.1
      omega
  · obtain ⟨x1, x2, x3, x4, x5, x6⟩ := h.at' j (by omega)
    have hlt := Go.NR.heap_lt x3
    try dsimp only
    rw [if_neg hjn]
    refine ⟨?_, ?_, (g4.block (bs j) hlt (fun e => by rcases e with e | e; omega; exact x5 e)).trans x3, x4, fun e => ?_, fun i hi => ?_⟩
    · rw [List.getElem?_append_left (by omega)]; exact x1
    · rw [List.getElem?_append_left (by omega)]; exact x2
    · rcases hv _ e with q | q
      · exact x5 q
      · omega
    · rw [if_neg (by omega)]
      exact x6 i hi
theorem LF.row {w5 W : World} {sf g : Nat} {v : Value} {n : Nat} {xs : List Value} {bs : Nat → Nat} (h : LF w5 W sf g v n xs bs) : ∃ A c, v = .slice A n c ∧ n ≤ c ∧ c ≤ maxLen ∧ ∀ j, j < n → ∃ b, A = some ⟨b, 0, none⟩ ∧ sf < b ∧ b < W.heap.size ∧ b ≠ bs j ∧ W.cell? ⟨b, j * 2, none⟩ = some (.int .i64 (gq j).r) ∧ W.cell? ⟨b, j * 2 + 1, none⟩ = some (.slice (some ⟨bs j, 0, none⟩) 1 1) := by
  by_cases hn : n = 0
  · subst hn
    rcases h.own.2 with ⟨rfl, _⟩ | ⟨g, cap, cur, rfl, hb, hg, h1, h2, _⟩
    · exact ⟨none, 0, rfl, Nat.le_refl _, Nat.zero_le _, fun j hj => by omega⟩
    · exact ⟨_, cap, rfl, h1, h2, fun j hj => by omega⟩
  · obtain ⟨b, c, rfl, hb, hl, h1, h2, hc, _⟩ := Go.NR.own_at h.own hn
    refine ⟨_, c, rfl, h1, h2, fun j hj => ?_⟩
    obtain ⟨x1, x2, x3, x4, x5, x6⟩ := h.at' j hj
    exact ⟨b, rfl, by omega, hl, fun e => x5 (by rw [← e]; rfl), (hc _ (by omega)).trans x1, (hc _ (by omega)).trans x2⟩
theorem At_of {w : World} {g t : Nat} {cs : Array Value} (h : w.heap[g]? = some (.cells cs t (0, 0))) : Go.NR.At w g cs.toList := fun j u hu => by
  rw [cell_of_row w g j cs t _ h]
  simpa using hu
theorem LF.grow {w5 W : World} {sf g : Nat} {A : Option Addr} {c : Nat} {n : Nat} {xs : List Value} {bs : Nat → Nat} (h : LF w5 W sf g (.slice A n c) n xs bs) : GRow W 0 A n c (gsL n) := by
  obtain ⟨A', c', e, h1, h2, hr⟩ := h.row
  cases e
  refine ⟨gsL_len n, h1, h2, fun j q hq => ?_⟩
  have hj : j < n := by have := (List.getElem?_eq_some_iff.1 hq).1; rwa [gsL_len] at this
  rw [gsL_get hj] at hq
  cases hq
  obtain ⟨b, e, hb1, hb2, hb3, c0, c1⟩ := hr j hj
  obtain ⟨x1, x2, x3, x4, x5, x6⟩ := h.at' j hj
  exact ⟨b, bs j, 1, e, hb2, c0, c1, Nat.zero_le _, Nat.le_refl _, by decide, At_of x3⟩
theorem LF.growD {w5 W : World} {sf g : Nat} {A : Option Addr} {c : Nat} {n : Nat} {xs : List Value} {bs : Nat → Nat} (h : LF w5 W sf g (.slice A (n + 1) c) (n + 1) xs bs) (hn : 0 < n) : GRow (W.setCell ⟨bs n, 0, none⟩ (.int .i64 ((2 + 3 * n - 1 : Nat) : Int))) 0 A (n + 1) c (gsD (n + 1) true) := by
  obtain ⟨A', c', e, h1, h2, hr⟩ := h.row
  cases e
  refine ⟨gsD_len _ _, h1, h2, fun j q hq => ?_⟩
  obtain ⟨hj, rfl⟩ := gsD_inv hq
  obtain ⟨b, e, hb1, hb2, hb3, c0, c1⟩ := hr j hj
  obtain ⟨x1, x2, x3, x4, x5, x6⟩ := h.at' j hj
  obtain ⟨b', e', _, _, hbn, _, _⟩ := hr n (by omega)
  obtain rfl : b = b' := by rw [e] at e'; cases e'; rfl
  have hk := Below.heap_setCell W ⟨bs n, 0, none⟩ (.int .i64 ((2 + 3 * n - 1 : Nat) : Int)) b hbn
  have hsz : (W.setCell ⟨bs n, 0, none⟩ (.int .i64 ((2 + 3 * n - 1 : Nat) : Int))).heap.size = W.heap.size := by simp [World.setCell]
  refine ⟨b, bs j, 1, e, by rw [hsz]; exact hb2, by rw [gd_r]; exact (World.cell?_of_block hk).trans c0, (World.cell?_of_block hk).trans c1, Nat.zero_le _, Nat.le_refl _, by decide, ?_⟩
  by_cases hjn : j = n
  · subst hjn
    have := heap_setCell_same W (bs j) 0 (gq j).k 40 (.int .i64 ((2 + 3 * j - 1 : Nat) : Int)) x3
    have hkk : (gq j).k.setIfInBounds 0 (.int .i64 ((2 + 3 * j - 1 : Nat) : Int)) = (gd (j + 1) true j).k := by
      unfold gd GQ.k gq
      simp [kcl]
    rw [hkk] at this
    exact At_of this
  · have hne : bs j ≠ bs n := by
      obtain ⟨_, _, _, _, _, y6⟩ := h.at' n (by omega)
      exact y6 j (by omega)
    have hkk : gd (n + 1) true j = gq j := by
      unfold gd
      rw [if_neg (by omega)]
    rw [hkk]
    exact (At_of x3).eq (Below.heap_setCell W ⟨bs n, 0, none⟩ _ (bs j) hne)
theorem wpList_app_at {P : Program} {T e : TypeId} {size bytes : Nat} {z : Value} (E : Go.NR.Elems P T e size bytes z) {ops : Array Oper} {rest : List Oper} {o : Oper} {a : Act} {w : World} {Q : Exit → Act → World → Prop} (hgd : o.guard = none) (s x : Operand)
    (ho : o.op = .call { callee := .builtin .append, args := #[s, x], argTypes := #[T, T] })
    (B : Nat) (v : Value) (n : Nat) (xs : List Value) (hs : a.eval s = v) (hown : w.ownsRow B e size v n xs)
    (g m c : Nat) (news : List Value) (hx : a.eval x = .slice (some ⟨g, 0, none⟩) m c) (hl : news.length = m * size) (hnews : ∀ j u, news[j]? = some u → w.cell? ⟨g, j, none⟩ = some u) (h1 : ∀ u ∈ news, u.oneCell' = true)
    (h63 : n + m ≤ 1073741824) (hm : 0 < m) (hbase : B ≤ w.heap.size)
    (h : ∀ v' w', w'.ownsRow B e size v' (n + m) (xs ++ news) → w.grownBy w' v.ownBlock → (∀ k, v'.ownBlock = some k → v.ownBlock = some k ∨ w.heap.size ≤ k) → wpList P ops Q rest (a.put o.dst v') w') : wpList P ops Q (o :: rest) a w :=
  wpList_plain hgd fun K' hK' => Go.NR.oper_app E s x ho B v n xs hs hown g m c news hx hl hnews h1 h63 hm hbase fun v' w' h2 h3 h4 => hK' _ _ (h v' w' h2 h3 h4)
end Go.Proofs.Ytfblhcphbcghpaa
end

section
namespace Go.Proofs.Ytfblhcphbcghpaa
open Go.RowKit
open Go.NR (wpList_app)
set_option maxRecDepth 100000
set_option maxHeartbeats 16000000 in
theorem Try.many (w : World) (nn : Nat) (hnn : nn < 256) (tw : Bool) : Calls Try.prog 3 #[.int .u8 nn, .bool tw] w fun x w' => x = .returned (.bool true) ∧ Below w.heap.size w w' := by
  obtain ⟨k, hk⟩ : ∃ k, nn % 70 = k := ⟨_, rfl⟩
  have hk70 : k < 70 := by omega
  have HKI : Hid ((nn : Int) % 70 = (k : Int)) := Lib.hid (by omega)
  have HK70 := Lib.hid hk70
  clear hk hnn hk70
  go_enter Try.func3, Try.ntmps3
  go_wp2_with fail
  refine (Try.known16 w).mono ?_
  rintro x w1 ⟨rfl, hb1⟩
  have hki := HKI.out
  have hsc := storeC
  go_upto_region 5 with fail
  have WB1 := Lib.hid hb1
  obtain ⟨gc, hgc⟩ : ∃ gc, w1.heap.size = gc := ⟨_, rfl⟩
  have hba := (Below.refl w1.heap.size w1).alloc (Nat.le_refl _) (.cells #[.string ⟨#[97]⟩, .int .i64 1] 25)
  have hna := heap_alloc_new w1 (.cells #[.string ⟨#[97]⟩, .int .i64 1] 25)
  have hsz : (w1.alloc (.cells #[.string ⟨#[97]⟩, .int .i64 1] 25)).heap.size = gc + 1 := by rw [← hgc]; simp
  obtain ⟨w2, hw2⟩ : ∃ w2, w1.alloc (.cells #[.string ⟨#[97]⟩, .int .i64 1] 25) = w2 := ⟨_, rfl⟩
  rw [hw2] at hba hna hsz
  rw [hgc] at hba hna
  obtain ⟨sf, hsf⟩ : ∃ sf, w2.heap.size = sf := ⟨_, rfl⟩
  have hbb := (Below.refl w2.heap.size w2).alloc (Nat.le_refl _) (.cells #[.int .u64 5, .slice (some ⟨gc, 0, none⟩) 1 1, .slice none 0 0] 29)
  have hnb := heap_alloc_new w2 (.cells #[.int .u64 5, .slice (some ⟨gc, 0, none⟩) 1 1, .slice none 0 0] 29)
  obtain ⟨w3, hw3⟩ : ∃ w3, w2.alloc (.cells #[.int .u64 5, .slice (some ⟨gc, 0, none⟩) 1 1, .slice none 0 0] 29) = w3 := ⟨_, rfl⟩
  rw [hw3] at hbb hnb
  rw [hsf] at hnb hbb
  have HGC3 : Hid (w3.heap[gc]? = some (.cells #[.string ⟨#[97]⟩, .int .i64 1] 25 (0, 0))) := Lib.hid ((hbb.block gc (by omega)).trans hna)
  have HSF3 := Lib.hid hnb
  have WB1S : Hid (w.heap.size ≤ w1.heap.size) := Lib.hid hb1.size
  have HGS : Hid (w1.heap.size = gc ∧ gc + 1 = sf) := Lib.hid ⟨hgc, by omega⟩
  have WB3 : Hid (Below w.heap.size w w3) := Lib.hid (hb1.trans ((hba.trans (hbb.mono (by omega))).mono (by have := hb1.size; omega)))
  have hgs : gc + 1 = sf := by omega
  rw [hgc, hw2, hgs, hw3]
  have HT0 : Hid (∃ xs bs, LF w3 w3 sf gc (.slice none 0 0) 0 xs bs) := Lib.hid ⟨[], fun _ => 0, hnb, World.ownsRow_nil _ _ _ _, Below.refl _ _, rfl, fun j hj => absurd hj (Nat.not_lt_zero j)⟩
  clear hba hna hbb hnb hgc hw2 hsz hsf hw3 hb1 WB1 hgs hki
  go_wp2_with fail
  go_loopw [7] (fun t W => ∃ (i : Nat) (vA : Option Addr) (vc : Nat), i ≤ k ∧ t = .int .i64 i ∧ Hid (∃ xs bs, LF w3 W sf gc (.slice vA i vc) i xs bs)) (fun t _ => k - (intOf t).toNat)
  case atStart => exact ⟨0, none, 0, Nat.zero_le _, rfl, HT0⟩
  case round =>
    rename World => W
    obtain ⟨i, vA, vc, hi, rfl, HT⟩ := hrel
    obtain ⟨xs, bs, hlf⟩ := HT.out
    have HL := Lib.hid hlf
    clear hlf HT
    by_cases hlt : i < k
    · have d1 : decide ((i : Int) < (k : Int)) = true := decide_eq_true (by omega)
      have d1' : decide (i < k) = true := decide_eq_true hlt
      have hi70 : i < 70 := by have := HK70.out; omega
      have hns := heap_alloc_new W (.cells #[.int .i64 1, .int .i64 (1 + (i : Int) % 3), .int .i64 0, .int .i64 1, .int .i64 i, .string ⟨#[]⟩, .complex .f64 0 0, .int .i64 1, .int .i64 (i + 3), .string ⟨#[]⟩, .complex .f64 0 0, .complex .f64 0 0, .complex .f64 0 0] 36)
      have hbs := (Below.refl W.heap.size W).alloc (Nat.le_refl _) (.cells #[.int .i64 1, .int .i64 (1 + (i : Int) % 3), .int .i64 0, .int .i64 1, .int .i64 i, .string ⟨#[]⟩, .complex .f64 0 0, .int .i64 1, .int .i64 (i + 3), .string ⟨#[]⟩, .complex .f64 0 0, .complex .f64 0 0, .complex .f64 0 0] 36)
      have HIW : Hid (IntKind.i64.wrap ((i : Int) + 3) = (i : Int) + 3) := Lib.hid (Go.NR.wrapi (by omega) (by omega))
      go_upto_region 9 with fail
      (try rw [HIW.out])
      obtain ⟨s8, hs8⟩ : ∃ s8, W.heap.size = s8 := ⟨_, rfl⟩
      obtain ⟨V1, hV1⟩ : ∃ V1, W.alloc (.cells #[.int .i64 1, .int .i64 (1 + (i : Int) % 3), .int .i64 0, .int .i64 1, .int .i64 i, .string ⟨#[]⟩, .complex .f64 0 0, .int .i64 1, .int .i64 (i + 3), .string ⟨#[]⟩, .complex .f64 0 0, .complex .f64 0 0, .complex .f64 0 0] 36) = V1 := ⟨_, rfl⟩
      rw [hV1] at hns hbs
      rw [hs8] at hns
      rw [hV1]
      (try rw [hs8])
      have H8 := Lib.hid hns
      have K1 := Lib.hid hbs
      have H8S : Hid (W.heap.size = s8) := Lib.hid hs8
      clear hns hbs hV1 hs8
      have k2 := (Below.refl V1.heap.size V1).alloc (Nat.le_refl _) (.cells #[.int .i64 (2 + 3 * (i : Int)), .int .i64 3, .int .i64 1, .int .i64 (1 + (i : Int) % 3), .int .i64 0, .int .i64 1, .int .i64 i, .string ⟨#[]⟩, .complex .f64 0 0, .int .i64 1, .int .i64 (i + 3), .string ⟨#[]⟩, .complex .f64 0 0, .complex .f64 0 0, .complex .f64 0 0] 40)
      have h2 := heap_alloc_new V1 (.cells #[.int .i64 (2 + 3 * (i : Int)), .int .i64 3, .int .i64 1, .int .i64 (1 + (i : Int) % 3), .int .i64 0, .int .i64 1, .int .i64 i, .string ⟨#[]⟩, .complex .f64 0 0, .int .i64 1, .int .i64 (i + 3), .string ⟨#[]⟩, .complex .f64 0 0, .complex .f64 0 0, .complex .f64 0 0] 40)
      have hsz2 : (V1.alloc (.cells #[.int .i64 (2 + 3 * (i : Int)), .int .i64 3, .int .i64 1, .int .i64 (1 + (i : Int) % 3), .int .i64 0, .int .i64 1, .int .i64 i, .string ⟨#[]⟩, .complex .f64 0 0, .int .i64 1, .int .i64 (i + 3), .string ⟨#[]⟩, .complex .f64 0 0, .complex .f64 0 0, .complex .f64 0 0] 40)).heap.size = V1.heap.size + 1 := by simp
      have k3 := (Below.refl (V1.alloc (.cells #[.int .i64 (2 + 3 * (i : Int)), .int .i64 3, .int .i64 1, .int .i64 (1 + (i : Int) % 3), .int .i64 0, .int .i64 1, .int .i64 i, .string ⟨#[]⟩, .complex .f64 0 0, .int .i64 1, .int .i64 (i + 3), .string ⟨#[]⟩, .complex .f64 0 0, .complex .f64 0 0, .complex .f64 0 0] 40)).heap.size (V1.alloc (.cells #[.int .i64 (2 + 3 * (i : Int)), .int .i64 3, .int .i64 1, .int .i64 (1 + (i : Int) % 3), .int .i64 0, .int .i64 1, .int .i64 i, .string ⟨#[]⟩, .complex .f64 0 0, .int .i64 1, .int .i64 (i + 3), .string ⟨#[]⟩, .complex .f64 0 0, .complex .f64 0 0, .complex .f64 0 0] 40))).alloc (Nat.le_refl _) (.cells #[.int .i64 (1 + (i : Int) % 3), .slice (some ⟨V1.heap.size, 0, none⟩) 1 1] 43)
      have HB3 : Hid (Below V1.heap.size V1 ((V1.alloc (.cells #[.int .i64 (2 + 3 * (i : Int)), .int .i64 3, .int .i64 1, .int .i64 (1 + (i : Int) % 3), .int .i64 0, .int .i64 1, .int .i64 i, .string ⟨#[]⟩, .complex .f64 0 0, .int .i64 1, .int .i64 (i + 3), .string ⟨#[]⟩, .complex .f64 0 0, .complex .f64 0 0, .complex .f64 0 0] 40)).alloc (.cells #[.int .i64 (1 + (i : Int) % 3), .slice (some ⟨V1.heap.size, 0, none⟩) 1 1] 43))) := Lib.hid (k2.trans (k3.mono k2.size))
      have h23 := (k3.block V1.heap.size (by rw [hsz2]; omega)).trans h2
      have HN2 : Hid (((V1.alloc (.cells #[.int .i64 (2 + 3 * (i : Int)), .int .i64 3, .int .i64 1, .int .i64 (1 + (i : Int) % 3), .int .i64 0, .int .i64 1, .int .i64 i, .string ⟨#[]⟩, .complex .f64 0 0, .int .i64 1, .int .i64 (i + 3), .string ⟨#[]⟩, .complex .f64 0 0, .complex .f64 0 0, .complex .f64 0 0] 40)).alloc (.cells #[.int .i64 (1 + (i : Int) % 3), .slice (some ⟨V1.heap.size, 0, none⟩) 1 1] 43)).heap[V1.heap.size]? = some (.cells #[.int .i64 (2 + 3 * (i : Int)), .int .i64 3, .int .i64 1, .int .i64 (1 + (i : Int) % 3), .int .i64 0, .int .i64 1, .int .i64 i, .string ⟨#[]⟩, .complex .f64 0 0, .int .i64 1, .int .i64 (i + 3), .string ⟨#[]⟩, .complex .f64 0 0, .complex .f64 0 0, .complex .f64 0 0] 40)) := Lib.hid h23
      have HSZ3 : Hid (((V1.alloc (.cells #[.int .i64 (2 + 3 * (i : Int)), .int .i64 3, .int .i64 1, .int .i64 (1 + (i : Int) % 3), .int .i64 0, .int .i64 1, .int .i64 i, .string ⟨#[]⟩, .complex .f64 0 0, .int .i64 1, .int .i64 (i + 3), .string ⟨#[]⟩, .complex .f64 0 0, .complex .f64 0 0, .complex .f64 0 0] 40)).alloc (.cells #[.int .i64 (1 + (i : Int) % 3), .slice (some ⟨V1.heap.size, 0, none⟩) 1 1] 43)).heap.size = V1.heap.size + 2) := Lib.hid (by simp)
      have hc3 := Go.NR.at_alloc (V1.alloc (.cells #[.int .i64 (2 + 3 * (i : Int)), .int .i64 3, .int .i64 1, .int .i64 (1 + (i : Int) % 3), .int .i64 0, .int .i64 1, .int .i64 i, .string ⟨#[]⟩, .complex .f64 0 0, .int .i64 1, .int .i64 (i + 3), .string ⟨#[]⟩, .complex .f64 0 0, .complex .f64 0 0, .complex .f64 0 0] 40)) #[.int .i64 (1 + (i : Int) % 3), .slice (some ⟨V1.heap.size, 0, none⟩) 1 1] 43
      rw [hsz2] at hc3
      have C3 := Lib.hid hc3
      clear k2 h2 hsz2 k3 h23 hc3
      have hlf := HL.out
      have HSL : Hid (sf < W.heap.size) := Lib.hid (Go.NR.heap_lt hlf.h3)
      have O3 := Lib.hid (Go.NR.own_below (Go.NR.own_below hlf.own K1.out) HB3.out)
      have R0 := cell_of_row V1 sf 2 _ 29 _ ((K1.out.block sf HSL.out).trans hlf.h3)
      simp at R0
      clear hlf
      go_wp2_with (first
        | (refine wpList_load_row V1 rfl 36 (.tmp 8) rfl s8 36 _ _ rfl H8.out size36 st36 ?_)
        | (refine wpList_app_at Try.E27 rfl (.tmp 39) (.tmp 51) rfl (sf + 1) (.slice vA i vc) i xs rfl O3.out (V1.heap.size + 1) 1 1 [.int .i64 (1 + (i : Int) % 3), .slice (some ⟨V1.heap.size, 0, none⟩) 1 1] rfl rfl C3.out (one_p _ _ _) (by omega) (by decide) (by have h1 := HSZ3.out; have h2 := K1.out.size; have h3 := HSL.out; omega) ?_))
      intro v4 W4 o4 g4 w4
      clear R0
      obtain ⟨g4', c4', rfl, hg4, hg4', hc4, hc4', _, _⟩ := Go.NR.own_at o4 (by omega)
      have hlf := HL.out
      have hne : ∀ k, (Value.slice vA i vc).ownBlock = some k → k ≠ sf := fun k hk => by have := (hlf.own.lt k hk).1; omega
      have HBW : Hid (Below W.heap.size W _) := Lib.hid (K1.out.trans (HB3.out.mono K1.out.size))
      obtain ⟨a1, a2, a3, a4⟩ := Go.NR.app_store (off := 2) HBW.out hlf.own o4 g4 (fun k hk => (w4 k hk).imp id (fun h => by have := HSZ3.out; omega)) hlf.h3 hne
      have H4s := (Go.NR.app_keep HBW.out g4 sf HSL.out (fun e => hne sf e rfl)).trans hlf.h3
      have z4 := frozen_of_row W4 sf 2 _ 29 H4s
      have r4 := cell_of_row W4 sf 2 _ 29 _ H4s
      simp at r4
      have hgg : W.heap.size ≤ V1.heap.size := K1.out.size
      have hnb : ∀ k, (Value.slice vA i vc).ownBlock = some k → k < W.heap.size := fun k hk => (hlf.own.lt k hk).2
      have e1 : (.int .i64 (1 + (i : Int) % 3) : Value) = .int .i64 ((gq i).r : Int) := by simp [gq]
      have hX : W4.heap[V1.heap.size]? = some (.cells (gq i).k 40 (0, 0)) := ((g4.block V1.heap.size (by have := HSZ3.out; omega) (fun e => by have := hnb V1.heap.size e.symm; omega)).trans HN2.out).trans (by simp [GQ.k, gq, kcl])
      have HL2 : Hid (∃ xs bs, LF w3 (W4.setCell ⟨sf, 2, none⟩ (.slice (some ⟨g4', 0, none⟩) (i + 1) c4')) sf gc (.slice (some ⟨g4', 0, none⟩) (i + 1) c4') (i + 1) xs bs) := Lib.hid ⟨_, _, hlf.push (g2 := V1.heap.size) (by rw [← e1]; exact a1) a2 a3 ((Below.heap_setCell _ _ _ _ (by dsimp only; have := HSL.out; omega)).trans hX) hgg (fun k hk => by
        rcases w4 k hk with q | q
        · exact .inl q
        · have := HSZ3.out
          exact .inr ⟨by omega, by omega⟩)⟩
      clear a1 a2 a3 a4 hX e1 hnb hgg hne hlf o4 g4 w4 hg4 hg4' hc4 hc4' H4s HBW
      go_wp2_with fail
      exact ⟨⟨i + 1, _, _, hlt, rfl, HL2⟩, by simp [intOf]; omega⟩
    · obtain rfl : i = k := by omega
      have d1 : decide ((i : Int) < (i : Int)) = false := by simp
      have d1' : decide (i < i) = false := by simp
      have hlf := HL.out
      have HG0 := Lib.hid hlf.grow
      have HBE := Lib.hid hlf.be
      have HSF := Lib.hid hlf.h3
      have HGCW : Hid (W.heap[gc]? = some (.cells #[.string ⟨#[97]⟩, .int .i64 1] 25 (0, 0))) := Lib.hid ((HBE.out.block gc (by have := HGS.out; omega)).trans HGC3.out)
      have HWB : Hid (Below w.heap.size w W) := Lib.hid (WB3.out.trans (HBE.out.mono (by have := HGS.out; have := WB1S.out; omega)))
      clear hlf HT0 HGC3 HSF3 WB3
      by_cases htw : tw = true ∧ 1 < i
      · obtain ⟨rfl, h1i⟩ := htw
        obtain ⟨n, hn⟩ : ∃ n, i = n + 1 := ⟨i - 1, by omega⟩
        have hni : n < i := by omega
        have HGD : Hid (GRow (W.setCell ⟨bs n, 0, none⟩ (.int .i64 ((2 + 3 * n - 1 : Nat) : Int))) 0 vA i vc (gsD i true)) := Lib.hid (by subst hn; exact HL.out.growD (by omega))
        obtain ⟨A', c', e', _, hcm, hr⟩ := HL.out.row
        cases e'
        obtain ⟨b, rfl, hb1, hb2, hb3, c0, c1⟩ := hr n hni
        obtain ⟨x1, x2, x3, x4, x5, x6⟩ := HL.out.at' n hni
        have X3 := Lib.hid x3
        have X4 := Lib.hid x4
        have C1 := Lib.hid c1
        have HW6 : Hid (wrap64 ((i : Int) - 1) = (n : Int)) := Lib.hid (by rw [Go.NR.wrap64i (by omega) (by have := HK70.out; omega)]; omega)
        have HW7 : Hid (wrap64 (2 + 3 * (n : Int) - 1) = ((2 + 3 * n - 1 : Nat) : Int)) := Lib.hid (by rw [Go.NR.wrap64i (by omega) (by have := HK70.out; omega)]; omega)
        have HN := Lib.hid hn
        have D1 : Hid (decide ((1 : Int) < (i : Int)) = true) := Lib.hid (decide_eq_true (by omega))
        have D2 : Hid (decide (1 < i) = true) := Lib.hid (decide_eq_true h1i)
        clear x1 x2 x3 x4 x5 x6 c0 hr hb1 hb2 hb3 hn h1i hcm
        have d1 := D1.out
        have d2 := D2.out
        have r2 := cell_of_row W sf 2 _ 29 _ HSF.out
        simp at r2
        have y0 := cell_of_row W (bs n) 0 _ 40 _ X3.out
        have y1 := frozen_of_row W (bs n) 0 _ 40 X3.out
        simp [GQ.k, gq, kcl] at y0
        have c1 := C1.out
        have hw6 := HW6.out
        go_upto_region 12 with fail
        clear hw6 r2 y0 y1 c1 d1 d2
        rw [HW7.out]
        have HWZ : Hid (Below w.heap.size w (W.setCell ⟨bs n, 0, none⟩ (.int .i64 ((2 + 3 * n - 1 : Nat) : Int)))) := Lib.hid (Below.trans HWB.out ⟨rfl, rfl, rfl, by simp [World.setCell], fun x hx => Below.heap_setCell _ _ _ _ (by dsimp only; have h1 := X4.out; have h2 := HGS.out; have h3 := WB1S.out; omega)⟩)
        have HSZ : Hid ((W.setCell ⟨bs n, 0, none⟩ (.int .i64 ((2 + 3 * n - 1 : Nat) : Int))).heap[sf]? = some (.cells #[.int .u64 5, .slice (some ⟨gc, 0, none⟩) 1 1, .slice (some ⟨b, 0, none⟩) i vc] 29 (0, 0))) := Lib.hid ((Below.heap_setCell _ _ _ _ (by dsimp only; have h1 := X4.out; omega)).trans HSF.out)
        have HCZ : Hid ((W.setCell ⟨bs n, 0, none⟩ (.int .i64 ((2 + 3 * n - 1 : Nat) : Int))).heap[gc]? = some (.cells #[.string ⟨#[97]⟩, .int .i64 1] 25 (0, 0))) := Lib.hid ((Below.heap_setCell _ _ _ _ (by dsimp only; have h1 := X4.out; have h2 := HGS.out; omega)).trans HGCW.out)
        obtain ⟨Wz, hWz⟩ : ∃ Wz, W.setCell ⟨bs n, 0, none⟩ (.int .i64 ((2 + 3 * n - 1 : Nat) : Int)) = Wz := ⟨_, rfl⟩
        rw [hWz] at HGD HWZ HSZ HCZ ⊢
        clear hWz HWB HBE HG0 HSF HGCW HL X3 X4 C1 HW6 HW7 HN hni
        have s0 := cell_of_row Wz sf 0 _ 29 _ HSZ.out
        have s1 := cell_of_row Wz sf 1 _ 29 _ HSZ.out
        have s2 := cell_of_row Wz sf 2 _ 29 _ HSZ.out
        simp at s0 s1 s2
        go_wp2_with fail
        refine (Try.toFoot Wz 5 (Nat.le_refl 1) (by decide) (cell_of_row Wz gc 0 _ 25 _ HCZ.out) (cell_of_row Wz gc 1 _ 25 _ HCZ.out) HGD.out (by have := HK70.out; omega)).mono ?_
        rintro x w5 ⟨g, cg, A5, c5, rfl, hcr, hgr, hb5⟩
        clear s0 s1 s2
        have HCR5 := Lib.hid hcr
        have HGR5 := Lib.hid (hgr.mono (Nat.zero_le _))
        have WB5 := Lib.hid (HWZ.out.trans (hb5.mono HWZ.out.size))
        clear hcr hgr hb5
        go_upto_region 13 with fail
        have hba := (Below.refl w5.heap.size w5).alloc (Nat.le_refl _) (.cells #[.int .u64 5, .slice (some ⟨g, 0, none⟩) 1 cg, .slice A5 i c5] 48)
        have hna := heap_alloc_new w5 (.cells #[.int .u64 5, .slice (some ⟨g, 0, none⟩) 1 cg, .slice A5 i c5] 48)
        obtain ⟨w6, hw⟩ : ∃ x, w5.alloc (.cells #[.int .u64 5, .slice (some ⟨g, 0, none⟩) 1 cg, .slice A5 i c5] 48) = x := ⟨_, rfl⟩
        obtain ⟨s9, hs⟩ : ∃ x, w5.heap.size = x := ⟨_, rfl⟩
        rw [hw] at hba hna
        rw [hw]
        (try rw [hs])
        rw [hs] at hna
        have Hs9 := Lib.hid hna
        have Kw6 := Lib.hid hba
        clear hw hs hba hna
        have HCR6 := Lib.hid (HCR5.out.below Kw6.out)
        have HGR6 := Lib.hid (HGR5.out.below Kw6.out)
        have WB6 := Lib.hid (WB5.out.trans (Kw6.out.mono WB5.out.size))
        clear HCR5 HGR5 WB5 Kw6
        have p0 := cell_of_row w6 s9 0 _ 48 _ Hs9.out
        have p1 := cell_of_row w6 s9 1 _ 48 _ Hs9.out
        have p2 := cell_of_row w6 s9 2 _ 48 _ Hs9.out
        simp at p0 p1 p2
        by_cases hk64 : i ≤ 64
        · have q1 : decide ((64 : Int) < (i : Int)) = false := decide_eq_false (by omega)
          have q2 : decide (64 < i) = false := decide_eq_false (by omega)
          have HK64 := Lib.hid hk64
          clear hk64
          have HOK : Hid (∀ (j : Nat) (q : GQ), (gsD i true)[j]? = some q → q.ok) := Lib.hid (fun j q h => by obtain ⟨h1, rfl⟩ := gsD_inv h; exact gd_ok _ (by have := HK70.out; omega) h1)
          have HLN : Hid ((gsD i true).length = i) := Lib.hid (gsD_len i true)
          obtain ⟨GS, hGS⟩ : ∃ GS, gsD i true = GS := ⟨_, rfl⟩
          have HGS2 := Lib.hid hGS
          rw [hGS] at HGR6 HOK HLN
          clear hGS
          go_wp2_with fail
          refine (Try.footPutG w6 5 (by decide) (by decide) HCR6.out colA_chk HGR6.out HOK.out HK64.out).mono ?_
          rintro x w7 ⟨A7, m7, c7, rfl, hp⟩
          have HDI := Lib.hid hp.di
          have HX7 := Lib.hid ((hp.be.block s9 (Go.NR.heap_lt Hs9.out)).trans Hs9.out)
          have HCR7 := Lib.hid (HCR6.out.below hp.be)
          have HGR7 := Lib.hid (HGR6.out.below hp.be)
          have WB7 := Lib.hid (WB6.out.trans (hp.be.mono WB6.out.size))
          clear hp p0 p1 p2 HCR6 HGR6 WB6 Hs9
          go_wp2_with fail
          refine (Try.footGetG w7 (by decide) (by decide) colA_chk (by rw [HLN.out]; exact HK64.out) HOK.out HDI.out).mono ?_
          rintro x w8 ⟨g8, cg8, A8, c8, rfl, hcr8, hgr8, hb8⟩
          have hl1 : colA.length = 1 := rfl
          have hl2 := HLN.out
          rw [hl1] at hcr8
          rw [hl2] at hgr8
          rw [hl1, hl2]
          clear hl1 hl2
          have HCR8 := Lib.hid hcr8
          have HGR8 := Lib.hid (hgr8.mono (Nat.zero_le _))
          have HX8 := Lib.hid ((hb8.block s9 (Go.NR.heap_lt HX7.out)).trans HX7.out)
          have HCR7b := Lib.hid (HCR7.out.below hb8)
          have HGR7b := Lib.hid (HGR7.out.below hb8)
          have WB8 := Lib.hid (WB7.out.trans (hb8.mono WB7.out.size))
          clear hcr8 hgr8 hb8 HX7 HCR7 HGR7 WB7 HDI q1 q2
          go_upto_region 17 with fail
          have hba := (Below.refl w8.heap.size w8).alloc (Nat.le_refl _) (.cells #[.int .u64 5, .slice (some ⟨g8, 0, none⟩) 1 cg8, .slice A8 i c8] 48)
          have hna := heap_alloc_new w8 (.cells #[.int .u64 5, .slice (some ⟨g8, 0, none⟩) 1 cg8, .slice A8 i c8] 48)
          obtain ⟨w9, hw⟩ : ∃ x, w8.alloc (.cells #[.int .u64 5, .slice (some ⟨g8, 0, none⟩) 1 cg8, .slice A8 i c8] 48) = x := ⟨_, rfl⟩
          obtain ⟨sx, hs⟩ : ∃ x, w8.heap.size = x := ⟨_, rfl⟩
          rw [hw] at hba hna
          rw [hw]
          (try rw [hs])
          rw [hs] at hna
          have Hsx := Lib.hid hna
          have Kw9 := Lib.hid hba
          clear hw hs hba hna
          have HCR9 := Lib.hid (HCR8.out.below Kw9.out)
          have HGR9 := Lib.hid (HGR8.out.below Kw9.out)
          have HX9 := Lib.hid ((Kw9.out.block s9 (Go.NR.heap_lt HX8.out)).trans HX8.out)
          have HCR := Lib.hid (HCR7b.out.below Kw9.out)
          have HGR := Lib.hid (HGR7b.out.below Kw9.out)
          have WB9 := Lib.hid (WB8.out.trans (Kw9.out.mono WB8.out.size))
          clear HCR8 HGR8 HX8 HCR7b HGR7b WB8 Kw9
          have p0 := cell_of_row w9 s9 0 _ 48 _ HX9.out
          have p1 := cell_of_row w9 s9 1 _ 48 _ HX9.out
          have p2 := cell_of_row w9 s9 2 _ 48 _ HX9.out
          have q0 := cell_of_row w9 sx 0 _ 48 _ Hsx.out
          have q1 := cell_of_row w9 sx 1 _ 48 _ Hsx.out
          have q2 := cell_of_row w9 sx 2 _ 48 _ Hsx.out
          simp at p0 p1 p2 q0 q1 q2
          go_wp2_with fail
          refine (Try.footSame w9 5 HCR9.out HCR.out (by decide) HGR9.out HGR.out (by have := HK64.out; omega)).mono ?_
          rintro x wa ⟨rfl, hba⟩
          have HXa := Lib.hid ((hba.block s9 (Go.NR.heap_lt HX9.out)).trans HX9.out)
          have HCRa := Lib.hid (HCR.out.below hba)
          have HGRa := Lib.hid (HGR.out.below hba)
          have WBa := Lib.hid (WB9.out.trans (hba.mono WB9.out.size))
          clear hba p0 p1 p2 q0 q1 q2 HCR9 HGR9 HX9 HCR HGR WB9 Hsx
          have p0 := cell_of_row wa s9 0 _ 48 _ HXa.out
          have p1 := cell_of_row wa s9 1 _ 48 _ HXa.out
          have p2 := cell_of_row wa s9 2 _ 48 _ HXa.out
          simp at p0 p1 p2
          have d1 := D1.out
          have d2 := D2.out
          have HGT : Hid (GRow wa 0 A5 i c5 (gsD i true)) := Lib.hid (by rw [HGS2.out]; exact HGRa.out)
          go_wp2_with fail
          refine (check_twice HCRa.out HGT.out HK64.out (by simpa using D2.out) (by decide)).mono ?_
          rintro x wb ⟨rfl, hbb⟩
          have WBb := Lib.hid (WBa.out.trans (hbb.mono WBa.out.size))
          clear hbb
          go_wp2_with fail
          go_ret
          exact ⟨rfl, WBb.out⟩
        · have q1 : decide ((64 : Int) < (i : Int)) = true := decide_eq_true (by omega)
          have q2 : decide (64 < i) = true := decide_eq_true (by omega)
          have HK64 : Hid (64 < i) := Lib.hid (by omega)
          clear hk64
          go_wp2_with fail
          refine (Try.footPutLong w6 5 (by decide) (by decide) HCR6.out colA_chk HGR6.out HK64.out (by have := HK70.out; omega)).mono ?_
          rintro x w7 ⟨rfl, hp⟩
          have HX7 := Lib.hid ((hp.block s9 (Go.NR.heap_lt Hs9.out)).trans Hs9.out)
          have HCR7 := Lib.hid (HCR6.out.below hp)
          have WB7 := Lib.hid (WB6.out.trans (hp.mono WB6.out.size))
          clear hp p0 p1 p2 HCR6 HGR6 WB6 Hs9
          have p0 := cell_of_row w7 s9 0 _ 48 _ HX7.out
          have p1 := cell_of_row w7 s9 1 _ 48 _ HX7.out
          have p2 := cell_of_row w7 s9 2 _ 48 _ HX7.out
          simp at p0 p1 p2
          go_wp2_with fail
          refine (Try.footCheckLong w7 5 (by decide) HCR7.out A5 i c5 HK64.out (by have := HK70.out; omega) 400).mono ?_
          rintro x w8 ⟨rfl, hb8⟩
          have WB8 := Lib.hid (WB7.out.trans (hb8.mono WB7.out.size))
          clear hb8
          go_wp2_with fail
          go_ret
          exact ⟨rfl, WB8.out⟩
      · rw [← gsD_no] at HG0
        rcases Bool.eq_false_or_eq_true tw with rfl | rfl
        · have h1i : ¬ 1 < i := fun h => htw ⟨rfl, h⟩
          have D1 : Hid (decide ((1 : Int) < (i : Int)) = false) := Lib.hid (decide_eq_false (by omega))
          have D2 : Hid (decide (1 < i) = false) := Lib.hid (decide_eq_false h1i)
          clear h1i htw
          have d1 := D1.out
          have d2 := D2.out
          go_upto_region 12 with fail
          clear d1 d2
          have s0 := cell_of_row W sf 0 _ 29 _ HSF.out
          have s1 := cell_of_row W sf 1 _ 29 _ HSF.out
          have s2 := cell_of_row W sf 2 _ 29 _ HSF.out
          simp at s0 s1 s2
          go_wp2_with fail
          refine (Try.toFoot W 5 (Nat.le_refl 1) (by decide) (cell_of_row W gc 0 _ 25 _ HGCW.out) (cell_of_row W gc 1 _ 25 _ HGCW.out) HG0.out (by have := HK70.out; omega)).mono ?_
          rintro x w5 ⟨g, cg, A5, c5, rfl, hcr, hgr, hb5⟩
          clear s0 s1 s2
          have HCR5 := Lib.hid hcr
          have HGR5 := Lib.hid (hgr.mono (Nat.zero_le _))
          have WB5 := Lib.hid (HWB.out.trans (hb5.mono HWB.out.size))
          clear hcr hgr hb5
          go_upto_region 13 with fail
          have hba := (Below.refl w5.heap.size w5).alloc (Nat.le_refl _) (.cells #[.int .u64 5, .slice (some ⟨g, 0, none⟩) 1 cg, .slice A5 i c5] 48)
          have hna := heap_alloc_new w5 (.cells #[.int .u64 5, .slice (some ⟨g, 0, none⟩) 1 cg, .slice A5 i c5] 48)
          obtain ⟨w6, hw⟩ : ∃ x, w5.alloc (.cells #[.int .u64 5, .slice (some ⟨g, 0, none⟩) 1 cg, .slice A5 i c5] 48) = x := ⟨_, rfl⟩
          obtain ⟨s9, hs⟩ : ∃ x, w5.heap.size = x := ⟨_, rfl⟩
          rw [hw] at hba hna
          rw [hw]
          (try rw [hs])
          rw [hs] at hna
          have Hs9 := Lib.hid hna
          have Kw6 := Lib.hid hba
          clear hw hs hba hna
          have HCR6 := Lib.hid (HCR5.out.below Kw6.out)
          have HGR6 := Lib.hid (HGR5.out.below Kw6.out)
          have WB6 := Lib.hid (WB5.out.trans (Kw6.out.mono WB5.out.size))
          clear HCR5 HGR5 WB5 Kw6
          have p0 := cell_of_row w6 s9 0 _ 48 _ Hs9.out
          have p1 := cell_of_row w6 s9 1 _ 48 _ Hs9.out
          have p2 := cell_of_row w6 s9 2 _ 48 _ Hs9.out
          simp at p0 p1 p2
          by_cases hk64 : i ≤ 64
          · have q1 : decide ((64 : Int) < (i : Int)) = false := decide_eq_false (by omega)
            have q2 : decide (64 < i) = false := decide_eq_false (by omega)
            have HK64 := Lib.hid hk64
            clear hk64
            have HOK : Hid (∀ (j : Nat) (q : GQ), (gsD i false)[j]? = some q → q.ok) := Lib.hid (fun j q h => by obtain ⟨h1, rfl⟩ := gsD_inv h; exact gd_ok _ (by have := HK70.out; omega) h1)
            have HLN : Hid ((gsD i false).length = i) := Lib.hid (gsD_len i false)
            obtain ⟨GS, hGS⟩ : ∃ GS, gsD i false = GS := ⟨_, rfl⟩
            have HGS2 := Lib.hid hGS
            rw [hGS] at HGR6 HOK HLN
            clear hGS
            go_wp2_with fail
            refine (Try.footPutG w6 5 (by decide) (by decide) HCR6.out colA_chk HGR6.out HOK.out HK64.out).mono ?_
            rintro x w7 ⟨A7, m7, c7, rfl, hp⟩
            have HDI := Lib.hid hp.di
            have HX7 := Lib.hid ((hp.be.block s9 (Go.NR.heap_lt Hs9.out)).trans Hs9.out)
            have HCR7 := Lib.hid (HCR6.out.below hp.be)
            have HGR7 := Lib.hid (HGR6.out.below hp.be)
            have WB7 := Lib.hid (WB6.out.trans (hp.be.mono WB6.out.size))
            clear hp p0 p1 p2 HCR6 HGR6 WB6 Hs9
            go_wp2_with fail
            refine (Try.footGetG w7 (by decide) (by decide) colA_chk (by rw [HLN.out]; exact HK64.out) HOK.out HDI.out).mono ?_
            rintro x w8 ⟨g8, cg8, A8, c8, rfl, hcr8, hgr8, hb8⟩
            have hl1 : colA.length = 1 := rfl
            have hl2 := HLN.out
            rw [hl1] at hcr8
            rw [hl2] at hgr8
            rw [hl1, hl2]
            clear hl1 hl2
            have HCR8 := Lib.hid hcr8
            have HGR8 := Lib.hid (hgr8.mono (Nat.zero_le _))
            have HX8 := Lib.hid ((hb8.block s9 (Go.NR.heap_lt HX7.out)).trans HX7.out)
            have HCR7b := Lib.hid (HCR7.out.below hb8)
            have HGR7b := Lib.hid (HGR7.out.below hb8)
            have WB8 := Lib.hid (WB7.out.trans (hb8.mono WB7.out.size))
            clear hcr8 hgr8 hb8 HX7 HCR7 HGR7 WB7 HDI q1 q2
            go_upto_region 17 with fail
            have hba := (Below.refl w8.heap.size w8).alloc (Nat.le_refl _) (.cells #[.int .u64 5, .slice (some ⟨g8, 0, none⟩) 1 cg8, .slice A8 i c8] 48)
            have hna := heap_alloc_new w8 (.cells #[.int .u64 5, .slice (some ⟨g8, 0, none⟩) 1 cg8, .slice A8 i c8] 48)
            obtain ⟨w9, hw⟩ : ∃ x, w8.alloc (.cells #[.int .u64 5, .slice (some ⟨g8, 0, none⟩) 1 cg8, .slice A8 i c8] 48) = x := ⟨_, rfl⟩
            obtain ⟨sx, hs⟩ : ∃ x, w8.heap.size = x := ⟨_, rfl⟩
            rw [hw] at hba hna
            rw [hw]
            (try rw [hs])
            rw [hs] at hna
            have Hsx := Lib.hid hna
            have Kw9 := Lib.hid hba
            clear hw hs hba hna
            have HCR9 := Lib.hid (HCR8.out.below Kw9.out)
            have HGR9 := Lib.hid (HGR8.out.below Kw9.out)
            have HX9 := Lib.hid ((Kw9.out.block s9 (Go.NR.heap_lt HX8.out)).trans HX8.out)
            have HCR := Lib.hid (HCR7b.out.below Kw9.out)
            have HGR := Lib.hid (HGR7b.out.below Kw9.out)
            have WB9 := Lib.hid (WB8.out.trans (Kw9.out.mono WB8.out.size))
            clear HCR8 HGR8 HX8 HCR7b HGR7b WB8 Kw9
            have p0 := cell_of_row w9 s9 0 _ 48 _ HX9.out
            have p1 := cell_of_row w9 s9 1 _ 48 _ HX9.out
            have p2 := cell_of_row w9 s9 2 _ 48 _ HX9.out
            have q0 := cell_of_row w9 sx 0 _ 48 _ Hsx.out
            have q1 := cell_of_row w9 sx 1 _ 48 _ Hsx.out
            have q2 := cell_of_row w9 sx 2 _ 48 _ Hsx.out
            simp at p0 p1 p2 q0 q1 q2
            go_wp2_with fail
            refine (Try.footSame w9 5 HCR9.out HCR.out (by decide) HGR9.out HGR.out (by have := HK64.out; omega)).mono ?_
            rintro x wa ⟨rfl, hba⟩
            have HXa := Lib.hid ((hba.block s9 (Go.NR.heap_lt HX9.out)).trans HX9.out)
            have HCRa := Lib.hid (HCR.out.below hba)
            have HGRa := Lib.hid (HGR.out.below hba)
            have WBa := Lib.hid (WB9.out.trans (hba.mono WB9.out.size))
            clear hba p0 p1 p2 q0 q1 q2 HCR9 HGR9 HX9 HCR HGR WB9 Hsx
            have p0 := cell_of_row wa s9 0 _ 48 _ HXa.out
            have p1 := cell_of_row wa s9 1 _ 48 _ HXa.out
            have p2 := cell_of_row wa s9 2 _ 48 _ HXa.out
            simp at p0 p1 p2
            have d1 := D1.out
            have d2 := D2.out
            have HGT : Hid (GRow wa 0 A5 i c5 (gsD i false)) := Lib.hid (by rw [HGS2.out]; exact HGRa.out)
            go_wp2_with fail
            refine (Try.usedG wa 5 (.slice (some ⟨g, 0, none⟩) 1 cg) rfl HGT.out (by have := HK70.out; omega)).mono ?_
            rintro x wb ⟨B, cb, rfl, hea, hbb⟩
            have HEA := Lib.hid hea
            have WBb := Lib.hid (WBa.out.trans (hbb.mono WBa.out.size))
            have HXb := Lib.hid ((hbb.block s9 (Go.NR.heap_lt HXa.out)).trans HXa.out)
            have HCRb := Lib.hid (HCRa.out.below hbb)
            have HGTb := Lib.hid (HGT.out.below hbb)
            have hcbm : cb ≤ maxLen := hea.max
            have hcbn : i ≤ cb := hea.le
            clear hea hbb d1 d2 p0 p1 p2 HXa HCRa HGT HGRa WBa HGS2 HOK HLN
            go_wp2_with fail
            go_loopw [15] (fun t W => ∃ j : Nat, j ≤ i ∧ t = .int .i64 j ∧ W = wb) (fun t _ => i - (intOf t).toNat)
            case atStart => exact ⟨0, Nat.zero_le _, rfl, rfl⟩
            case round =>
              obtain ⟨j, hj, rfl, rfl⟩ := hrel
              by_cases hlj : j < i
              · have d1 : decide ((j : Int) < (i : Int)) = true := decide_eq_true (by omega)
                have d1' : decide (j < i) = true := decide_eq_true hlj
                have hj70 : j < 70 := by have := HK70.out; omega
                obtain ⟨b', rfl, y1, y2⟩ := HEA.out.at' j _ (gsD_get hlj)
                simp [gd, gq] at y1 y2
                go_wp2_with fail
                exact ⟨⟨j + 1, hlj, rfl, by first | trivial | rfl⟩, by simp [intOf]; omega⟩
              · obtain rfl : j = i := by omega
                have d1 : decide ((j : Int) < (j : Int)) = false := by simp
                have d1' : decide (j < j) = false := by simp
                have hb9 := Go.NR.heap_lt HXb.out
                have p0 := cell_of_row _ s9 0 _ 48 _ HXb.out
                have p1 := cell_of_row _ s9 1 _ 48 _ HXb.out
                have p2 := cell_of_row _ s9 2 _ 48 _ HXb.out
                simp at p0 p1 p2
                have hj70 := HK70.out
                go_wp2_with fail
                refine (check_ok HCRb.out HGTb.out HK64.out 400 (by omega) (by decide) (by decide)).mono ?_
                rintro x wc ⟨rfl, hbc⟩
                have HXc := Lib.hid ((hbc.block s9 hb9).trans HXb.out)
                have HCRc := Lib.hid (HCRb.out.below hbc)
                have HGTc := Lib.hid (HGTb.out.below hbc)
                have WBc := Lib.hid (WBb.out.trans (hbc.mono WBb.out.size))
                clear hbc p0 p1 p2 hb9
                have hb9 := Go.NR.heap_lt HXc.out
                have p0 := cell_of_row _ s9 0 _ 48 _ HXc.out
                have p1 := cell_of_row _ s9 1 _ 48 _ HXc.out
                have p2 := cell_of_row _ s9 2 _ 48 _ HXc.out
                simp at p0 p1 p2
                go_wp2_with fail
                have hck := check_ok HCRc.out HGTc.out HK64.out (2 + 3 * j) (Nat.le_refl _) (by omega) (show (5 : Nat) ≠ 0 by decide)
                have he2 : ((2 + 3 * j : Nat) : Int) = 2 + 3 * (j : Int) := by omega
                rw [he2] at hck
                clear he2
                refine hck.mono ?_
                clear hck
                rintro x wd ⟨rfl, hbd⟩
                have HXd := Lib.hid ((hbd.block s9 hb9).trans HXc.out)
                have HCRd := Lib.hid (HCRc.out.below hbd)
                have HGTd := Lib.hid (HGTc.out.below hbd)
                have WBd := Lib.hid (WBc.out.trans (hbd.mono WBc.out.size))
                clear hbd p0 p1 p2 hb9
                by_cases hj0 : j = 0
                · subst hj0
                  go_wp2_with fail
                  refine (Try.threeC wd).mono ?_
                  rintro x we ⟨g3, c3, rfl, _, hbe⟩
                  have WBe := Lib.hid (WBd.out.trans (hbe.mono WBd.out.size))
                  clear hbe
                  go_wp2_with fail
                  go_ret
                  exact ⟨rfl, WBe.out⟩
                · have z1 : decide (j = 0) = false := decide_eq_false hj0
                  have z2 : ((j : Int) == 0) = false := by simpa using hj0
                  have hb9 := Go.NR.heap_lt HXd.out
                  have p0 := cell_of_row _ s9 0 _ 48 _ HXd.out
                  have p1 := cell_of_row _ s9 1 _ 48 _ HXd.out
                  have p2 := cell_of_row _ s9 2 _ 48 _ HXd.out
                  simp at p0 p1 p2
                  go_wp2_with fail
                  have hck := check_less HCRd.out HGTd.out HK64.out (by omega) (show (5 : Nat) ≠ 0 by decide)
                  have he2 : ((1 + 3 * j : Nat) : Int) = 1 + 3 * (j : Int) := by omega
                  rw [he2] at hck
                  clear he2
                  refine hck.mono ?_
                  clear hck
                  rintro x wx ⟨rfl, hbx⟩
                  have WBx := Lib.hid (WBd.out.trans (hbx.mono WBd.out.size))
                  clear hbx p0 p1 p2 hb9
                  go_wp2_with fail
                  refine (Try.threeC wx).mono ?_
                  rintro x we ⟨g3, c3, rfl, _, hbe⟩
                  have WBe := Lib.hid (WBx.out.trans (hbe.mono WBx.out.size))
                  clear hbe
                  go_wp2_with fail
                  go_ret
                  exact ⟨rfl, WBe.out⟩
          · have q1 : decide ((64 : Int) < (i : Int)) = true := decide_eq_true (by omega)
            have q2 : decide (64 < i) = true := decide_eq_true (by omega)
            have HK64 : Hid (64 < i) := Lib.hid (by omega)
            clear hk64
            go_wp2_with fail
            refine (Try.footPutLong w6 5 (by decide) (by decide) HCR6.out colA_chk HGR6.out HK64.out (by have := HK70.out; omega)).mono ?_
            rintro x w7 ⟨rfl, hp⟩
            have HX7 := Lib.hid ((hp.block s9 (Go.NR.heap_lt Hs9.out)).trans Hs9.out)
            have HCR7 := Lib.hid (HCR6.out.below hp)
            have WB7 := Lib.hid (WB6.out.trans (hp.mono WB6.out.size))
            clear hp p0 p1 p2 HCR6 HGR6 WB6 Hs9
            have p0 := cell_of_row w7 s9 0 _ 48 _ HX7.out
            have p1 := cell_of_row w7 s9 1 _ 48 _ HX7.out
            have p2 := cell_of_row w7 s9 2 _ 48 _ HX7.out
            simp at p0 p1 p2
            go_wp2_with fail
            refine (Try.footCheckLong w7 5 (by decide) HCR7.out A5 i c5 HK64.out (by have := HK70.out; omega) 400).mono ?_
            rintro x w8 ⟨rfl, hb8⟩
            have WB8 := Lib.hid (WB7.out.trans (hb8.mono WB7.out.size))
            clear hb8
            go_wp2_with fail
            go_ret
            exact ⟨rfl, WB8.out⟩
        · have D1 : Hid (true = true) := Lib.hid rfl
          have D2 : Hid (true = true) := Lib.hid rfl
          clear htw
          go_upto_region 12 with fail
          have s0 := cell_of_row W sf 0 _ 29 _ HSF.out
          have s1 := cell_of_row W sf 1 _ 29 _ HSF.out
          have s2 := cell_of_row W sf 2 _ 29 _ HSF.out
          simp at s0 s1 s2
          go_wp2_with fail
          refine (Try.toFoot W 5 (Nat.le_refl 1) (by decide) (cell_of_row W gc 0 _ 25 _ HGCW.out) (cell_of_row W gc 1 _ 25 _ HGCW.out) HG0.out (by have := HK70.out; omega)).mono ?_
          rintro x w5 ⟨g, cg, A5, c5, rfl, hcr, hgr, hb5⟩
          clear s0 s1 s2
          have HCR5 := Lib.hid hcr
          have HGR5 := Lib.hid (hgr.mono (Nat.zero_le _))
          have WB5 := Lib.hid (HWB.out.trans (hb5.mono HWB.out.size))
          clear hcr hgr hb5
          go_upto_region 13 with fail
          have hba := (Below.refl w5.heap.size w5).alloc (Nat.le_refl _) (.cells #[.int .u64 5, .slice (some ⟨g, 0, none⟩) 1 cg, .slice A5 i c5] 48)
          have hna := heap_alloc_new w5 (.cells #[.int .u64 5, .slice (some ⟨g, 0, none⟩) 1 cg, .slice A5 i c5] 48)
          obtain ⟨w6, hw⟩ : ∃ x, w5.alloc (.cells #[.int .u64 5, .slice (some ⟨g, 0, none⟩) 1 cg, .slice A5 i c5] 48) = x := ⟨_, rfl⟩
          obtain ⟨s9, hs⟩ : ∃ x, w5.heap.size = x := ⟨_, rfl⟩
          rw [hw] at hba hna
          rw [hw]
          (try rw [hs])
          rw [hs] at hna
          have Hs9 := Lib.hid hna
          have Kw6 := Lib.hid hba
          clear hw hs hba hna
          have HCR6 := Lib.hid (HCR5.out.below Kw6.out)
          have HGR6 := Lib.hid (HGR5.out.below Kw6.out)
          have WB6 := Lib.hid (WB5.out.trans (Kw6.out.mono WB5.out.size))
          clear HCR5 HGR5 WB5 Kw6
          have p0 := cell_of_row w6 s9 0 _ 48 _ Hs9.out
          have p1 := cell_of_row w6 s9 1 _ 48 _ Hs9.out
          have p2 := cell_of_row w6 s9 2 _ 48 _ Hs9.out
          simp at p0 p1 p2
          by_cases hk64 : i ≤ 64
          · have q1 : decide ((64 : Int) < (i : Int)) = false := decide_eq_false (by omega)
            have q2 : decide (64 < i) = false := decide_eq_false (by omega)
            have HK64 := Lib.hid hk64
            clear hk64
            have HOK : Hid (∀ (j : Nat) (q : GQ), (gsD i false)[j]? = some q → q.ok) := Lib.hid (fun j q h => by obtain ⟨h1, rfl⟩ := gsD_inv h; exact gd_ok _ (by have := HK70.out; omega) h1)
            have HLN : Hid ((gsD i false).length = i) := Lib.hid (gsD_len i false)
            obtain ⟨GS, hGS⟩ : ∃ GS, gsD i false = GS := ⟨_, rfl⟩
            have HGS2 := Lib.hid hGS
            rw [hGS] at HGR6 HOK HLN
            clear hGS
            go_wp2_with fail
            refine (Try.footPutG w6 5 (by decide) (by decide) HCR6.out colA_chk HGR6.out HOK.out HK64.out).mono ?_
            rintro x w7 ⟨A7, m7, c7, rfl, hp⟩
            have HDI := Lib.hid hp.di
            have HX7 := Lib.hid ((hp.be.block s9 (Go.NR.heap_lt Hs9.out)).trans Hs9.out)
            have HCR7 := Lib.hid (HCR6.out.below hp.be)
            have HGR7 := Lib.hid (HGR6.out.below hp.be)
            have WB7 := Lib.hid (WB6.out.trans (hp.be.mono WB6.out.size))
            clear hp p0 p1 p2 HCR6 HGR6 WB6 Hs9
            go_wp2_with fail
            refine (Try.footGetG w7 (by decide) (by decide) colA_chk (by rw [HLN.out]; exact HK64.out) HOK.out HDI.out).mono ?_
            rintro x w8 ⟨g8, cg8, A8, c8, rfl, hcr8, hgr8, hb8⟩
            have hl1 : colA.length = 1 := rfl
            have hl2 := HLN.out
            rw [hl1] at hcr8
            rw [hl2] at hgr8
            rw [hl1, hl2]
            clear hl1 hl2
            have HCR8 := Lib.hid hcr8
            have HGR8 := Lib.hid (hgr8.mono (Nat.zero_le _))
            have HX8 := Lib.hid ((hb8.block s9 (Go.NR.heap_lt HX7.out)).trans HX7.out)
            have HCR7b := Lib.hid (HCR7.out.below hb8)
            have HGR7b := Lib.hid (HGR7.out.below hb8)
            have WB8 := Lib.hid (WB7.out.trans (hb8.mono WB7.out.size))
            clear hcr8 hgr8 hb8 HX7 HCR7 HGR7 WB7 HDI q1 q2
            go_upto_region 17 with fail
            have hba := (Below.refl w8.heap.size w8).alloc (Nat.le_refl _) (.cells #[.int .u64 5, .slice (some ⟨g8, 0, none⟩) 1 cg8, .slice A8 i c8] 48)
            have hna := heap_alloc_new w8 (.cells #[.int .u64 5, .slice (some ⟨g8, 0, none⟩) 1 cg8, .slice A8 i c8] 48)
            obtain ⟨w9, hw⟩ : ∃ x, w8.alloc (.cells #[.int .u64 5, .slice (some ⟨g8, 0, none⟩) 1 cg8, .slice A8 i c8] 48) = x := ⟨_, rfl⟩
            obtain ⟨sx, hs⟩ : ∃ x, w8.heap.size = x := ⟨_, rfl⟩
            rw [hw] at hba hna
            rw [hw]
            (try rw [hs])
            rw [hs] at hna
            have Hsx := Lib.hid hna
            have Kw9 := Lib.hid hba
            clear hw hs hba hna
            have HCR9 := Lib.hid (HCR8.out.below Kw9.out)
            have HGR9 := Lib.hid (HGR8.out.below Kw9.out)
            have HX9 := Lib.hid ((Kw9.out.block s9 (Go.NR.heap_lt HX8.out)).trans HX8.out)
            have HCR := Lib.hid (HCR7b.out.below Kw9.out)
            have HGR := Lib.hid (HGR7b.out.below Kw9.out)
            have WB9 := Lib.hid (WB8.out.trans (Kw9.out.mono WB8.out.size))
            clear HCR8 HGR8 HX8 HCR7b HGR7b WB8 Kw9
            have p0 := cell_of_row w9 s9 0 _ 48 _ HX9.out
            have p1 := cell_of_row w9 s9 1 _ 48 _ HX9.out
            have p2 := cell_of_row w9 s9 2 _ 48 _ HX9.out
            have q0 := cell_of_row w9 sx 0 _ 48 _ Hsx.out
            have q1 := cell_of_row w9 sx 1 _ 48 _ Hsx.out
            have q2 := cell_of_row w9 sx 2 _ 48 _ Hsx.out
            simp at p0 p1 p2 q0 q1 q2
            go_wp2_with fail
            refine (Try.footSame w9 5 HCR9.out HCR.out (by decide) HGR9.out HGR.out (by have := HK64.out; omega)).mono ?_
            rintro x wa ⟨rfl, hba⟩
            have HXa := Lib.hid ((hba.block s9 (Go.NR.heap_lt HX9.out)).trans HX9.out)
            have HCRa := Lib.hid (HCR.out.below hba)
            have HGRa := Lib.hid (HGR.out.below hba)
            have WBa := Lib.hid (WB9.out.trans (hba.mono WB9.out.size))
            clear hba p0 p1 p2 q0 q1 q2 HCR9 HGR9 HX9 HCR HGR WB9 Hsx
            have p0 := cell_of_row wa s9 0 _ 48 _ HXa.out
            have p1 := cell_of_row wa s9 1 _ 48 _ HXa.out
            have p2 := cell_of_row wa s9 2 _ 48 _ HXa.out
            simp at p0 p1 p2
            have d1 := D1.out
            have d2 := D2.out
            have HGT : Hid (GRow wa 0 A5 i c5 (gsD i false)) := Lib.hid (by rw [HGS2.out]; exact HGRa.out)
            go_wp2_with fail
            refine (Try.usedG wa 5 (.slice (some ⟨g, 0, none⟩) 1 cg) rfl HGT.out (by have := HK70.out; omega)).mono ?_
            rintro x wb ⟨B, cb, rfl, hea, hbb⟩
            have HEA := Lib.hid hea
            have WBb := Lib.hid (WBa.out.trans (hbb.mono WBa.out.size))
            have HXb := Lib.hid ((hbb.block s9 (Go.NR.heap_lt HXa.out)).trans HXa.out)
            have HCRb := Lib.hid (HCRa.out.below hbb)
            have HGTb := Lib.hid (HGT.out.below hbb)
            have hcbm : cb ≤ maxLen := hea.max
            have hcbn : i ≤ cb := hea.le
            clear hea hbb d1 d2 p0 p1 p2 HXa HCRa HGT HGRa WBa HGS2 HOK HLN
            go_wp2_with fail
            go_loopw [15] (fun t W => ∃ j : Nat, j ≤ i ∧ t = .int .i64 j ∧ W = wb) (fun t _ => i - (intOf t).toNat)
            case atStart => exact ⟨0, Nat.zero_le _, rfl, rfl⟩
            case round =>
              obtain ⟨j, hj, rfl, rfl⟩ := hrel
              by_cases hlj : j < i
              · have d1 : decide ((j : Int) < (i : Int)) = true := decide_eq_true (by omega)
                have d1' : decide (j < i) = true := decide_eq_true hlj
                have hj70 : j < 70 := by have := HK70.out; omega
                obtain ⟨b', rfl, y1, y2⟩ := HEA.out.at' j _ (gsD_get hlj)
                simp [gd, gq] at y1 y2
                go_wp2_with fail
                exact ⟨⟨j + 1, hlj, rfl, by first | trivial | rfl⟩, by simp [intOf]; omega⟩
              · obtain rfl : j = i := by omega
                have d1 : decide ((j : Int) < (j : Int)) = false := by simp
                have d1' : decide (j < j) = false := by simp
                have hb9 := Go.NR.heap_lt HXb.out
                have p0 := cell_of_row _ s9 0 _ 48 _ HXb.out
                have p1 := cell_of_row _ s9 1 _ 48 _ HXb.out
                have p2 := cell_of_row _ s9 2 _ 48 _ HXb.out
                simp at p0 p1 p2
                have hj70 := HK70.out
                go_wp2_with fail
                refine (check_ok HCRb.out HGTb.out HK64.out 400 (by omega) (by decide) (by decide)).mono ?_
                rintro x wc ⟨rfl, hbc⟩
                have HXc := Lib.hid ((hbc.block s9 hb9).trans HXb.out)
                have HCRc := Lib.hid (HCRb.out.below hbc)
                have HGTc := Lib.hid (HGTb.out.below hbc)
                have WBc := Lib.hid (WBb.out.trans (hbc.mono WBb.out.size))
                clear hbc p0 p1 p2 hb9
                have hb9 := Go.NR.heap_lt HXc.out
                have p0 := cell_of_row _ s9 0 _ 48 _ HXc.out
                have p1 := cell_of_row _ s9 1 _ 48 _ HXc.out
                have p2 := cell_of_row _ s9 2 _ 48 _ HXc.out
                simp at p0 p1 p2
                go_wp2_with fail
                have hck := check_ok HCRc.out HGTc.out HK64.out (2 + 3 * j) (Nat.le_refl _) (by omega) (show (5 : Nat) ≠ 0 by decide)
                have he2 : ((2 + 3 * j : Nat) : Int) = 2 + 3 * (j : Int) := by omega
                rw [he2] at hck
                clear he2
                refine hck.mono ?_
                clear hck
                rintro x wd ⟨rfl, hbd⟩
                have HXd := Lib.hid ((hbd.block s9 hb9).trans HXc.out)
                have HCRd := Lib.hid (HCRc.out.below hbd)
                have HGTd := Lib.hid (HGTc.out.below hbd)
                have WBd := Lib.hid (WBc.out.trans (hbd.mono WBc.out.size))
                clear hbd p0 p1 p2 hb9
                by_cases hj0 : j = 0
                · subst hj0
                  go_wp2_with fail
                  refine (Try.threeC wd).mono ?_
                  rintro x we ⟨g3, c3, rfl, _, hbe⟩
                  have WBe := Lib.hid (WBd.out.trans (hbe.mono WBd.out.size))
                  clear hbe
                  go_wp2_with fail
                  go_ret
                  exact ⟨rfl, WBe.out⟩
                · have z1 : decide (j = 0) = false := decide_eq_false hj0
                  have z2 : ((j : Int) == 0) = false := by simpa using hj0
                  have hb9 := Go.NR.heap_lt HXd.out
                  have p0 := cell_of_row _ s9 0 _ 48 _ HXd.out
                  have p1 := cell_of_row _ s9 1 _ 48 _ HXd.out
                  have p2 := cell_of_row _ s9 2 _ 48 _ HXd.out
                  simp at p0 p1 p2
                  go_wp2_with fail
                  have hck := check_less HCRd.out HGTd.out HK64.out (by omega) (show (5 : Nat) ≠ 0 by decide)
                  have he2 : ((1 + 3 * j : Nat) : Int) = 1 + 3 * (j : Int) := by omega
                  rw [he2] at hck
                  clear he2
                  refine hck.mono ?_
                  clear hck
                  rintro x wx ⟨rfl, hbx⟩
                  have WBx := Lib.hid (WBd.out.trans (hbx.mono WBd.out.size))
                  clear hbx p0 p1 p2 hb9
                  go_wp2_with fail
                  refine (Try.threeC wx).mono ?_
                  rintro x we ⟨g3, c3, rfl, _, hbe⟩
                  have WBe := Lib.hid (WBx.out.trans (hbe.mono WBx.out.size))
                  clear hbe
                  go_wp2_with fail
                  go_ret
                  exact ⟨rfl, WBe.out⟩
          · have q1 : decide ((64 : Int) < (i : Int)) = true := decide_eq_true (by omega)
            have q2 : decide (64 < i) = true := decide_eq_true (by omega)
            have HK64 : Hid (64 < i) := Lib.hid (by omega)
            clear hk64
            go_wp2_with fail
            refine (Try.footPutLong w6 5 (by decide) (by decide) HCR6.out colA_chk HGR6.out HK64.out (by have := HK70.out; omega)).mono ?_
            rintro x w7 ⟨rfl, hp⟩
            have HX7 := Lib.hid ((hp.block s9 (Go.NR.heap_lt Hs9.out)).trans Hs9.out)
            have HCR7 := Lib.hid (HCR6.out.below hp)
            have WB7 := Lib.hid (WB6.out.trans (hp.mono WB6.out.size))
            clear hp p0 p1 p2 HCR6 HGR6 WB6 Hs9
            have p0 := cell_of_row w7 s9 0 _ 48 _ HX7.out
            have p1 := cell_of_row w7 s9 1 _ 48 _ HX7.out
            have p2 := cell_of_row w7 s9 2 _ 48 _ HX7.out
            simp at p0 p1 p2
            go_wp2_with fail
            refine (Try.footCheckLong w7 5 (by decide) HCR7.out A5 i c5 HK64.out (by have := HK70.out; omega) 400).mono ?_
            rintro x w8 ⟨rfl, hb8⟩
            have WB8 := Lib.hid (WB7.out.trans (hb8.mono WB7.out.size))
            clear hb8
            go_wp2_with fail
            go_ret
            exact ⟨rfl, WB8.out⟩
end Go.Proofs.Ytfblhcphbcghpaa
end
