/-
  Texts of a proof over the translated program: proved evaluators and walks, part 13 of 14.
-/
import Derived.Test.YtfblhcphbcghpaaPartM12
import Derived.Below
import Derived.Deep.Cut
import Derived.Deep.Draws
import Derived.Deep.OwnRows
import Derived.Deep.RegionHeld3
import Derived.Deep.RegionLaw
import Derived.Deep.RegionLawGrows
import Derived.Deep.RegionWith
import Derived.Handy
import Derived.IntWalk
import Derived.Laws.AppendOwn
import Derived.Laws.AppendOwnNone
import Derived.Laws.BitsLemmas
import Derived.Laws.BytesArg
import Derived.Laws.BytesString
import Derived.Laws.Closers25b
import Derived.Laws.CopyOwn
import Derived.Laws.MakeOwn
import Derived.Laws.OwnMore
import Derived.Laws.Rows
import Derived.Laws.StructEq
import Derived.Lib.AppendStr
import Derived.Lib.Hide
import Derived.Lib.SlBytesRow
import Derived.LoopTactic
import Derived.Outline
import Derived.OwnWalk
import Derived.Scope
import Derived.ScopeJumps
import Derived.Test.YtfblhcphbcghpaaProg
import Derived.WalkKit
import Derived.WalkMore
import Derived.WalkSpells
set_option linter.unusedVariables false
set_option linter.unusedSimpArgs false
set_option linter.unusedSectionVars false
set_option linter.unnecessarySimpa false
section
namespace Go.Proofs.Ytfblhcphbcghpaa
open Go.RowKit
open Go.NR (wpList_app At)
set_option maxRecDepth 100000
structure GQ.ok (q : GQ) : Prop where
  a : q.a ≤ 1024
  n : q.n ≤ 1024
  r : 1 ≤ q.r
  r2 : q.r ≤ 64
  l : q.lo ≤ q.hi
  h : q.hi ≤ 1000
def groupB (q : GQ) : List UInt8 := encN q.r ++ (encN 1 ++ chunkB q.a q.n q.r q.lo q.hi)
theorem groupB_le (q : GQ) : (groupB q).length ≤ 90 := by
  have h1 := encN_in q.r
  have h2 := encN_in 1
  have h3 := chunkB_le q.a q.n q.r q.lo q.hi
  unfold groupB
  simp only [List.length_append]
  omega
def gpart (X C : List UInt8) (i : Nat) : List UInt8 := if i = 0 then X else X ++ C
theorem PB.app {w w1 w2 : World} {l l' : List UInt8} {A : Option Addr} {m c : Nat} {v' : Value} (h : PB w l A m c w1) (hg : w1.grownBy w2 (Value.slice A m c).ownBlock) (ho : w2.ownsRow w.heap.size 5 1 v' (l.length + l'.length) (l.map u8v ++ l'.map u8v)) : ∃ A' m' c', v' = .slice A' m' c' ∧ PB w (l ++ l') A' m' c' w2 := by
  have hp : BB w (l ++ l') v' w2 := BB.grow ⟨h.ob, h.be⟩ hg ho
  exact PB.of hp.ob hp.be
theorem PB.src {w w1 : World} {l : List UInt8} {A : Option Addr} {m c : Nat} (h : PB w l A m c w1) (hl : l ≠ []) : ∃ g, A = some ⟨g, 0, none⟩ ∧ At w1 g (l.map u8v) ∧ w.heap.size ≤ g ∧ g < w1.heap.size := by
  have hn : l.length ≠ 0 := fun e => hl (List.length_eq_zero_iff.1 e)
  obtain ⟨g, c', e, hb, hlt, _, _, hc, _⟩ := Go.NR.own_at h.ob hn
  cases e
  refine ⟨g, rfl, fun t u hu => ?_, hb, hlt⟩
  have : t < l.length := by have := (List.getElem?_eq_some_iff.1 hu).1; simpa using this
  rw [hc t (by omega), hu]
set_option maxHeartbeats 8000000 in
theorem Try.groupPut (w : World) (q : GQ) (hq : q.ok) {g c : Nat} (hG : G1 w 0 g c q.k) :
    Calls Try.prog 25 #[.slice none 0 0, .agg #[.int .i64 q.r, .slice (some ⟨g, 0, none⟩) 1 c]] w fun x w' => ∃ A' m' c', x = .returned (.tuple #[.slice A' m' c', .int .i64 0]) ∧ PB w (groupB q) A' m' c' w' := by
  have hb1 := ((Below.refl _ w).alloc (Nat.le_refl _) (.cells #[.int .i64 q.r, .slice (some ⟨g, 0, none⟩) 1 c] 79))
  have hn1 := heap_alloc_new w (.cells #[.int .i64 q.r, .slice (some ⟨g, 0, none⟩) 1 c] 79)
  obtain ⟨w1, hw1⟩ : ∃ w1, w.alloc (.cells #[.int .i64 q.r, .slice (some ⟨g, 0, none⟩) 1 c] 79) = w1 := ⟨_, rfl⟩
  obtain ⟨sx, hsx⟩ : ∃ sx, w.heap.size = sx := ⟨_, rfl⟩
  rw [hw1] at hb1 hn1
  have HG := Lib.hid (hG.below (q := q) hb1)
  have HSX : Hid (sx = w.heap.size) := Lib.hid hsx.symm
  rw [hsx] at hn1
  have WB := Lib.hid hb1
  have HX := Lib.hid hn1
  have HQ := Lib.hid hq
  obtain ⟨qa, qn, qr, qlo, qhi⟩ := q
  have hr1 := hq.r
  have hr2 := hq.r2
  dsimp only at *
  have hcm : c ≤ maxLen := hG.2.2.1
  have hc1 : 1 ≤ c := hG.2.1
  clear hb1 hn1 hq hG
  go_enter Try.func25, Try.ntmps25
  go_wp2
  (try rw [hw1])
  (try rw [hsx])
  clear hw1 hsx
  have U0 := Lib.hid (cell_of_row w1 sx 0 _ 79 _ HX.out)
  have U1 := Lib.hid (cell_of_row w1 sx 1 _ 79 _ HX.out)
  have HWR : Hid (IntKind.u64.wrap (qr : Int) = (qr : Int)) := Lib.hid (by rw [IntKind.wrap_u64]; omega)
  have HW1 : Hid (IntKind.u64.wrap 1 = 1) := Lib.hid (by rw [IntKind.wrap_u64]; rfl)
  obtain ⟨X, hX⟩ : ∃ X, encN qr ++ encN 1 = X := ⟨_, rfl⟩
  have HXX := Lib.hid hX
  clear hX
  refine Go.NR.wp_scope_once 0 (fun a' wr => ∃ (i : Nat) (A : Option Addr) (m cv : Nat), i ≤ 1 ∧ Hid (PB w1 (gpart X (chunkB qa qn qr qlo qhi) i) A m cv wr) ∧ ∃ u2 u8 u9 u10 u11 u12 u13 u14 u15 u16 u17 u18 u19 u20 u21 u22 u23 u24 u25 u26 u27 u28 u29 u30 u31 u32 u33 u34 u35 u36 u37 u38 u39 u40 u41 u42 u43 u44 u45 u46 u47 u48 u49 u50 u51 u52 u53 u54 u55 u56 : Value, a' = { tmps := #[.slice none 0 0, .agg #[.int .i64 qr, .slice (some ⟨g, 0, none⟩) 1 c], u2, .pointer (some ⟨sx, 0, none⟩), .slice none 0 0, .int .i64 0, .slice A m cv, .int .i64 i, u8, u9, u10, u11, u12, u13, u14, u15, u16, u17, u18, u19, u20, u21, u22, u23, u24, u25, u26, u27, u28, u29, u30, u31, u32, u33, u34, u35, u36, u37, u38, u39, u40, u41, u42, u43, u44, u45, u46, u47, u48, u49, u50, u51, u52, u53, u54, u55, u56], defers := [] }) (fun a' _ => 2 - (intOf (a'.tmps.getD 7 undef)).toNat) rfl ?_ ?_
  · intro hJ
    go_upto_region 1 with fail
    have PBN : Hid (PB w1 [] none 0 0 w1.drew) := Lib.hid ((PB.nil w1).drew)
    refine wp_region_noPanic ?_
    refine wp_region_held_drew (S := (fun W => W.cell? ⟨sx, 0, none⟩ = some (.int .i64 qr) ∧ W.cell? ⟨sx, 1, none⟩ = some (.slice (some ⟨g, 0, none⟩) 1 c))) (by kernel_rfl) ?_ (fun hHeld => ?_)
    · exact ⟨U0.out, U1.out⟩
    refine wpAnyH_take (i := 0) (oi := { dst := some 10, op := Op.move (Operand.tmp 0), type := 50, pos := "group.go:138", after := #[], guard := none }) (v := ?_) rfl (by kernel_rfl) (by kernel_rfl) (by kernel_rfl) (fun _ _ _ h => h) (Or.inl ⟨by rfl, ?_⟩) (by assumption) ?_
    rotate_left
    · (intro w hSw; (try dsimp only at hSw); go_simp; try with_reducible rfl)
    try simp only [Act.put, List.setIfInBounds_toArray, List.set_cons_zero, List.set_cons_succ]
    refine wpAnyH_take (i := 1) (oi := { dst := some 11, op := Op.fieldAddr 79 (Operand.tmp 3) 0, type := 0, pos := "group.go:138", after := #[], guard := none }) (v := ?_) rfl (by kernel_rfl) (by kernel_rfl) (by kernel_rfl) (fun _ _ _ h => h) (Or.inl ⟨by rfl, ?_⟩) (by assumption) ?_
    rotate_left
    · (intro w hSw; (try dsimp only at hSw); go_simp; try with_reducible rfl)
    try simp only [Act.put, List.setIfInBounds_toArray, List.set_cons_zero, List.set_cons_succ]
    refine wpAnyH_take (i := 2) (oi := { dst := some 12, op := Op.load 3 (Operand.tmp 11), type := 3, pos := "group.go:138", after := #[{ on := 1, ground := Ground.data }], guard := none }) (v := ?_) rfl (by kernel_rfl) (by kernel_rfl) (by kernel_rfl) (fun _ _ _ h => h) (Or.inl ⟨by rfl, ?_⟩) (by assumption) ?_
    rotate_left
    · (intro w hSw; (try dsimp only at hSw); go_simp; try with_reducible rfl)
    try simp only [Act.put, List.setIfInBounds_toArray, List.set_cons_zero, List.set_cons_succ]
    refine wpAnyH_take (i := 3) (oi := { dst := some 13, op := Op.convert 3 23 (Operand.tmp 12), type := 23, pos := "group.go:138", after := #[{ on := 2, ground := Ground.data }], guard := none }) (v := ?_) rfl (by kernel_rfl) (by kernel_rfl) (by kernel_rfl) (fun _ _ _ h => h) (Or.inl ⟨by rfl, ?_⟩) (by assumption) ?_
    rotate_left
    · (intro w hSw; (try dsimp only at hSw); go_simp; try with_reducible rfl)
    try simp only [Act.put, List.setIfInBounds_toArray, List.set_cons_zero, List.set_cons_succ]
    refine wpAnyH_take (i := 5) (oi := { dst := some 15, op := Op.fieldAddr 79 (Operand.tmp 3) 1, type := 0, pos := "group.go:138", after := #[], guard := none }) (v := ?_) rfl (by kernel_rfl) (by kernel_rfl) (by kernel_rfl) (fun _ _ _ h => h) (Or.inl ⟨by rfl, ?_⟩) (by assumption) ?_
    rotate_left
    · (intro w hSw; (try dsimp only at hSw); go_simp; try with_reducible rfl)
    try simp only [Act.put, List.setIfInBounds_toArray, List.set_cons_zero, List.set_cons_succ]
    refine wpAnyH_take (i := 6) (oi := { dst := some 16, op := Op.load 77 (Operand.tmp 15), type := 77, pos := "group.go:138", after := #[{ on := 5, ground := Ground.data }], guard := none }) (v := ?_) rfl (by kernel_rfl) (by kernel_rfl) (by kernel_rfl) (fun _ _ _ h => h) (Or.inl ⟨by rfl, ?_⟩) (by assumption) ?_
    rotate_left
    · (intro w hSw; (try dsimp only at hSw); go_simp; try with_reducible rfl)
    try simp only [Act.put, List.setIfInBounds_toArray, List.set_cons_zero, List.set_cons_succ]
    refine wpAnyH_take (i := 7) (oi := { dst := some 17, op := Op.call { callee := Callee.builtin Builtin.len, args := #[Operand.tmp 16], argTypes := #[77] }, type := 3, pos := "group.go:138", after := #[{ on := 6, ground := Ground.data }], guard := none }) (v := ?_) rfl (by kernel_rfl) (by kernel_rfl) (by kernel_rfl) (fun _ _ _ h => h) (Or.inl ⟨by rfl, ?_⟩) (by assumption) ?_
    rotate_left
    · (intro w hSw; (try dsimp only at hSw); go_simp; try with_reducible rfl)
    try simp only [Act.put, List.setIfInBounds_toArray, List.set_cons_zero, List.set_cons_succ]
    refine wpAnyH_take (i := 8) (oi := { dst := some 18, op := Op.convert 3 23 (Operand.tmp 17), type := 23, pos := "group.go:138", after := #[{ on := 7, ground := Ground.data }], guard := none }) (v := ?_) rfl (by kernel_rfl) (by kernel_rfl) (by kernel_rfl) (fun _ _ _ h => h) (Or.inl ⟨by rfl, ?_⟩) (by assumption) ?_
    rotate_left
    · (intro w hSw; (try dsimp only at hSw); go_simp; try with_reducible rfl)
    try simp only [Act.put, List.setIfInBounds_toArray, List.set_cons_zero, List.set_cons_succ]
    refine wpAnyH_ready (rs := [4]) (by kernel_rfl) (by simp) ?_
    refine AllReadyH.cons (o := { dst := some 14, op := Op.call { callee := Callee.value (Operand.func 24), args := #[Operand.tmp 10, Operand.tmp 13], argTypes := #[50, 23] }, type := 50, pos := "group.go:138", after := #[{ on := 0, ground := Ground.data }, { on := 3, ground := Ground.data }], guard := none }) rfl (fun K hK => ?_) AllReadyH.nil
    go_simp
    (try rw [HWR.out])
    (try rw [HW1.out])
    refine (PBN.out.put (by have h1 := encN_in qr; simp only [List.length_append, List.length_nil]; omega) (qr) (by omega)).mono ?_
    rintro x w2 ⟨A2, m2, c2, rfl, h2, hb2⟩
    have P2 := Lib.hid h2
    have K2 : Hid (Below w1.heap.size w1 w2) := Lib.hid ((Below.refl _ w1).drew.trans hb2)
    clear h2 hb2
    refine hK.out _ _ ?_ (fun hHeld => ?_)
    · exact ⟨cellW U0.out K2.out, cellW U1.out K2.out⟩
    clear hK K
    try simp only [Act.put, List.setIfInBounds_toArray, List.set_cons_zero, List.set_cons_succ]
    refine wpAnyH_ready (rs := [9]) (by kernel_rfl) (by simp) ?_
    refine AllReadyH.cons (o := { dst := some 19, op := Op.call { callee := Callee.value (Operand.func 24), args := #[Operand.tmp 14, Operand.tmp 18], argTypes := #[50, 23] }, type := 50, pos := "group.go:138", after := #[{ on := 4, ground := Ground.data }, { on := 8, ground := Ground.data }, { on := 4, ground := Ground.chain }], guard := none }) rfl (fun K hK => ?_) AllReadyH.nil
    go_simp
    (try rw [HWR.out])
    (try rw [HW1.out])
    refine (P2.out.put (by have h1 := encN_in qr; simp only [List.length_append, List.length_nil]; omega) (1) (by decide)).mono ?_
    rintro x w3 ⟨A3, m3, c3, rfl, h3, hb3⟩
    have P3 := Lib.hid h3
    have K3 : Hid (Below w1.heap.size w1 w3) := Lib.hid (K2.out.trans (hb3.mono K2.out.size))
    clear h3 hb3
    refine hK.out _ _ ?_ (fun hHeld => ?_)
    · exact ⟨cellW U0.out K3.out, cellW U1.out K3.out⟩
    clear hK K
    try simp only [Act.put, List.setIfInBounds_toArray, List.set_cons_zero, List.set_cons_succ]
    refine wpAnyH_take (i := 10) (oi := { dst := some 6, op := Op.assign (Operand.tmp 19), type := 50, pos := "group.go:138", after := #[{ on := 9, ground := Ground.data }, { on := 9, ground := Ground.chain }, { on := 0, ground := Ground.phase }, { on := 1, ground := Ground.phase }, { on := 2, ground := Ground.phase }, { on := 3, ground := Ground.phase }, { on := 4, ground := Ground.phase }, { on := 5, ground := Ground.phase }, { on := 6, ground := Ground.phase }, { on := 7, ground := Ground.phase }, { on := 8, ground := Ground.phase }, { on := 9, ground := Ground.phase }], guard := none }) (v := ?_) rfl (by kernel_rfl) (by kernel_rfl) (by kernel_rfl) (fun _ _ _ h => h) (Or.inl ⟨by rfl, ?_⟩) (by assumption) ?_
    rotate_left
    · (intro w hSw; (try dsimp only at hSw); go_simp; try with_reducible rfl)
    try simp only [Act.put, List.setIfInBounds_toArray, List.set_cons_zero, List.set_cons_succ]
    refine wpAnyH_done (by kernel_rfl) ?_ _
    refine NoPanic.normal ?_
    clear U0 U1 K2 P2 hHeld
    have V0 := cellW (cell_of_row w1 sx 0 _ 79 _ HX.out) K3.out
    have V1 := cellW (cell_of_row w1 sx 1 _ 79 _ HX.out) K3.out
    simp at V0 V1
    go_wp2_with fail
    refine (Try.rowsMay qr hr1 hr2 w3).mono ?_
    rintro x w4 ⟨rfl, hw4⟩
    rw [hw4]
    clear hw4 w4 V0 V1
    have P3' : Hid (PB w1 (gpart X (chunkB qa qn qr qlo qhi) 0) A3 m3 c3 w3) := Lib.hid (by
      have h := P3.out
      rw [List.nil_append, HXX.out] at h
      exact h)
    clear P3 K3
    go_wp2_with (refine wp_label ?_; rename_i Q0 K0 hK; refine hK _ _ (hJ _ _ ?_); exact ⟨0, A3, m3, c3, Nat.zero_le _, P3', _, _, _, _, _, _, _, _, _, _, _, _, _, _, _, _, _, _, _, _, _, _, _, _, _, _, _, _, _, _, _, _, _, _, _, _, _, _, _, _, _, _, _, _, _, _, _, _, _, _, rfl⟩)
  · rintro a' wr ⟨i, A, m, cv, hi, HP, u2, u8, u9, u10, u11, u12, u13, u14, u15, u16, u17, u18, u19, u20, u21, u22, u23, u24, u25, u26, u27, u28, u29, u30, u31, u32, u33, u34, u35, u36, u37, u38, u39, u40, u41, u42, u43, u44, u45, u46, u47, u48, u49, u50, u51, u52, u53, u54, u55, u56, rfl⟩
    have V1 := cellW (cell_of_row w1 sx 1 _ 79 _ HX.out) HP.out.be
    simp at V1
    have h01 : i = 0 ∨ i = 1 := by omega
    rcases h01 with rfl | rfl
    · have HGw := Lib.hid (HG.out.below HP.out.be)
      have W0 : wr.cell? ⟨g, 0, none⟩ = some (.int .i64 qa) := HGw.out.2.2.2 0 _ rfl
      have W1 : wr.cell? ⟨g, 1, none⟩ = some (.int .i64 qn) := HGw.out.2.2.2 1 _ rfl
      have W2 : wr.cell? ⟨g, 2, none⟩ = some (.int .i64 1) := HGw.out.2.2.2 2 _ rfl
      have W3 : wr.cell? ⟨g, 3, none⟩ = some (.int .i64 qr) := HGw.out.2.2.2 3 _ rfl
      have W4 : wr.cell? ⟨g, 4, none⟩ = some (.int .i64 0) := HGw.out.2.2.2 4 _ rfl
      have W5 : wr.cell? ⟨g, 5, none⟩ = some (.int .i64 1) := HGw.out.2.2.2 5 _ rfl
      have W6 : wr.cell? ⟨g, 6, none⟩ = some (.int .i64 qlo) := HGw.out.2.2.2 6 _ rfl
      have W7 : wr.cell? ⟨g, 7, none⟩ = some (.string ⟨#[]⟩) := HGw.out.2.2.2 7 _ rfl
      have W8 : wr.cell? ⟨g, 8, none⟩ = some (.complex .f64 0 0) := HGw.out.2.2.2 8 _ rfl
      have W9 : wr.cell? ⟨g, 9, none⟩ = some (.int .i64 1) := HGw.out.2.2.2 9 _ rfl
      have W10 : wr.cell? ⟨g, 10, none⟩ = some (.int .i64 qhi) := HGw.out.2.2.2 10 _ rfl
      have W11 : wr.cell? ⟨g, 11, none⟩ = some (.string ⟨#[]⟩) := HGw.out.2.2.2 11 _ rfl
      have W12 : wr.cell? ⟨g, 12, none⟩ = some (.complex .f64 0 0) := HGw.out.2.2.2 12 _ rfl
      have W13 : wr.cell? ⟨g, 13, none⟩ = some (.complex .f64 0 0) := HGw.out.2.2.2 13 _ rfl
      have W14 : wr.cell? ⟨g, 14, none⟩ = some (.complex .f64 0 0) := HGw.out.2.2.2 14 _ rfl
      go_wp2_with fail
      refine (Try.putChunk wr qa qn qr qlo qhi HQ.out.a HQ.out.n hr1 hr2 HQ.out.l HQ.out.h).mono ?_
      rintro x w5 ⟨A5, m5, c5, rfl, h5⟩
      have P5 := Lib.hid h5
      have PA : Hid (PB w1 X A m cv w5) := Lib.hid (HP.out.below h5.be)
      obtain ⟨g5, hA5, hat5, hg5, hg5'⟩ := h5.src (by unfold chunkB statB; simp)
      subst hA5
      have HAT := Lib.hid hat5
      have HL5 : Hid ((chunkB qa qn qr qlo qhi).length = m5) := Lib.hid h5.len
      have HLX : Hid (X.length ≤ 20) := Lib.hid (by have h1 := encN_in qr; have h2 := encN_in 1; rw [← HXX.out, List.length_append]; omega)
      have HC5 := Lib.hid (chunkB_le qa qn qr qlo qhi)
      clear h5 hat5 hg5 hg5' HP V1 W0 W1 W2 W3 W4 W5 W6 W7 W8 W9 W10 W11 W12 W13 W14
      go_wp2_with (refine wpList_app Try.E50 rfl (.tmp 52) (.tmp 53) rfl w1.heap.size (.slice A m cv) X.length (X.map u8v) rfl PA.out.ob g5 m5 c5 ((chunkB qa qn qr qlo qhi).map u8v) rfl (by rw [List.length_map, HL5.out, Nat.mul_one]) HAT.out (u8v_one _) (by have h1 := HLX.out; have h3 := HC5.out; have h4 := HL5.out; omega) PA.out.be.size ?_)
      intro v6 w6 o6 gr6
      rw [← HL5.out] at o6
      obtain ⟨A6, m6, c6, rfl, h6⟩ := PA.out.app gr6 o6
      have P6 : Hid (PB w1 (gpart X (chunkB qa qn qr qlo qhi) 1) A6 m6 c6 w6) := Lib.hid h6
      clear o6 gr6 h6 PA P5
      go_wp2
      go_step3
      exact ⟨rfl, ⟨1, A6, m6, c6, Nat.le_refl _, P6, _, _, _, _, _, _, _, _, _, _, _, _, _, _, _, _, _, _, _, _, _, _, _, _, _, _, _, _, _, _, _, _, _, _, _, _, _, _, _, _, _, _, _, _, _, _, _, _, _, _, rfl⟩, by simp [intOf]⟩
    · have PF : Hid (PB w (groupB ⟨qa, qn, qr, qlo, qhi⟩) A m cv wr) := Lib.hid (by
        have h := HP.out.mono WB.out
        rw [show groupB ⟨qa, qn, qr, qlo, qhi⟩ = gpart (encN qr ++ encN 1) (chunkB qa qn qr qlo qhi) 1 by simp [groupB, gpart], HXX.out]
        exact h)
      clear HP
      go_wp2_with fail
      (try simp only [Exit.jump])
      go_ret2
      exact ⟨_, _, _, rfl, PF.out⟩
end Go.Proofs.Ytfblhcphbcghpaa
end

section
namespace Go.Proofs.Ytfblhcphbcghpaa
open Go.RowKit
open Go.NR (wpList_app At)
set_option maxRecDepth 100000
def gsB (gs : List GQ) : List UInt8 := gs.flatMap groupB
theorem gsB_next {gs : List GQ} {i : Nat} {q : GQ} (h : gs[i]? = some q) : gsB (gs.take (i + 1)) = gsB (gs.take i) ++ groupB q := by
  rw [take_snoc h]
  simp [gsB]
theorem gsB_le (gs : List GQ) : (gsB gs).length ≤ 90 * gs.length := by
  induction gs with
  | nil => simp [gsB]
  | cons q gs ih =>
    have h := groupB_le q
    have e : gsB (q :: gs) = groupB q ++ gsB gs := rfl
    rw [e, List.length_append, List.length_cons]
    omega
def footG (e : Nat) (cs : List (List UInt8 × Int)) (gs : List GQ) : List UInt8 := encN e ++ schB cs ++ encN gs.length ++ gsB gs
set_option maxHeartbeats 16000000 in
theorem Try.footPutG (w : World) (e : Nat) (he : e < 18446744073709551616) (he0 : e ≠ 0) {A2 : Option Addr} {n2 c2 : Nat} {cs : List (List UInt8 × Int)} (hC : CR w A2 n2 c2 cs) (hok : chk cs = 0) {A : Option Addr} {n c : Nat} {gs : List GQ} (hG : GRow w 0 A n c gs) (hq : ∀ (j : Nat) (q : GQ), gs[j]? = some q → q.ok) (hn : n ≤ 64) :
    Calls Try.prog 7 #[.agg #[.int .u64 e, .slice A2 n2 c2, .slice A n c]] w fun x w' => ∃ A' m' c', x = .returned (.tuple #[.slice A' m' c', .int .i64 0]) ∧ PB w (footG e cs gs) A' m' c' w' := by
  have HQ := Lib.hid hq
  have HLN := Lib.hid hG.len
  have hcm : c ≤ maxLen := hG.max
  have hnc : n ≤ c := hG.le
  clear hq
  have HE := Lib.hid he
  have HC := Lib.hid hC
  have HOK := Lib.hid hok
  have HEL := Lib.hid (encN_in e)
  have d0 : ((e : Int) == 0) = false := by simpa using he0
  have d0' : decide ((e : Int) = 0) = false := decide_eq_false (by omega)
  have hb := (Below.refl _ w).alloc (Nat.le_refl _) (.cells #[.int .u64 e, .slice A2 n2 c2, .slice A n c] 48)
  have hnew := heap_alloc_new w (.cells #[.int .u64 e, .slice A2 n2 c2, .slice A n c] 48)
  have HG := Lib.hid hG
  have HN := Lib.hid hn
  clear hC hok he he0 hG
  go_enter Try.func7, Try.ntmps7
  go_upto_region 3 with fail
  obtain ⟨wa, hwa⟩ : ∃ wa, w.alloc (.cells #[.int .u64 e, .slice A2 n2 c2, .slice A n c] 48) = wa := ⟨_, rfl⟩
  obtain ⟨bx, hbx⟩ : ∃ bx, w.heap.size = bx := ⟨_, rfl⟩
  rw [hwa] at hb hnew
  rw [hbx] at hnew
  rw [hwa, hbx]
  have V0 := Lib.hid (cell_of_row wa bx 0 _ 48 _ hnew)
  have V1 := Lib.hid (cell_of_row wa bx 1 _ 48 _ hnew)
  have V2 := Lib.hid (cell_of_row wa bx 2 _ 48 _ hnew)
  have WB := Lib.hid hb
  clear hwa hb hnew d0 d0' hbx
  refine wp_region_noPanic ?_
  refine wp_region_held_drew (S := (fun W => W.cell? ⟨bx, 0, none⟩ = some (.int .u64 e) ∧ W.cell? ⟨bx, 1, none⟩ = some (.slice A2 n2 c2))) (by kernel_rfl) ?_ (fun hHeld => ?_)
  · exact ⟨V0.out, V1.out⟩
  refine wpAnyH_take (i := 0) (oi := { dst := some 14, op := Op.fieldAddr 48 (Operand.tmp 1) 0, type := 0, pos := "foot.go:75", after := #[], guard := none }) (v := ?_) rfl (by kernel_rfl) (by kernel_rfl) (by kernel_rfl) (fun _ _ _ h => h) (Or.inl ⟨by rfl, ?_⟩) (by assumption) ?_
  rotate_left
  · (intro w hSw; (try dsimp only at hSw); go_simp; try with_reducible rfl)
  try simp only [Act.put, List.setIfInBounds_toArray, List.set_cons_zero, List.set_cons_succ]
  refine wpAnyH_take (i := 1) (oi := { dst := some 15, op := Op.load 23 (Operand.tmp 14), type := 23, pos := "foot.go:75", after := #[{ on := 0, ground := Ground.data }], guard := none }) (v := ?_) rfl (by kernel_rfl) (by kernel_rfl) (by kernel_rfl) (fun _ _ _ h => h) (Or.inl ⟨by rfl, ?_⟩) (by assumption) ?_
  rotate_left
  · (intro w hSw; (try dsimp only at hSw); go_simp; try with_reducible rfl)
  try simp only [Act.put, List.setIfInBounds_toArray, List.set_cons_zero, List.set_cons_succ]
  refine wpAnyH_take (i := 3) (oi := { dst := some 17, op := Op.fieldAddr 48 (Operand.tmp 1) 1, type := 0, pos := "foot.go:75", after := #[], guard := none }) (v := ?_) rfl (by kernel_rfl) (by kernel_rfl) (by kernel_rfl) (fun _ _ _ h => h) (Or.inl ⟨by rfl, ?_⟩) (by assumption) ?_
  rotate_left
  · (intro w hSw; (try dsimp only at hSw); go_simp; try with_reducible rfl)
  try simp only [Act.put, List.setIfInBounds_toArray, List.set_cons_zero, List.set_cons_succ]
  refine wpAnyH_take (i := 4) (oi := { dst := some 18, op := Op.load 45 (Operand.tmp 17), type := 45, pos := "foot.go:75", after := #[{ on := 3, ground := Ground.data }], guard := none }) (v := ?_) rfl (by kernel_rfl) (by kernel_rfl) (by kernel_rfl) (fun _ _ _ h => h) (Or.inl ⟨by rfl, ?_⟩) (by assumption) ?_
  rotate_left
  · (intro w hSw; (try dsimp only at hSw); go_simp; try with_reducible rfl)
  try simp only [Act.put, List.setIfInBounds_toArray, List.set_cons_zero, List.set_cons_succ]
  refine wpAnyH_ready (rs := [2]) (by kernel_rfl) (by simp) ?_
  refine AllReadyH.cons (o := { dst := some 16, op := Op.call { callee := Callee.value (Operand.func 24), args := #[Operand.const (Value.slice none 0 0), Operand.tmp 15], argTypes := #[50, 23] }, type := 50, pos := "foot.go:75", after := #[{ on := 1, ground := Ground.data }], guard := none }) rfl (fun K hK => ?_) AllReadyH.nil
  go_simp
  refine (Try.put _ (di_nil _) (by omega) e HE.out).mono ?_
  rintro x3 w3 ⟨v3, rfl, ho3, hb3⟩
  rw [List.nil_append] at ho3
  have B3 : Hid (BB wa (encN e) v3 w3) := Lib.hid ⟨ho3, (Below.refl _ wa).drew.trans hb3⟩
  have HC3 : Hid (CR w3 A2 n2 c2 cs) := Lib.hid (HC.out.below (WB.out.trans (B3.out.be.mono WB.out.size)))
  obtain ⟨A3, c3, hv3, hd3⟩ := ho3.di
  subst hv3
  have D3 := Lib.hid hd3
  clear ho3 hb3 hd3
  refine hK.out _ _ ?_ (fun hHeld => ?_)
  · exact ⟨cellW V0.out B3.out.be, cellW V1.out B3.out.be⟩
  clear hK K
  try simp only [Act.put, List.setIfInBounds_toArray, List.set_cons_zero, List.set_cons_succ]
  refine wpAnyH_ready (rs := [5]) (by kernel_rfl) (by simp) ?_
  refine AllReadyH.cons (o := { dst := some 19, op := Op.call { callee := Callee.value (Operand.func 23), args := #[Operand.tmp 16, Operand.tmp 18], argTypes := #[50, 45] }, type := 52, pos := "foot.go:75", after := #[{ on := 2, ground := Ground.data }, { on := 4, ground := Ground.data }, { on := 2, ground := Ground.chain }], guard := none }) rfl (fun K hK => ?_) AllReadyH.nil
  go_simp
  refine (Try.schPut _ D3.out HEL.out.1 (by have := HEL.out; omega) HC3.out HOK.out).mono ?_
  rintro x4 w4 ⟨v4, rfl, h4⟩
  have B4 : Hid (BB wa (encN e ++ schB cs) v4 w4) := Lib.hid (B3.out.call h4.be h4.ob)
  clear h4
  refine hK.out _ _ ?_ (fun hHeld => ?_)
  · exact ⟨cellW V0.out B4.out.be, cellW V1.out B4.out.be⟩
  clear hK K
  try simp only [Act.put, List.setIfInBounds_toArray, List.set_cons_zero, List.set_cons_succ]
  refine wpAnyH_take (i := 6) (oi := { dst := some 13, op := Op.move (Operand.tmp 19), type := 52, pos := "foot.go:75", after := #[{ on := 5, ground := Ground.data }], guard := none }) (v := ?_) rfl (by kernel_rfl) (by kernel_rfl) (by kernel_rfl) (fun _ _ _ h => h) (Or.inl ⟨by rfl, ?_⟩) (by assumption) ?_
  rotate_left
  · (intro w hSw; (try dsimp only at hSw); go_simp; try with_reducible rfl)
  try simp only [Act.put, List.setIfInBounds_toArray, List.set_cons_zero, List.set_cons_succ]
  refine wpAnyH_take (i := 7) (oi := { dst := some 20, op := Op.extract (Operand.tmp 13) 0, type := 50, pos := "foot.go:75", after := #[{ on := 6, ground := Ground.data }], guard := none }) (v := ?_) rfl (by kernel_rfl) (by kernel_rfl) (by kernel_rfl) (fun _ _ _ h => h) (Or.inl ⟨by rfl, ?_⟩) (by assumption) ?_
  rotate_left
  · (intro w hSw; (try dsimp only at hSw); go_simp; try with_reducible rfl)
  try simp only [Act.put, List.setIfInBounds_toArray, List.set_cons_zero, List.set_cons_succ]
  refine wpAnyH_take (i := 8) (oi := { dst := some 21, op := Op.extract (Operand.tmp 13) 1, type := 51, pos := "foot.go:75", after := #[{ on := 6, ground := Ground.data }, { on := 9, ground := Ground.gcOnly Departure.lateStores }], guard := none }) (v := ?_) rfl (by kernel_rfl) (by kernel_rfl) (by kernel_rfl) (fun _ _ _ h => h) (Or.inl ⟨by rfl, ?_⟩) (by assumption) ?_
  rotate_left
  · (intro w hSw; (try dsimp only at hSw); go_simp; try with_reducible rfl)
  try simp only [Act.put, List.setIfInBounds_toArray, List.set_cons_zero, List.set_cons_succ]
  refine wpAnyH_take (i := 9) (oi := { dst := some 4, op := Op.assign (Operand.tmp 20), type := 50, pos := "foot.go:75", after := #[{ on := 7, ground := Ground.data }, { on := 5, ground := Ground.chain }, { on := 0, ground := Ground.phase }, { on := 1, ground := Ground.phase }, { on := 2, ground := Ground.phase }, { on := 3, ground := Ground.phase }, { on := 4, ground := Ground.phase }, { on := 5, ground := Ground.phase }, { on := 6, ground := Ground.phase }, { on := 7, ground := Ground.phase }, { on := 8, ground := Ground.textOnly Departure.lateStores }], guard := none }) (v := ?_) rfl (by kernel_rfl) (by kernel_rfl) (by kernel_rfl) (fun _ _ _ h => h) (Or.inl ⟨by rfl, ?_⟩) (by assumption) ?_
  rotate_left
  · (intro w hSw; (try dsimp only at hSw); go_simp; try with_reducible rfl)
  try simp only [Act.put, List.setIfInBounds_toArray, List.set_cons_zero, List.set_cons_succ]
  refine wpAnyH_take (i := 10) (oi := { dst := some 5, op := Op.assign (Operand.tmp 21), type := 51, pos := "foot.go:75", after := #[{ on := 8, ground := Ground.data }, { on := 9, ground := Ground.chain }, { on := 0, ground := Ground.phase }, { on := 1, ground := Ground.phase }, { on := 2, ground := Ground.phase }, { on := 3, ground := Ground.phase }, { on := 4, ground := Ground.phase }, { on := 5, ground := Ground.phase }, { on := 6, ground := Ground.phase }, { on := 7, ground := Ground.phase }, { on := 8, ground := Ground.phase }, { on := 9, ground := Ground.phase }], guard := none }) (v := ?_) rfl (by kernel_rfl) (by kernel_rfl) (by kernel_rfl) (fun _ _ _ h => h) (Or.inl ⟨by rfl, ?_⟩) (by assumption) ?_
  rotate_left
  · (intro w hSw; (try dsimp only at hSw); go_simp; try with_reducible rfl)
  try simp only [Act.put, List.setIfInBounds_toArray, List.set_cons_zero, List.set_cons_succ]
  refine wpAnyH_done (by kernel_rfl) ?_ _
  refine NoPanic.normal ?_
  have C2 := cellW V2.out B4.out.be
  simp at C2
  obtain ⟨A4, c4, hv4, hd4⟩ := B4.out.ob.di
  subst hv4
  obtain ⟨X4, hX4⟩ : ∃ Y, encN e ++ schB cs = Y := ⟨_, rfl⟩
  have hx4 : X4.length ≤ 180 := by
    have := schB_le HOK.out
    have := HEL.out
    rw [← hX4, List.length_append]
    omega
  have HX4 : Hid (X4.length ≤ 180) := Lib.hid hx4
  have HX5 := Lib.hid hX4
  rw [hX4] at hd4 B4
  rw [hX4]
  have D4 := Lib.hid hd4
  have HW := Lib.hid (WB.out.trans (B4.out.be.mono WB.out.size))
  have P4 : Hid (PB w X4 A4 X4.length c4 w4) := Lib.hid ⟨B4.out.ob.mono WB.out.size, hd4, HW.out⟩
  obtain ⟨m4, hm4⟩ : ∃ m, X4.length = m := ⟨_, rfl⟩
  rw [hm4] at P4
  rw [hm4]
  have HM4 := Lib.hid hm4
  have hd : decide (64 < (n : Int)) = false := decide_eq_false (by omega)
  have hd' : decide (64 < n) = false := decide_eq_false (by omega)
  have s1 : IntKind.u64.wrap (n : Int) = (n : Int) := by rw [IntKind.wrap_u64]; omega
  clear hX4 hd4 hHeld V0 V1 D3 B3 hm4 hx4 D4 HW B4
  go_wp2_with fail
  refine (P4.out.put (by have := HX4.out; omega) n (by have := HN.out; omega)).mono ?_
  rintro x w5 ⟨A5, m5, c5, rfl, h5, hb5⟩
  have HX6 : Hid ((X4 ++ encN n).length ≤ 190) := Lib.hid (by have := HX4.out; have := encN_in n; rw [List.length_append]; omega)
  obtain ⟨X5, hX5⟩ : ∃ Y, X4 ++ encN n = Y := ⟨_, rfl⟩
  rw [hX5] at h5 HX6
  have HX7 : Hid (footG e cs gs = X5 ++ gsB gs) := Lib.hid (by unfold footG; rw [HX5.out, HLN.out, hX5])
  have P5 : Hid (PB w (X5 ++ gsB (gs.take 0)) A5 m5 c5 w5) := Lib.hid (by
    rw [show X5 ++ gsB (gs.take 0) = X5 by simp [gsB]]
    exact h5)
  have C5 := cellW C2 hb5
  clear h5 hb5 hX5 P4 C2 s1 hd hd'
  go_wp2_with fail
  clear C5
  go_loopw [4, 38] (fun v t W => ∃ (i : Nat) (A' : Option Addr) (m' c' : Nat), i ≤ n ∧ v = .slice A' m' c' ∧ t = .int .i64 i ∧ Hid (PB w (X5 ++ gsB (gs.take i)) A' m' c' W)) (fun _ t _ => n - (intOf t).toNat)
  case atStart => exact ⟨0, A5, m5, c5, Nat.zero_le _, rfl, rfl, P5⟩
  case round =>
    rename World => W
    obtain ⟨i, A', m', c', hi, rfl, rfl, HP⟩ := hrel
    clear P5
    by_cases hlt : i < n
    · have d1 : decide ((i : Int) < (n : Int)) = true := decide_eq_true (by omega)
      have d1' : decide (i < n) = true := decide_eq_true hlt
      obtain ⟨q, hq⟩ : ∃ q, gs[i]? = some q := ⟨_, List.getElem?_eq_getElem (by rw [HLN.out]; exact hlt)⟩
      obtain ⟨b2, gq, cq, eA, hbl, p0, p1, hgq⟩ := HG.out.at' i q hq
      subst eA
      have HGQ : Hid (G1 W 0 gq cq q.k) := Lib.hid (hgq.below HP.out.be)
      have Z0 := cellW p0 HP.out.be
      have Z1 := cellW p1 HP.out.be
      have HQI := Lib.hid hq
      have hba := (Below.refl W.heap.size W).alloc (Nat.le_refl _) (.cells #[.int .i64 q.r, .slice (some ⟨gq, 0, none⟩) 1 cq] 79)
      have hna := heap_alloc_new W (.cells #[.int .i64 q.r, .slice (some ⟨gq, 0, none⟩) 1 cq] 79)
      have HBA := Lib.hid hba
      have HNA := Lib.hid hna
      clear hbl p0 p1 hgq hq hba hna
      go_upto_region 12 with fail
      obtain ⟨w6, hw6⟩ : ∃ w6, W.alloc (.cells #[.int .i64 q.r, .slice (some ⟨gq, 0, none⟩) 1 cq] 79) = w6 := ⟨_, rfl⟩
      obtain ⟨s6, hs6⟩ : ∃ s6, W.heap.size = s6 := ⟨_, rfl⟩
      have hba := HBA.out
      have hna := HNA.out
      rw [hw6] at hba hna
      rw [hs6] at hna
      rw [hw6]
      (try rw [hs6])
      have K6 := Lib.hid hba
      have HS6 := Lib.hid hna
      clear HBA HNA hba hna hw6 hs6 Z0 Z1
      have V0 := cell_of_row w6 s6 0 _ 79 _ HS6.out
      have V1 := cell_of_row w6 s6 1 _ 79 _ HS6.out
      simp at V0 V1
      go_wp2_with fail
      refine (Try.groupPut w6 q (HQ.out i q HQI.out) (HGQ.out.below K6.out)).mono ?_
      rintro x w7 ⟨A7, m7, c7, rfl, h7⟩
      have P7 : Hid (PB w (X5 ++ gsB (gs.take i)) A' m' c' w7) := Lib.hid ((HP.out.below K6.out).below h7.be)
      obtain ⟨g7, hA7, hat7, hg7, hg7'⟩ := h7.src (by unfold groupB chunkB statB; simp)
      subst hA7
      have HAT := Lib.hid hat7
      have HL7 : Hid ((groupB q).length = m7) := Lib.hid h7.len
      have HC7 := Lib.hid (groupB_le q)
      have HLX : Hid ((X5 ++ gsB (gs.take i)).length ≤ 6100) := Lib.hid (by
        have h1 := gsB_le (gs.take i)
        have h2 := HX6.out
        rw [List.length_take] at h1
        rw [List.length_append]
        omega)
      have HNX := Lib.hid (gsB_next HQI.out)
      obtain ⟨Y, hY⟩ : ∃ Y, X5 ++ gsB (gs.take i) = Y := ⟨_, rfl⟩
      have HY := Lib.hid hY
      rw [hY] at P7 HLX
      clear h7 hat7 hg7 hg7' HP V0 V1 K6 HS6 hY
      go_wp2_with (refine wpList_app Try.E50 rfl (.tmp 50) (.tmp 51) rfl w.heap.size (.slice A' m' c') Y.length (Y.map u8v) rfl P7.out.ob g7 m7 c7 ((groupB q).map u8v) rfl (by rw [List.length_map, HL7.out, Nat.mul_one]) HAT.out (u8v_one _) (by have h1 := HLX.out; have h3 := HC7.out; have h4 := HL7.out; omega) P7.out.be.size ?_)
      intro v8 w8 o8 gr8
      rw [← HL7.out] at o8
      obtain ⟨A8, m8, c8, rfl, h8⟩ := P7.out.app gr8 o8
      have P8 : Hid (PB w (X5 ++ gsB (gs.take (i + 1))) A8 m8 c8 w8) := Lib.hid (by
        rw [HNX.out, ← List.append_assoc, HY.out]
        exact h8)
      clear o8 gr8 h8 P7
      go_wp2_with fail
      exact ⟨⟨i + 1, A8, m8, c8, hlt, rfl, rfl, P8⟩, by simp [intOf]; omega⟩
    · obtain rfl : i = n := by omega
      have d1 : decide ((i : Int) < (i : Int)) = false := by simp
      have d1' : decide (i < i) = false := by simp
      have PF : Hid (PB w (footG e cs gs) A' m' c' W) := Lib.hid (by
        have h := HP.out
        rw [List.take_of_length_le (by rw [HLN.out]; exact Nat.le_refl _)] at h
        rw [HX7.out]
        exact h)
      have hm8 : m' ≤ 8000 := by
        have h1 := gsB_le gs
        have h2 := HX6.out
        have h3 := PF.out.len
        have h4 := HLN.out
        have h5 := HN.out
        rw [HX7.out, List.length_append] at h3
        omega
      have d2 : decide (8192 < (m' : Int)) = false := decide_eq_false (by omega)
      have d2' : decide (8192 < m') = false := decide_eq_false (by omega)
      clear HP
      go_wp2_with fail
      go_ret2
      exact ⟨_, _, _, rfl, PF.out⟩
set_option maxHeartbeats 16000000 in
theorem Try.footPutLong (w : World) (e : Nat) (he : e < 18446744073709551616) (he0 : e ≠ 0) {A2 : Option Addr} {n2 c2 : Nat} {cs : List (List UInt8 × Int)} (hC : CR w A2 n2 c2 cs) (hok : chk cs = 0) {A : Option Addr} {n c : Nat} {gs : List GQ} (hG : GRow w 0 A n c gs) (hn : 64 < n) (hn2 : n ≤ 1000) :
    Calls Try.prog 7 #[.agg #[.int .u64 e, .slice A2 n2 c2, .slice A n c]] w fun x w' => x = .returned (.tuple #[.slice none 0 0, .int .i64 4]) ∧ Below w.heap.size w w' := by
  have HE := Lib.hid he
  have HC := Lib.hid hC
  have HOK := Lib.hid hok
  have HEL := Lib.hid (encN_in e)
  have d0 : ((e : Int) == 0) = false := by simpa using he0
  have d0' : decide ((e : Int) = 0) = false := decide_eq_false (by omega)
  have hb := (Below.refl _ w).alloc (Nat.le_refl _) (.cells #[.int .u64 e, .slice A2 n2 c2, .slice A n c] 48)
  have hnew := heap_alloc_new w (.cells #[.int .u64 e, .slice A2 n2 c2, .slice A n c] 48)
  have HG := Lib.hid hG
  have HN := Lib.hid hn
  clear hC hok he he0 hG
  go_enter Try.func7, Try.ntmps7
  go_upto_region 3 with fail
  obtain ⟨wa, hwa⟩ : ∃ wa, w.alloc (.cells #[.int .u64 e, .slice A2 n2 c2, .slice A n c] 48) = wa := ⟨_, rfl⟩
  obtain ⟨bx, hbx⟩ : ∃ bx, w.heap.size = bx := ⟨_, rfl⟩
  rw [hwa] at hb hnew
  rw [hbx] at hnew
  rw [hwa, hbx]
  have V0 := Lib.hid (cell_of_row wa bx 0 _ 48 _ hnew)
  have V1 := Lib.hid (cell_of_row wa bx 1 _ 48 _ hnew)
  have V2 := Lib.hid (cell_of_row wa bx 2 _ 48 _ hnew)
  have WB := Lib.hid hb
  clear hwa hb hnew d0 d0' hbx
  refine wp_region_noPanic ?_
  refine wp_region_held_drew (S := (fun W => W.cell? ⟨bx, 0, none⟩ = some (.int .u64 e) ∧ W.cell? ⟨bx, 1, none⟩ = some (.slice A2 n2 c2))) (by kernel_rfl) ?_ (fun hHeld => ?_)
  · exact ⟨V0.out, V1.out⟩
  refine wpAnyH_take (i := 0) (oi := { dst := some 14, op := Op.fieldAddr 48 (Operand.tmp 1) 0, type := 0, pos := "foot.go:75", after := #[], guard := none }) (v := ?_) rfl (by kernel_rfl) (by kernel_rfl) (by kernel_rfl) (fun _ _ _ h => h) (Or.inl ⟨by rfl, ?_⟩) (by assumption) ?_
  rotate_left
  · (intro w hSw; (try dsimp only at hSw); go_simp; try with_reducible rfl)
  try simp only [Act.put, List.setIfInBounds_toArray, List.set_cons_zero, List.set_cons_succ]
  refine wpAnyH_take (i := 1) (oi := { dst := some 15, op := Op.load 23 (Operand.tmp 14), type := 23, pos := "foot.go:75", after := #[{ on := 0, ground := Ground.data }], guard := none }) (v := ?_) rfl (by kernel_rfl) (by kernel_rfl) (by kernel_rfl) (fun _ _ _ h => h) (Or.inl ⟨by rfl, ?_⟩) (by assumption) ?_
  rotate_left
  · (intro w hSw; (try dsimp only at hSw); go_simp; try with_reducible rfl)
  try simp only [Act.put, List.setIfInBounds_toArray, List.set_cons_zero, List.set_cons_succ]
  refine wpAnyH_take (i := 3) (oi := { dst := some 17, op := Op.fieldAddr 48 (Operand.tmp 1) 1, type := 0, pos := "foot.go:75", after := #[], guard := none }) (v := ?_) rfl (by kernel_rfl) (by kernel_rfl) (by kernel_rfl) (fun _ _ _ h => h) (Or.inl ⟨by rfl, ?_⟩) (by assumption) ?_
  rotate_left
  · (intro w hSw; (try dsimp only at hSw); go_simp; try with_reducible rfl)
  try simp only [Act.put, List.setIfInBounds_toArray, List.set_cons_zero, List.set_cons_succ]
  refine wpAnyH_take (i := 4) (oi := { dst := some 18, op := Op.load 45 (Operand.tmp 17), type := 45, pos := "foot.go:75", after := #[{ on := 3, ground := Ground.data }], guard := none }) (v := ?_) rfl (by kernel_rfl) (by kernel_rfl) (by kernel_rfl) (fun _ _ _ h => h) (Or.inl ⟨by rfl, ?_⟩) (by assumption) ?_
  rotate_left
  · (intro w hSw; (try dsimp only at hSw); go_simp; try with_reducible rfl)
  try simp only [Act.put, List.setIfInBounds_toArray, List.set_cons_zero, List.set_cons_succ]
  refine wpAnyH_ready (rs := [2]) (by kernel_rfl) (by simp) ?_
  refine AllReadyH.cons (o := { dst := some 16, op := Op.call { callee := Callee.value (Operand.func 24), args := #[Operand.const (Value.slice none 0 0), Operand.tmp 15], argTypes := #[50, 23] }, type := 50, pos := "foot.go:75", after := #[{ on := 1, ground := Ground.data }], guard := none }) rfl (fun K hK => ?_) AllReadyH.nil
  go_simp
  refine (Try.put _ (di_nil _) (by omega) e HE.out).mono ?_
  rintro x3 w3 ⟨v3, rfl, ho3, hb3⟩
  rw [List.nil_append] at ho3
  have B3 : Hid (BB wa (encN e) v3 w3) := Lib.hid ⟨ho3, (Below.refl _ wa).drew.trans hb3⟩
  have HC3 : Hid (CR w3 A2 n2 c2 cs) := Lib.hid (HC.out.below (WB.out.trans (B3.out.be.mono WB.out.size)))
  obtain ⟨A3, c3, hv3, hd3⟩ := ho3.di
  subst hv3
  have D3 := Lib.hid hd3
  clear ho3 hb3 hd3
  refine hK.out _ _ ?_ (fun hHeld => ?_)
  · exact ⟨cellW V0.out B3.out.be, cellW V1.out B3.out.be⟩
  clear hK K
  try simp only [Act.put, List.setIfInBounds_toArray, List.set_cons_zero, List.set_cons_succ]
  refine wpAnyH_ready (rs := [5]) (by kernel_rfl) (by simp) ?_
  refine AllReadyH.cons (o := { dst := some 19, op := Op.call { callee := Callee.value (Operand.func 23), args := #[Operand.tmp 16, Operand.tmp 18], argTypes := #[50, 45] }, type := 52, pos := "foot.go:75", after := #[{ on := 2, ground := Ground.data }, { on := 4, ground := Ground.data }, { on := 2, ground := Ground.chain }], guard := none }) rfl (fun K hK => ?_) AllReadyH.nil
  go_simp
  refine (Try.schPut _ D3.out HEL.out.1 (by have := HEL.out; omega) HC3.out HOK.out).mono ?_
  rintro x4 w4 ⟨v4, rfl, h4⟩
  have B4 : Hid (BB wa (encN e ++ schB cs) v4 w4) := Lib.hid (B3.out.call h4.be h4.ob)
  clear h4
  refine hK.out _ _ ?_ (fun hHeld => ?_)
  · exact ⟨cellW V0.out B4.out.be, cellW V1.out B4.out.be⟩
  clear hK K
  try simp only [Act.put, List.setIfInBounds_toArray, List.set_cons_zero, List.set_cons_succ]
  refine wpAnyH_take (i := 6) (oi := { dst := some 13, op := Op.move (Operand.tmp 19), type := 52, pos := "foot.go:75", after := #[{ on := 5, ground := Ground.data }], guard := none }) (v := ?_) rfl (by kernel_rfl) (by kernel_rfl) (by kernel_rfl) (fun _ _ _ h => h) (Or.inl ⟨by rfl, ?_⟩) (by assumption) ?_
  rotate_left
  · (intro w hSw; (try dsimp only at hSw); go_simp; try with_reducible rfl)
  try simp only [Act.put, List.setIfInBounds_toArray, List.set_cons_zero, List.set_cons_succ]
  refine wpAnyH_take (i := 7) (oi := { dst := some 20, op := Op.extract (Operand.tmp 13) 0, type := 50, pos := "foot.go:75", after := #[{ on := 6, ground := Ground.data }], guard := none }) (v := ?_) rfl (by kernel_rfl) (by kernel_rfl) (by kernel_rfl) (fun _ _ _ h => h) (Or.inl ⟨by rfl, ?_⟩) (by assumption) ?_
  rotate_left
  · (intro w hSw; (try dsimp only at hSw); go_simp; try with_reducible rfl)
  try simp only [Act.put, List.setIfInBounds_toArray, List.set_cons_zero, List.set_cons_succ]
  refine wpAnyH_take (i := 8) (oi := { dst := some 21, op := Op.extract (Operand.tmp 13) 1, type := 51, pos := "foot.go:75", after := #[{ on := 6, ground := Ground.data }, { on := 9, ground := Ground.gcOnly Departure.lateStores }], guard := none }) (v := ?_) rfl (by kernel_rfl) (by kernel_rfl) (by kernel_rfl) (fun _ _ _ h => h) (Or.inl ⟨by rfl, ?_⟩) (by assumption) ?_
  rotate_left
  · (intro w hSw; (try dsimp only at hSw); go_simp; try with_reducible rfl)
  try simp only [Act.put, List.setIfInBounds_toArray, List.set_cons_zero, List.set_cons_succ]
  refine wpAnyH_take (i := 9) (oi := { dst := some 4, op := Op.assign (Operand.tmp 20), type := 50, pos := "foot.go:75", after := #[{ on := 7, ground := Ground.data }, { on := 5, ground := Ground.chain }, { on := 0, ground := Ground.phase }, { on := 1, ground := Ground.phase }, { on := 2, ground := Ground.phase }, { on := 3, ground := Ground.phase }, { on := 4, ground := Ground.phase }, { on := 5, ground := Ground.phase }, { on := 6, ground := Ground.phase }, { on := 7, ground := Ground.phase }, { on := 8, ground := Ground.textOnly Departure.lateStores }], guard := none }) (v := ?_) rfl (by kernel_rfl) (by kernel_rfl) (by kernel_rfl) (fun _ _ _ h => h) (Or.inl ⟨by rfl, ?_⟩) (by assumption) ?_
  rotate_left
  · (intro w hSw; (try dsimp only at hSw); go_simp; try with_reducible rfl)
  try simp only [Act.put, List.setIfInBounds_toArray, List.set_cons_zero, List.set_cons_succ]
  refine wpAnyH_take (i := 10) (oi := { dst := some 5, op := Op.assign (Operand.tmp 21), type := 51, pos := "foot.go:75", after := #[{ on := 8, ground := Ground.data }, { on := 9, ground := Ground.chain }, { on := 0, ground := Ground.phase }, { on := 1, ground := Ground.phase }, { on := 2, ground := Ground.phase }, { on := 3, ground := Ground.phase }, { on := 4, ground := Ground.phase }, { on := 5, ground := Ground.phase }, { on := 6, ground := Ground.phase }, { on := 7, ground := Ground.phase }, { on := 8, ground := Ground.phase }, { on := 9, ground := Ground.phase }], guard := none }) (v := ?_) rfl (by kernel_rfl) (by kernel_rfl) (by kernel_rfl) (fun _ _ _ h => h) (Or.inl ⟨by rfl, ?_⟩) (by assumption) ?_
  rotate_left
  · (intro w hSw; (try dsimp only at hSw); go_simp; try with_reducible rfl)
  try simp only [Act.put, List.setIfInBounds_toArray, List.set_cons_zero, List.set_cons_succ]
  refine wpAnyH_done (by kernel_rfl) ?_ _
  refine NoPanic.normal ?_
  have C2 := cellW V2.out B4.out.be
  simp at C2
  obtain ⟨A4, c4, hv4, hd4⟩ := B4.out.ob.di
  subst hv4
  obtain ⟨X4, hX4⟩ : ∃ Y, encN e ++ schB cs = Y := ⟨_, rfl⟩
  rw [hX4] at hd4 B4
  rw [hX4]
  have HW := Lib.hid (WB.out.trans (B4.out.be.mono WB.out.size))
  obtain ⟨m4, hm4⟩ : ∃ m, X4.length = m := ⟨_, rfl⟩
  rw [hm4]
  have hd : decide (64 < (n : Int)) = true := decide_eq_true (by omega)
  have hd' : decide (64 < n) = true := decide_eq_true (by omega)
  clear hX4 hd4 hHeld V0 V1 D3 B3 hm4 B4
  go_wp2_with fail
  go_ret2
  exact ⟨rfl, HW.out⟩
end Go.Proofs.Ytfblhcphbcghpaa
end

section
namespace Go.Proofs.Ytfblhcphbcghpaa
open Go.RowKit
open Go.NR (wpList_app At)
set_option maxRecDepth 100000
theorem drop_fit {l x r : List UInt8} {p : Nat} (hd : l.drop p = x ++ r) (hp : p ≤ l.length) : p + x.length ≤ l.length ∧ l.drop (p + x.length) = r := by
  have h : (l.drop p).length = x.length + r.length := by rw [hd, List.length_append]
  rw [List.length_drop] at h
  refine ⟨by omega, ?_⟩
  rw [← List.drop_drop, hd, List.drop_left]
theorem Try.numI {W w : World} {b : Nat} {A : Option Addr} {n c : Nat} {l : List UInt8} {f : Int} {p : Nat} (h : RdIn W w b A n c l f p 0) {u : Nat} {r : List UInt8} (hd : l.drop p = encN u ++ r) (hu : u < 18446744073709551616) :
    Calls Try.prog 31 #[.pointer (some ⟨b, 0, none⟩)] w fun y w' => y = .returned (.int .u64 u) ∧ Rd w b A n c f ((p + (encN u).length : Nat) : Int) 0 w' := by
  have e := rnum_ok (getN_put hd hu)
  refine (Try.rnum h).mono ?_
  rintro y w' ⟨rfl, h2⟩
  rw [e] at h2 ⊢
  exact ⟨rfl, h2⟩
theorem RdIn.set {W w w' : World} {b : Nat} {A : Option Addr} {n c : Nat} {l : List UInt8} {f : Int} {p : Nat} {e : Int} (h : RdIn W w b A n c l f p e) (hb : Below w.heap.size w w') : RdIn W w' b A n c l f p e :=
  h.other (hb.block b h.rb.lt) (h.bel.trans (hb.mono h.bel.size))
theorem grown_row {a c : World} {r : Option Nat} (h : a.grownBy c r) {s : Nat} {cs : Array Value} (hs : a.heap.size ≤ s) : a.grownBy (c.setRow s cs) r :=
  ⟨h.os, h.tape, h.output, by rw [Go.NR.setRow_size]; exact h.size, fun i hi hr => (Go.NR.setRow_else _ s _ i (by omega)).trans (h.block i hi hr)⟩
set_option maxHeartbeats 4000000 in
theorem Try.getNumber {W w : World} {b : Nat} {A : Option Addr} {n c : Nat} {l : List UInt8} {f : Int} {p : Nat} (h : RdIn W w b A n c l f p 0) {u : Nat} {r : List UInt8} (hd : l.drop p = encN (2 * u) ++ r) (hu : u ≤ 100000) :
    Calls Try.prog 100 #[.pointer (some ⟨b, 0, none⟩)] w fun y w' => y = .returned (vN u) ∧ Rd w b A n c f ((p + (encN (2 * u)).length : Nat) : Int) 0 w' := by
  have hb1 := ((Below.refl _ w).alloc (Nat.le_refl _) (.cells #[.int .i64 0, .int .i64 0, .string ⟨#[]⟩, .complex .f64 0 0] 123))
  have hn1 := heap_alloc_new w (.cells #[.int .i64 0, .int .i64 0, .string ⟨#[]⟩, .complex .f64 0 0] 123)
  obtain ⟨w1, hw1⟩ : ∃ w1, w.alloc (.cells #[.int .i64 0, .int .i64 0, .string ⟨#[]⟩, .complex .f64 0 0] 123) = w1 := ⟨_, rfl⟩
  obtain ⟨sx, hsx⟩ : ∃ sx, w.heap.size = sx := ⟨_, rfl⟩
  rw [hw1] at hb1 hn1
  have HR := Lib.hid (h.set hb1)
  have HSB : Hid (sx ≠ b ∧ w.heap.size = sx) := Lib.hid ⟨by have := h.rb.lt; omega, hsx⟩
  rw [hsx] at hn1
  have WB := Lib.hid hb1
  have HX := Lib.hid hn1
  have HD := Lib.hid hd
  clear hb1 hn1 h hd
  go_enter Try.func100, Try.ntmps100
  go_upto_region 1 with fail
  (try rw [hw1])
  (try rw [hsx])
  clear hw1 hsx
  go_wp2_with fail
  refine (Try.numI HR.out HD.out (by omega)).mono ?_
  rintro y w2 ⟨rfl, hr2⟩
  have H2 := Lib.hid hr2
  have HX2 := Lib.hid ((hr2.2.block sx (Go.NR.heap_lt HX.out) (fun e => HSB.out.1 (by cases e; rfl))).trans HX.out)
  clear hr2 HR HX
  go_wp2_with fail
  refine (Try.zag u hu w2).mono ?_
  rintro y w3 ⟨rfl, hw3⟩
  rw [hw3]
  clear hw3 w3
  go_wp2_with (refine wpList_store_at w2 rfl 123 (.tmp 2) (.tmp 6) rfl sx 123 0 #[.int .i64 1, .int .i64 u, .string ⟨#[]⟩, .complex .f64 0 0] #[.int .i64 0, .int .i64 0, .string ⟨#[]⟩, .complex .f64 0 0] #[.int .i64 1, .int .i64 u, .string ⟨#[]⟩, .complex .f64 0 0] rfl rfl HX2.out (show 0 + 4 ≤ 4 by omega) rfl size123 (one_v u) ?_)
  refine bodyPost_ret (results_cell1 rfl _ _ sx 123 _ _ rfl (setRow_heap' _ sx _ _ 123 HX2.out) size123 st123) rfl ?_
  exact ⟨rfl, H2.out.1.eq (Go.NR.setRow_else _ sx _ b HSB.out.1.symm), grown_row (grown_trans (grown_below WB.out _) H2.out.2) (Nat.le_of_eq HSB.out.2)⟩
def sc0 (r : Int) : Array Value := #[.int .i64 1, .int .i64 r, .int .i64 0, .int .i64 0, .int .i64 0, .string ⟨#[]⟩, .complex .f64 0 0, .int .i64 0, .int .i64 0, .string ⟨#[]⟩, .complex .f64 0 0, .complex .f64 0 0, .complex .f64 0 0]
def sc1 (r lo : Int) : Array Value := #[.int .i64 1, .int .i64 r, .int .i64 0, .int .i64 1, .int .i64 lo, .string ⟨#[]⟩, .complex .f64 0 0, .int .i64 0, .int .i64 0, .string ⟨#[]⟩, .complex .f64 0 0, .complex .f64 0 0, .complex .f64 0 0]
set_option maxHeartbeats 4000000 in
theorem Try.getEnds {W w : World} {b sx : Nat} {A : Option Addr} {n c : Nat} {l : List UInt8} {f : Int} {p : Nat} (h : RdIn W w b A n c l f p 0) {r lo hi : Nat} {rest : List UInt8} (hs : w.heap[sx]? = some (.cells (sc0 r) 126 (0, 0))) (hne : sx ≠ b) (hd : l.drop p = encN (2 * lo) ++ (encN (2 * hi) ++ rest)) (hlo : lo ≤ 100000) (hhi : hi ≤ 100000) :
    Calls Try.prog 92 #[.pointer (some ⟨b, 0, none⟩), .pointer (some ⟨sx, 0, none⟩)] w fun y w' => y = .returned (.tuple #[]) ∧ RB w' b A n c f ((p + (encN (2 * lo)).length + (encN (2 * hi)).length : Nat) : Int) 0 ∧ w'.heap[sx]? = some (.cells (scl r lo hi) 126 (0, 0)) ∧ Go.NR.Chg w w' (fun i => i = b ∨ i = sx) := by
  have V0 := cell_of_row w sx 0 _ 126 _ hs
  simp [sc0] at V0
  have HR := Lib.hid h
  have HX := Lib.hid hs
  have HD := Lib.hid hd
  have HNE := Lib.hid hne
  have hf := drop_fit hd (by rw [h.di.len]; exact h.hp)
  have HF := Lib.hid hf
  clear h hs hd hne hf
  go_enter Try.func92, Try.ntmps92
  go_wp2_with fail
  refine (Try.getNumber HR.out HD.out hlo).mono ?_
  rintro y w2 ⟨rfl, hr2⟩
  have H2 := Lib.hid (HR.out.next hr2 (by have := HF.out.1; rw [HR.out.di.len] at this; exact this))
  have G2 := Lib.hid hr2.2
  have HX2 := Lib.hid ((hr2.2.block sx (Go.NR.heap_lt HX.out) (fun e => HNE.out (by cases e; rfl))).trans HX.out)
  clear hr2 V0
  unfold vN
  go_wp2_with fail
  refine (Try.getNumber H2.out HF.out.2 hhi).mono ?_
  rintro y w3 ⟨rfl, hr3⟩
  have HRB := Lib.hid hr3.1
  have G3 := Lib.hid (grown_trans G2.out hr3.2)
  have HX3 := Lib.hid ((hr3.2.block sx (Go.NR.heap_lt HX2.out) (fun e => HNE.out (by cases e; rfl))).trans HX2.out)
  have HX4 : Hid ((w3.setRow sx (sc1 r lo)).heap[sx]? = some (.cells (sc1 r lo) 126 (0, 0))) := Lib.hid (setRow_heap' _ sx _ _ 126 HX3.out)
  clear hr3 H2 HX2 G2 HR HX HD HF
  unfold vN
  unfold sc0 at HX3
  unfold sc1 at HX4
  go_wp2_with (first
    | (refine wpList_store_at w3 rfl 123 (.tmp 17) (.tmp 13) rfl sx 126 3 #[.int .i64 1, .int .i64 lo, .string ⟨#[]⟩, .complex .f64 0 0] _ (sc1 r lo) rfl rfl HX3.out (show 3 + 4 ≤ 13 by omega) rfl size123 (one_v lo) ?_)
    | (refine wpList_store_at _ rfl 123 (.tmp 19) (.tmp 15) rfl sx 126 7 #[.int .i64 1, .int .i64 hi, .string ⟨#[]⟩, .complex .f64 0 0] _ (scl r lo hi) rfl rfl HX4.out (show 7 + 4 ≤ 13 by omega) rfl size123 (one_v hi) ?_))
  go_end0
  refine ⟨rfl, ?_, setRow_heap' _ sx _ _ 126 HX4.out, ?_⟩
  · exact HRB.out.eq ((Go.NR.setRow_else _ sx _ b HNE.out.symm).trans (Go.NR.setRow_else _ sx _ b HNE.out.symm))
  · have g := G3.out
    refine ⟨g.os, g.tape, g.output, by rw [Go.NR.setRow_size, Go.NR.setRow_size]; exact g.size, fun i hi hn => ?_⟩
    rw [Go.NR.setRow_else _ sx _ i (fun e => hn (.inr e)), Go.NR.setRow_else _ sx _ i (fun e => hn (.inr e))]
    exact g.block i hi (fun e => hn (.inl (by cases e; rfl)))
end Go.Proofs.Ytfblhcphbcghpaa
end

section
namespace Go.Proofs.Ytfblhcphbcghpaa
open Go.RowKit
set_option maxRecDepth 100000
theorem results_cell_tmp2 {P : Program} {fn : Func} {c u v : Tmp} {t : TypeId} (h : fn.results = #[.cell c t, .tmp u, .tmp v]) (tmps : Array Value) (w : World) (b e : Nat) (cs : Array Value) (fs : Array Field) (ht : tmps.getD c undef = .pointer (some ⟨b, 0, none⟩)) (hh : w.heap[b]? = some (.cells cs e (0, 0)))
    (hq : (P.info? t).map (·.size) = some cs.size) (hu : P.underlying t = some (.struct fs)) : (results fn tmps).run P w = .ok (.tuple #[.agg cs, tmps.getD u undef, tmps.getD v undef]) w := by
  have hl : (loadCells ⟨b, 0, none⟩ cs.size).run P w = .ok cs w := by
    have := run_loadCells_list (P := P) w ⟨b, 0, none⟩ cs.toList (fun j v hj => by
      have e : (⟨b, 0, none⟩ : Addr).add j = ⟨b, j, none⟩ := by unfold Addr.add; split <;> simp_all
      rw [e, cell_of_row w b j _ _ _ hh, ← hj]
      simp)
    simpa using this
  have ht2 : tmps[c]?.getD undef = .pointer (some ⟨b, 0, none⟩) := by simpa using ht
  simp [results, h, ht2, asAddr, loadVar, isAgg_run w hu, sizeOf_run w hq, hl]
theorem statB_split (r lo hi : Nat) (rest : List UInt8) : statB r lo hi ++ rest = 1 :: (encN r ++ (encN 0 ++ (encN (2 * lo) ++ (encN (2 * hi) ++ rest)))) := by simp [statB]
theorem rbyte_one {l r : List UInt8} {p : Nat} {x : UInt8} (hd : l.drop p = x :: r) : rbyte l p 0 = ((x.toNat : Int), p + 1, 0) ∧ l.drop (p + 1) = r ∧ p + 1 ≤ l.length := by
  have h0 : l[p]? = some x := by
    have : (l.drop p)[0]? = some x := by rw [hd]; rfl
    rwa [List.getElem?_drop, Nat.add_zero] at this
  have hl := (List.getElem?_eq_some_iff.1 h0).1
  refine ⟨by unfold rbyte; rw [if_pos rfl, h0], ?_, hl⟩
  rw [← List.drop_drop, hd]
  rfl
def SGot (w : World) (r lo hi : Nat) (x : Ending) (w' : World) : Prop := x = .returned (.tuple #[.agg (scl r lo hi), .int .i64 ((statB r lo hi).length : Nat), .int .i64 0]) ∧ Below w.heap.size w w'
set_option maxHeartbeats 16000000 in
theorem Try.statGet (w : World) {A : Option Addr} {n c : Nat} {l : List UInt8} (hD : DI w A n c l) (hn : n ≤ 60000) {p r lo hi : Nat} {rest : List UInt8} (hp : p ≤ n) (hd : l.drop p = statB r lo hi ++ rest) (hr : 1 ≤ r) (hr2 : r ≤ 64) (hlh : lo ≤ hi) (hh : hi ≤ 1000) :
    Calls Try.prog 84 #[.slice A n c, .int .i64 p] w (SGot w r lo hi) := by
  have HCK := Lib.hid (fun W => Try.statCheck W r lo hi hr hr2 hlh)
  have hln := hD.len
  rw [statB_split] at hd
  obtain ⟨q1, d1, l1⟩ := rbyte_one hd
  obtain ⟨l2, d2⟩ := drop_fit d1 l1
  obtain ⟨l3, d3⟩ := drop_fit d2 l2
  obtain ⟨l4, d4⟩ := drop_fit d3 l3
  obtain ⟨l5, d5⟩ := drop_fit d4 l4
  rw [hln] at l1 l2 l3 l4 l5
  have HLEN : Hid (p + 1 + (encN r).length + (encN 0).length + (encN (2 * lo)).length + (encN (2 * hi)).length = p + (statB r lo hi).length) := Lib.hid (by unfold statB; simp only [List.length_cons, List.length_append]; omega)
  have HL1 := Lib.hid l1
  have HL2 := Lib.hid l2
  have HL3 := Lib.hid l3
  have HL5 := Lib.hid l5
  have HD1 := Lib.hid d1
  have HD2 := Lib.hid d2
  have HD3 := Lib.hid d3
  have HQ1 := Lib.hid q1
  have hb1 := ((Below.refl _ w).alloc (Nat.le_refl _) (.cells #[.int .i64 0, .int .i64 0, .int .i64 0, .int .i64 0, .int .i64 0, .string ⟨#[]⟩, .complex .f64 0 0, .int .i64 0, .int .i64 0, .string ⟨#[]⟩, .complex .f64 0 0, .complex .f64 0 0, .complex .f64 0 0] 126))
  have hn1 := heap_alloc_new w (.cells #[.int .i64 0, .int .i64 0, .int .i64 0, .int .i64 0, .int .i64 0, .string ⟨#[]⟩, .complex .f64 0 0, .int .i64 0, .int .i64 0, .string ⟨#[]⟩, .complex .f64 0 0, .complex .f64 0 0, .complex .f64 0 0] 126)
  obtain ⟨w1, hw1⟩ : ∃ w1, w.alloc (.cells #[.int .i64 0, .int .i64 0, .int .i64 0, .int .i64 0, .int .i64 0, .string ⟨#[]⟩, .complex .f64 0 0, .int .i64 0, .int .i64 0, .string ⟨#[]⟩, .complex .f64 0 0, .complex .f64 0 0, .complex .f64 0 0] 126) = w1 := ⟨_, rfl⟩
  obtain ⟨z, hz⟩ : ∃ z, w.heap.size = z := ⟨_, rfl⟩
  rw [hw1] at hb1 hn1
  have HDI := Lib.hid (hD.below hb1)
  have HZL : Hid (w.heap.size ≤ z) := Lib.hid (Nat.le_of_eq hz)
  rw [hz] at hn1
  have WB := Lib.hid hb1
  have HZ := Lib.hid hn1
  have hdr : ((r : Int) != 0) = true := by simp; omega
  have hdr' : (r == 0) = false := by simp; omega
  have hdr2 : decide (r = 0) = false := decide_eq_false (by omega)
  have hrb : r < 100 := by omega
  clear hb1 hn1 hD hd q1 d1 d2 d3 d4 d5 l1 l2 l3 l4 l5 hln hdr
  have hsc := storeC
  go_enter Try.func84, Try.ntmps84
  go_upto_region 1 with fail
  (try rw [hw1])
  (try rw [hz])
  clear hw1 hz
  go_wp2_with fail
  refine (Try.rnew w1 A n c p 0 hn (by rw [if_pos]; omega)).mono ?_
  rintro x w2 ⟨b, rfl, hlb, hrb0, hb2⟩
  have R2 : Hid (RdIn w1 w2 b A n c l (p : Nat) p 0) := Lib.hid ⟨hrb0, HDI.out, hb2, hlb, hn, hp⟩
  have HZ2 := Lib.hid ((hb2.block z (Go.NR.heap_lt HZ.out)).trans HZ.out)
  have HZB : Hid (z ≠ b) := Lib.hid (by have := Go.NR.heap_lt HZ.out; omega)
  clear hlb hrb0 hb2 HZ
  go_wp2_with fail
  refine (Try.byteI R2.out).mono ?_
  rintro x w3 ⟨rfl, hr3⟩
  rw [HQ1.out] at hr3
  rw [HQ1.out]
  dsimp only at hr3
  dsimp only
  have R3 := Lib.hid (R2.out.next hr3 HL1.out)
  have HZ3 := Lib.hid ((hr3.2.block z (Go.NR.heap_lt HZ2.out) (fun e => HZB.out (by cases e; rfl))).trans HZ2.out)
  clear hr3 HZ2 R2
  go_upto_region 3 with fail
  clear hsc
  have hb4 := ((Below.refl w3.heap.size w3).alloc (Nat.le_refl _) (.cells #[.int .i64 1, .int .i64 0, .int .i64 0, .int .i64 0, .int .i64 0, .string ⟨#[]⟩, .complex .f64 0 0, .int .i64 0, .int .i64 0, .string ⟨#[]⟩, .complex .f64 0 0, .complex .f64 0 0, .complex .f64 0 0] 126))
  have hn4 := heap_alloc_new w3 (.cells #[.int .i64 1, .int .i64 0, .int .i64 0, .int .i64 0, .int .i64 0, .string ⟨#[]⟩, .complex .f64 0 0, .int .i64 0, .int .i64 0, .string ⟨#[]⟩, .complex .f64 0 0, .complex .f64 0 0, .complex .f64 0 0] 126)
  obtain ⟨w4, hw4⟩ : ∃ w4, w3.alloc (.cells #[.int .i64 1, .int .i64 0, .int .i64 0, .int .i64 0, .int .i64 0, .string ⟨#[]⟩, .complex .f64 0 0, .int .i64 0, .int .i64 0, .string ⟨#[]⟩, .complex .f64 0 0, .complex .f64 0 0, .complex .f64 0 0] 126) = w4 := ⟨_, rfl⟩
  obtain ⟨sx, hsx⟩ : ∃ sx, w3.heap.size = sx := ⟨_, rfl⟩
  rw [hw4] at hb4 hn4
  have R4 := Lib.hid (R3.out.set hb4)
  have HZ4 := Lib.hid ((hb4.block z (Go.NR.heap_lt HZ3.out)).trans HZ3.out)
  have HSB : Hid (sx ≠ b ∧ z ≠ sx ∧ w1.heap.size ≤ sx) := Lib.hid ⟨by have := R3.out.rb.lt; omega, by have := Go.NR.heap_lt HZ3.out; omega, by rw [← hsx]; exact R3.out.bel.size⟩
  rw [hsx] at hn4
  (try rw [hw4])
  (try rw [hsx])
  have HX4 := Lib.hid hn4
  clear hb4 hn4 hw4 hsx R3 HZ3
  go_wp2_with fail
  refine (Try.numI R4.out HD1.out (by omega)).mono ?_
  rintro y w5 ⟨rfl, hr5⟩
  have R5 := Lib.hid (R4.out.next hr5 HL2.out)
  have HZ5 := Lib.hid ((hr5.2.block z (Go.NR.heap_lt HZ4.out) (fun e => HZB.out (by cases e; rfl))).trans HZ4.out)
  have HX5 := Lib.hid ((hr5.2.block sx (Go.NR.heap_lt HX4.out) (fun e => HSB.out.1 (by cases e; rfl))).trans HX4.out)
  clear hr5 R4 HZ4 HX4
  go_wp2_with fail
  refine (Try.numI R5.out HD2.out (by decide)).mono ?_
  rintro y w6 ⟨rfl, hr6⟩
  have R6 := Lib.hid (R5.out.next hr6 HL3.out)
  have HZ6 := Lib.hid ((hr6.2.block z (Go.NR.heap_lt HZ5.out) (fun e => HZB.out (by cases e; rfl))).trans HZ5.out)
  have HX6 := Lib.hid ((hr6.2.block sx (Go.NR.heap_lt HX5.out) (fun e => HSB.out.1 (by cases e; rfl))).trans HX5.out)
  clear hr6 R5 HZ5 HX5
  have V1 := cell_of_row w6 sx 1 _ 126 _ HX6.out
  have V2 := cell_of_row w6 sx 2 _ 126 _ HX6.out
  simp at V1 V2
  have f1 := frozen_of_row w6 sx 1 _ 126 HX6.out
  have f2 := frozen_of_row w6 sx 2 _ 126 HX6.out
  go_upto_region 6 with fail
  have hx7 := heap_setCell_same w6 sx 1 _ 126 (.int .i64 r) HX6.out
  have hx8 := heap_setCell_same (w6.setCell ⟨sx, 1, none⟩ (.int .i64 r)) sx 2 _ 126 (.int .i64 0) hx7
  have hg7 := grown_trans (grown_set w6 sx 1 (.int .i64 r)) (grown_set (w6.setCell ⟨sx, 1, none⟩ (.int .i64 r)) sx 2 (.int .i64 0))
  obtain ⟨w7, hw7⟩ : ∃ w7, (w6.setCell ⟨sx, 1, none⟩ (.int .i64 r)).setCell ⟨sx, 2, none⟩ (.int .i64 0) = w7 := ⟨_, rfl⟩
  rw [hw7] at hx8 hg7
  rw [hw7]
  have HX7 : Hid (w7.heap[sx]? = some (.cells (sc0 r) 126 (0, 0))) := Lib.hid hx8
  have R7 := Lib.hid (R6.out.other (hg7.block b R6.out.rb.lt (fun e => HSB.out.1 (by cases e; rfl))) (R6.out.bel.grown hg7 R6.out.bel.size (fun k hk => by cases hk; exact HSB.out.2.2)))
  have HZ7 := Lib.hid ((hg7.block z (Go.NR.heap_lt HZ6.out) (fun e => HSB.out.2.1 (by cases e; rfl))).trans HZ6.out)
  clear hx7 hx8 hg7 hw7 V1 V2 f1 f2 R6 HZ6 HX6
  go_wp2_with fail
  refine (Try.getEnds R7.out HX7.out HSB.out.1 HD3.out (by omega) (by omega)).mono ?_
  rintro y w8 ⟨rfl, hrb8, hx8, hc8⟩
  rw [HLEN.out] at hrb8
  have hb8 : Below w1.heap.size w1 w8 := R7.out.bel.trans (hc8.isBelow R7.out.bel.size (fun i hi e => by rcases e with e | e; (have := R7.out.box; omega); (have := HSB.out.2.2; omega)))
  have HB8 := Lib.hid hb8
  have HRB8 := Lib.hid hrb8
  have HX8 := Lib.hid hx8
  have HZ8 := Lib.hid ((hc8.block z (Go.NR.heap_lt HZ7.out) (fun e => by rcases e with e | e; exact HZB.out e; exact HSB.out.2.1 e)).trans HZ7.out)
  have HBX : Hid (w1.heap.size ≤ b) := Lib.hid R7.out.box
  clear hrb8 hx8 hc8 hb8 R7 HX7 HZ7
  unfold scl at HX8
  have V0 := cell_of_row w8 sx 0 _ 126 _ HX8.out
  have V1 := cell_of_row w8 sx 1 _ 126 _ HX8.out
  have V2 := cell_of_row w8 sx 2 _ 126 _ HX8.out
  have V3 := cell_of_row w8 sx 3 _ 126 _ HX8.out
  have V4 := cell_of_row w8 sx 4 _ 126 _ HX8.out
  have V5 := cell_of_row w8 sx 5 _ 126 _ HX8.out
  have V6 := cell_of_row w8 sx 6 _ 126 _ HX8.out
  have V7 := cell_of_row w8 sx 7 _ 126 _ HX8.out
  have V8 := cell_of_row w8 sx 8 _ 126 _ HX8.out
  have V9 := cell_of_row w8 sx 9 _ 126 _ HX8.out
  have V10 := cell_of_row w8 sx 10 _ 126 _ HX8.out
  have V11 := cell_of_row w8 sx 11 _ 126 _ HX8.out
  have V12 := cell_of_row w8 sx 12 _ 126 _ HX8.out
  simp at V0 V1 V2 V3 V4 V5 V6 V7 V8 V9 V10 V11 V12
  go_wp2_with fail
  refine (HCK.out w8).mono ?_
  rintro x w9 ⟨rfl, hb9⟩
  have HB9 := Lib.hid (HB8.out.trans (hb9.mono HB8.out.size))
  have HRB9 := Lib.hid (HRB8.out.eq (hb9.block b HRB8.out.lt))
  have HX9 := Lib.hid ((hb9.block sx (Go.NR.heap_lt HX8.out)).trans HX8.out)
  have HZ9 := Lib.hid ((hb9.block z (Go.NR.heap_lt HZ8.out)).trans HZ8.out)
  clear hb9 HB8 HRB8 HX8 HZ8 V0 V1 V2 V3 V4 V5 V6 V7 V8 V9 V10 V11 V12 HCK
  go_wp2_with fail
  refine (Try.rfail HRB9.out 0).mono ?_
  rintro y wa ⟨rfl, hra, hga⟩
  rw [if_pos rfl] at hra
  have HRA := Lib.hid hra
  have HBA := Lib.hid (HB9.out.grown hga HB9.out.size (fun k hk => by cases hk; exact HBX.out))
  have HXA := Lib.hid ((hga.block sx (Go.NR.heap_lt HX9.out) (fun e => HSB.out.1 (by cases e; rfl))).trans HX9.out)
  have HZA := Lib.hid ((hga.block z (Go.NR.heap_lt HZ9.out) (fun e => HZB.out (by cases e; rfl))).trans HZ9.out)
  clear hra hga HB9 HRB9 HX9 HZ9
  go_wp2_with fail
  refine (Try.rerr HRA.out).mono ?_
  rintro y wb ⟨rfl, hwb⟩
  rw [hwb]
  clear hwb wb
  go_upto_region 11 with fail
  have U0 := Lib.hid (cell_of_row wa sx 0 _ 126 _ HXA.out)
  have U1 := Lib.hid (cell_of_row wa sx 1 _ 126 _ HXA.out)
  have U2 := Lib.hid (cell_of_row wa sx 2 _ 126 _ HXA.out)
  have U3 := Lib.hid (cell_of_row wa sx 3 _ 126 _ HXA.out)
  have U4 := Lib.hid (cell_of_row wa sx 4 _ 126 _ HXA.out)
  have U5 := Lib.hid (cell_of_row wa sx 5 _ 126 _ HXA.out)
  have U6 := Lib.hid (cell_of_row wa sx 6 _ 126 _ HXA.out)
  have U7 := Lib.hid (cell_of_row wa sx 7 _ 126 _ HXA.out)
  have U8 := Lib.hid (cell_of_row wa sx 8 _ 126 _ HXA.out)
  have U9 := Lib.hid (cell_of_row wa sx 9 _ 126 _ HXA.out)
  have U10 := Lib.hid (cell_of_row wa sx 10 _ 126 _ HXA.out)
  have U11 := Lib.hid (cell_of_row wa sx 11 _ 126 _ HXA.out)
  have U12 := Lib.hid (cell_of_row wa sx 12 _ 126 _ HXA.out)
  refine wp_region_noPanic ?_
  refine wp_region_held_drew (S := (fun W => W.cell? ⟨sx, 0, none⟩ = some (.int .i64 1) ∧ W.cell? ⟨sx, 1, none⟩ = some (.int .i64 r) ∧ W.cell? ⟨sx, 2, none⟩ = some (.int .i64 0) ∧ W.cell? ⟨sx, 3, none⟩ = some (.int .i64 1) ∧ W.cell? ⟨sx, 4, none⟩ = some (.int .i64 lo) ∧ W.cell? ⟨sx, 5, none⟩ = some (.string ⟨#[]⟩) ∧ W.cell? ⟨sx, 6, none⟩ = some (.complex .f64 0 0) ∧ W.cell? ⟨sx, 7, none⟩ = some (.int .i64 1) ∧ W.cell? ⟨sx, 8, none⟩ = some (.int .i64 hi) ∧ W.cell? ⟨sx, 9, none⟩ = some (.string ⟨#[]⟩) ∧ W.cell? ⟨sx, 10, none⟩ = some (.complex .f64 0 0) ∧ W.cell? ⟨sx, 11, none⟩ = some (.complex .f64 0 0) ∧ W.cell? ⟨sx, 12, none⟩ = some (.complex .f64 0 0))) (by kernel_rfl) ?_ (fun hHeld => ?_)
  · exact ⟨U0.out, U1.out, U2.out, U3.out, U4.out, U5.out, U6.out, U7.out, U8.out, U9.out, U10.out, U11.out, U12.out⟩
  refine wpAnyH_take (i := 0) (oi := { dst := some 44, op := Op.load 126 (Operand.tmp 8), type := 126, pos := "stat.go:142", after := #[], guard := none }) (v := ?_) rfl (by kernel_rfl) (by kernel_rfl) (by kernel_rfl) (fun _ _ _ h => h) (Or.inl ⟨by rfl, ?_⟩) (by assumption) ?_
  rotate_left
  · (intro w hSw; (try dsimp only at hSw); go_simp; try with_reducible rfl)
  try simp only [Act.put, List.setIfInBounds_toArray, List.set_cons_zero, List.set_cons_succ]
  refine wpAnyH_take (i := 1) (oi := { dst := some 45, op := Op.move (Operand.tmp 7), type := 90, pos := "stat.go:142", after := #[], guard := none }) (v := ?_) rfl (by kernel_rfl) (by kernel_rfl) (by kernel_rfl) (fun _ _ _ h => h) (Or.inl ⟨by rfl, ?_⟩) (by assumption) ?_
  rotate_left
  · (intro w hSw; (try dsimp only at hSw); go_simp; try with_reducible rfl)
  try simp only [Act.put, List.setIfInBounds_toArray, List.set_cons_zero, List.set_cons_succ]
  refine wpAnyH_ready (rs := [2]) (by kernel_rfl) (by simp) ?_
  refine AllReadyH.cons (o := { dst := some 46, op := Op.call { callee := Callee.value (Operand.func 66), args := #[Operand.tmp 45], argTypes := #[90] }, type := 3, pos := "stat.go:142", after := #[{ on := 1, ground := Ground.data }], guard := none }) rfl (fun K hK => ?_) AllReadyH.nil
  go_simp
  refine (Try.rread (f := p) (p := p + (statB r lo hi).length) (HRA.out.eq rfl : RB wa.drew b A n c (p : Nat) ((p + (statB r lo hi).length : Nat) : Int) 0) (by have h1 := HL5.out; have h2 := HLEN.out; omega) (by omega)).mono ?_
  rintro y wc ⟨rfl, _, hbc⟩
  have KE : Hid (Below w1.heap.size w1 wc) := Lib.hid (HBA.out.trans (((Below.refl _ wa).drew.trans hbc).mono HBA.out.size))
  have KC : Hid (Below wa.heap.size wa wc) := Lib.hid ((Below.refl _ wa).drew.trans hbc)
  have HZB3 : Hid (wc.heap[z]? = some (.cells #[.int .i64 0, .int .i64 0, .int .i64 0, .int .i64 0, .int .i64 0, .string ⟨#[]⟩, .complex .f64 0 0, .int .i64 0, .int .i64 0, .string ⟨#[]⟩, .complex .f64 0 0, .complex .f64 0 0, .complex .f64 0 0] 126 (0, 0))) := Lib.hid ((KC.out.block z (Go.NR.heap_lt HZA.out)).trans HZA.out)
  clear hbc
  refine hK.out _ _ ?_ (fun hHeld => ?_)
  · exact ⟨cellW U0.out KC.out, cellW U1.out KC.out, cellW U2.out KC.out, cellW U3.out KC.out, cellW U4.out KC.out, cellW U5.out KC.out, cellW U6.out KC.out, cellW U7.out KC.out, cellW U8.out KC.out, cellW U9.out KC.out, cellW U10.out KC.out, cellW U11.out KC.out, cellW U12.out KC.out⟩
  clear hK K
  try simp only [Act.put, List.setIfInBounds_toArray, List.set_cons_zero, List.set_cons_succ]
  refine wpAnyH_ready (rs := [3]) (by kernel_rfl) (by simp) ?_
  refine AllReadyH.cons (o := { dst := none, op := Op.store 126 (Operand.tmp 4) (Operand.tmp 44), type := 0, pos := "stat.go:142", after := #[{ on := 0, ground := Ground.data }, { on := 2, ground := Ground.chain }, { on := 0, ground := Ground.phase }, { on := 1, ground := Ground.textOnly Departure.lateStores }, { on := 2, ground := Ground.textOnly Departure.lateStoresUnsure }], guard := none }) rfl (fun K hK => ?_) AllReadyH.nil
  refine oper_store_at _ 126 (.tmp 4) (.tmp 44) rfl z 126 0 #[.int .i64 1, .int .i64 r, .int .i64 0, .int .i64 1, .int .i64 lo, .string ⟨#[]⟩, .complex .f64 0 0, .int .i64 1, .int .i64 hi, .string ⟨#[]⟩, .complex .f64 0 0, .complex .f64 0 0, .complex .f64 0 0] #[.int .i64 0, .int .i64 0, .int .i64 0, .int .i64 0, .int .i64 0, .string ⟨#[]⟩, .complex .f64 0 0, .int .i64 0, .int .i64 0, .string ⟨#[]⟩, .complex .f64 0 0, .complex .f64 0 0, .complex .f64 0 0] #[.int .i64 1, .int .i64 r, .int .i64 0, .int .i64 1, .int .i64 lo, .string ⟨#[]⟩, .complex .f64 0 0, .int .i64 1, .int .i64 hi, .string ⟨#[]⟩, .complex .f64 0 0, .complex .f64 0 0, .complex .f64 0 0] rfl rfl HZB3.out (show 0 + 13 ≤ 13 by omega) rfl size126 (one_s r lo hi) ?_
  refine hK.out _ _ ?_ (fun hHeld => ?_)
  · exact ⟨(World.cell?_of_block (Go.NR.setRow_else _ z _ sx HSB.out.2.1.symm)).trans (cellW U0.out KC.out), (World.cell?_of_block (Go.NR.setRow_else _ z _ sx HSB.out.2.1.symm)).trans (cellW U1.out KC.out), (World.cell?_of_block (Go.NR.setRow_else _ z _ sx HSB.out.2.1.symm)).trans (cellW U2.out KC.out), (World.cell?_of_block (Go.NR.setRow_else _ z _ sx HSB.out.2.1.symm)).trans (cellW U3.out KC.out), (World.cell?_of_block (Go.NR.setRow_else _ z _ sx HSB.out.2.1.symm)).trans (cellW U4.out KC.out), (World.cell?_of_block (Go.NR.setRow_else _ z _ sx HSB.out.2.1.symm)).trans (cellW U5.out KC.out), (World.cell?_of_block (Go.NR.setRow_else _ z _ sx HSB.out.2.1.symm)).trans (cellW U6.out KC.out), (World.cell?_of_block (Go.NR.setRow_else _ z _ sx HSB.out.2.1.symm)).trans (cellW U7.out KC.out), (World.cell?_of_block (Go.NR.setRow_else _ z _ sx HSB.out.2.1.symm)).trans (cellW U8.out KC.out), (World.cell?_of_block (Go.NR.setRow_else _ z _ sx HSB.out.2.1.symm)).trans (cellW U9.out KC.out), (World.cell?_of_block (Go.NR.setRow_else _ z _ sx HSB.out.2.1.symm)).trans (cellW U10.out KC.out), (World.cell?_of_block (Go.NR.setRow_else _ z _ sx HSB.out.2.1.symm)).trans (cellW U11.out KC.out), (World.cell?_of_block (Go.NR.setRow_else _ z _ sx HSB.out.2.1.symm)).trans (cellW U12.out KC.out)⟩
  clear hK K
  try simp only [Act.put, List.setIfInBounds_toArray, List.set_cons_zero, List.set_cons_succ]
  refine wpAnyH_take (i := 4) (oi := { dst := some 5, op := Op.assign (Operand.tmp 46), type := 3, pos := "stat.go:142", after := #[{ on := 2, ground := Ground.data }, { on := 3, ground := Ground.chain }, { on := 0, ground := Ground.phase }, { on := 1, ground := Ground.phase }, { on := 2, ground := Ground.phase }, { on := 3, ground := Ground.phase }], guard := none }) (v := ?_) rfl (by kernel_rfl) (by kernel_rfl) (by kernel_rfl) (fun _ _ _ h => h) (Or.inl ⟨by rfl, ?_⟩) (by assumption) ?_
  rotate_left
  · (intro w hSw; (try dsimp only at hSw); go_simp; try with_reducible rfl)
  try simp only [Act.put, List.setIfInBounds_toArray, List.set_cons_zero, List.set_cons_succ]
  refine wpAnyH_take (i := 5) (oi := { dst := some 6, op := Op.assign (Operand.const (Value.int IntKind.i64 0)), type := 51, pos := "stat.go:142", after := #[{ on := 4, ground := Ground.chain }, { on := 0, ground := Ground.phase }, { on := 1, ground := Ground.phase }, { on := 2, ground := Ground.phase }, { on := 3, ground := Ground.phase }, { on := 4, ground := Ground.phase }], guard := none }) (v := ?_) rfl (by kernel_rfl) (by kernel_rfl) (by kernel_rfl) (fun _ _ _ h => h) (Or.inl ⟨by rfl, ?_⟩) (by assumption) ?_
  rotate_left
  · (intro w hSw; (try dsimp only at hSw); go_simp; try with_reducible rfl)
  try simp only [Act.put, List.setIfInBounds_toArray, List.set_cons_zero, List.set_cons_succ]
  refine wpAnyH_done (by kernel_rfl) ?_ _
  refine NoPanic.normal ?_
  have HZE := HZB3
  clear U0 U1 U2 U3 U4 U5 U6 U7 U8 U9 U10 U11 U12 hHeld
  go_wp2_with fail
  refine bodyPost_ret (results_cell_tmp2 rfl _ _ z 126 _ _ rfl (setRow_heap' _ z _ _ 126 HZE.out) size126 st126) rfl ?_
  refine ⟨?_, Below.setRow (WB.out.trans (KE.out.mono WB.out.size)) HZL.out _⟩
  have e1 : (((p + (statB r lo hi).length : Nat) : Int) - (p : Nat)) = ((statB r lo hi).length : Nat) := by omega
  exact congrArg (fun z : Int => Ending.returned (.tuple #[.agg (scl r lo hi), .int .i64 z, .int .i64 0])) e1
end Go.Proofs.Ytfblhcphbcghpaa
end

section
namespace Go.Proofs.Ytfblhcphbcghpaa
open Go.RowKit
set_option maxRecDepth 100000
set_option maxHeartbeats 16000000 in
theorem Try.rofStat {W w : World} {b : Nat} {A : Option Addr} {n c : Nat} {l : List UInt8} {f : Int} {p : Nat} (h : RdIn W w b A n c l f p 0) {r lo hi : Nat} {rest : List UInt8} (hd : l.drop p = statB r lo hi ++ rest) (hr : 1 ≤ r) (hr2 : r ≤ 64) (hlh : lo ≤ hi) (hh : hi ≤ 1000) :
    Calls Try.prog 83 #[.pointer (some ⟨b, 0, none⟩), .func (.func 84) #[] #[]] w fun y w' => y = .returned (.agg (scl r lo hi)) ∧ Rd w b A n c f ((p + (statB r lo hi).length : Nat) : Int) 0 w' := by
  have HB := Lib.hid h
  have hn := h.hn
  have hpl : p + (statB r lo hi).length ≤ n := by have := drop_fit hd (by rw [h.di.len]; exact h.hp); rw [h.di.len] at this; exact this.1
  have hps : (statB r lo hi).length ≤ 50 := statB_le r lo hi
  have hpn := h.hp
  obtain ⟨w1, z, z5, hw1, hz, hz5, hb1, h8, h9⟩ := alloc2 w (.cells #[.int .i64 0, .int .i64 0, .int .i64 0, .int .i64 0, .int .i64 0, .string ⟨#[]⟩, .complex .f64 0 0, .int .i64 0, .int .i64 0, .string ⟨#[]⟩, .complex .f64 0 0, .complex .f64 0 0, .complex .f64 0 0] 126) (.cells #[.int .i64 0, .int .i64 0, .int .i64 0, .int .i64 0, .int .i64 0, .string ⟨#[]⟩, .complex .f64 0 0, .int .i64 0, .int .i64 0, .string ⟨#[]⟩, .complex .f64 0 0, .complex .f64 0 0, .complex .f64 0 0] 126)
  have HZ := Lib.hid h8
  have HZ5 := Lib.hid h9
  have HR := Lib.hid (h.set hb1)
  have WB := Lib.hid hb1
  have HZB : Hid (z ≠ b ∧ b < w.heap.size ∧ w.heap.size ≤ z ∧ z < w1.heap.size) := Lib.hid ⟨by have := h.rb.lt; omega, h.rb.lt, Nat.le_of_eq hz, Go.NR.heap_lt h8⟩
  clear hb1 h8 h9 h
  have hsc := storeC
  go_enter Try.func83, Try.ntmps83
  go_upto_region 2 with fail
  (try rw [hw1])
  (try rw [hz])
  (try rw [hz5])
  clear hw1 hz hz5 hsc
  have h3 := HR.out.rb.c3
  have H0 := Lib.hid HR.out.rb.c0
  have H2 := Lib.hid HR.out.rb.c2
  go_upto_region 4 with fail
  clear h3
  refine wp_region_noPanic ?_
  refine wp_region_held_drew (S := (fun W => W.cell? ⟨b, 0, none⟩ = some (.slice A n c) ∧ W.cell? ⟨b, 2, none⟩ = some (.int .i64 p))) (by kernel_rfl) ?_ (fun hHeld => ?_)
  · exact ⟨H0.out, H2.out⟩
  obtain ⟨V0, hV0⟩ : ∃ V0, w1.drew = V0 := ⟨_, rfl⟩
  have K0 : Hid (Below w1.heap.size w1 V0) := Lib.hid (by rw [← hV0]; exact (Below.refl _ w1).drew)
  rw [hV0] at hHeld ⊢
  clear hV0
  refine wpAnyH_take (i := 0) (oi := { dst := some 16, op := Op.move (Operand.tmp 1), type := 164, pos := "read.go:89", after := #[], guard := none }) (v := ?_) rfl (by kernel_rfl) (by kernel_rfl) (by kernel_rfl) (fun _ _ _ h => h) (Or.inl ⟨by rfl, ?_⟩) (by assumption) ?_
  rotate_left
  · (intro w hSw; (try dsimp only at hSw); go_simp; try with_reducible rfl)
  try simp only [Act.put, List.setIfInBounds_toArray, List.set_cons_zero, List.set_cons_succ]
  refine wpAnyH_take (i := 1) (oi := { dst := some 17, op := Op.move (Operand.tmp 0), type := 90, pos := "read.go:89", after := #[], guard := none }) (v := ?_) rfl (by kernel_rfl) (by kernel_rfl) (by kernel_rfl) (fun _ _ _ h => h) (Or.inl ⟨by rfl, ?_⟩) (by assumption) ?_
  rotate_left
  · (intro w hSw; (try dsimp only at hSw); go_simp; try with_reducible rfl)
  try simp only [Act.put, List.setIfInBounds_toArray, List.set_cons_zero, List.set_cons_succ]
  refine wpAnyH_take (i := 2) (oi := { dst := some 18, op := Op.nilCheck (Operand.tmp 17), type := 0, pos := "read.go:89", after := #[{ on := 1, ground := Ground.data }], guard := none }) (v := ?_) rfl (by kernel_rfl) (by kernel_rfl) (by kernel_rfl) (fun _ _ _ h => h) (Or.inl ⟨by rfl, ?_⟩) (by assumption) ?_
  rotate_left
  · (intro w hSw; (try dsimp only at hSw); go_simp; try with_reducible rfl)
  try simp only [Act.put, List.setIfInBounds_toArray, List.set_cons_zero, List.set_cons_succ]
  refine wpAnyH_take (i := 3) (oi := { dst := some 19, op := Op.fieldAddr 138 (Operand.tmp 18) 0, type := 0, pos := "read.go:89", after := #[{ on := 2, ground := Ground.data }], guard := none }) (v := ?_) rfl (by kernel_rfl) (by kernel_rfl) (by kernel_rfl) (fun _ _ _ h => h) (Or.inl ⟨by rfl, ?_⟩) (by assumption) ?_
  rotate_left
  · (intro w hSw; (try dsimp only at hSw); go_simp; try with_reducible rfl)
  try simp only [Act.put, List.setIfInBounds_toArray, List.set_cons_zero, List.set_cons_succ]
  refine wpAnyH_take (i := 4) (oi := { dst := some 20, op := Op.load 50 (Operand.tmp 19), type := 50, pos := "read.go:89", after := #[{ on := 3, ground := Ground.data }], guard := none }) (v := ?_) rfl (by kernel_rfl) (by kernel_rfl) (by kernel_rfl) (fun _ _ _ h => h) (Or.inl ⟨by rfl, ?_⟩) (by assumption) ?_
  rotate_left
  · (intro w hSw; (try dsimp only at hSw); go_simp; try with_reducible rfl)
  try simp only [Act.put, List.setIfInBounds_toArray, List.set_cons_zero, List.set_cons_succ]
  refine wpAnyH_take (i := 5) (oi := { dst := some 21, op := Op.move (Operand.tmp 0), type := 90, pos := "read.go:89", after := #[], guard := none }) (v := ?_) rfl (by kernel_rfl) (by kernel_rfl) (by kernel_rfl) (fun _ _ _ h => h) (Or.inl ⟨by rfl, ?_⟩) (by assumption) ?_
  rotate_left
  · (intro w hSw; (try dsimp only at hSw); go_simp; try with_reducible rfl)
  try simp only [Act.put, List.setIfInBounds_toArray, List.set_cons_zero, List.set_cons_succ]
  refine wpAnyH_take (i := 6) (oi := { dst := some 22, op := Op.nilCheck (Operand.tmp 21), type := 0, pos := "read.go:89", after := #[{ on := 5, ground := Ground.data }], guard := none }) (v := ?_) rfl (by kernel_rfl) (by kernel_rfl) (by kernel_rfl) (fun _ _ _ h => h) (Or.inl ⟨by rfl, ?_⟩) (by assumption) ?_
  rotate_left
  · (intro w hSw; (try dsimp only at hSw); go_simp; try with_reducible rfl)
  try simp only [Act.put, List.setIfInBounds_toArray, List.set_cons_zero, List.set_cons_succ]
  refine wpAnyH_take (i := 7) (oi := { dst := some 23, op := Op.fieldAddr 138 (Operand.tmp 22) 2, type := 0, pos := "read.go:89", after := #[{ on := 6, ground := Ground.data }], guard := none }) (v := ?_) rfl (by kernel_rfl) (by kernel_rfl) (by kernel_rfl) (fun _ _ _ h => h) (Or.inl ⟨by rfl, ?_⟩) (by assumption) ?_
  rotate_left
  · (intro w hSw; (try dsimp only at hSw); go_simp; try with_reducible rfl)
  try simp only [Act.put, List.setIfInBounds_toArray, List.set_cons_zero, List.set_cons_succ]
  refine wpAnyH_take (i := 8) (oi := { dst := some 24, op := Op.load 3 (Operand.tmp 23), type := 3, pos := "read.go:89", after := #[{ on := 7, ground := Ground.data }], guard := none }) (v := ?_) rfl (by kernel_rfl) (by kernel_rfl) (by kernel_rfl) (fun _ _ _ h => h) (Or.inl ⟨by rfl, ?_⟩) (by assumption) ?_
  rotate_left
  · (intro w hSw; (try dsimp only at hSw); go_simp; try with_reducible rfl)
  try simp only [Act.put, List.setIfInBounds_toArray, List.set_cons_zero, List.set_cons_succ]
  refine wpAnyH_ready (rs := [9, 14]) (by kernel_rfl) (by simp) ?_
  refine AllReadyH.cons (o := { dst := some 25, op := Op.call { callee := Callee.value (Operand.tmp 16), args := #[Operand.tmp 20, Operand.tmp 24], argTypes := #[50, 3] }, type := 173, pos := "read.go:89", after := #[{ on := 0, ground := Ground.data }, { on := 4, ground := Ground.data }, { on := 8, ground := Ground.data }], guard := none }) rfl (fun K hK => ?_) ?_
  · skip
    go_simp
    refine (Try.statGet V0 (HR.out.dat.below K0.out) hn hpn hd hr hr2 hlh hh).mono ?_
    rintro x V1 ⟨rfl, hcb⟩
    unfold scl
    have K1 : Hid (Below w1.heap.size w1 V1) := Lib.hid (K0.out.trans (hcb.mono K0.out.size))
    skip
    refine hK.out _ _ ?_ (fun hHeld => ?_)
    · exact ⟨cellW H0.out K1.out, cellW H2.out K1.out⟩
    clear hK K
    try simp only [Act.put, List.setIfInBounds_toArray, List.set_cons_zero, List.set_cons_succ]
    refine wpAnyH_take (i := 10) (oi := { dst := some 15, op := Op.move (Operand.tmp 25), type := 173, pos := "read.go:89", after := #[{ on := 9, ground := Ground.data }], guard := none }) (v := ?_) rfl (by kernel_rfl) (by kernel_rfl) (by kernel_rfl) (fun _ _ _ h => h) (Or.inl ⟨by rfl, ?_⟩) (by assumption) ?_
    rotate_left
    · (intro w hSw; (try dsimp only at hSw); go_simp; try with_reducible rfl)
    try simp only [Act.put, List.setIfInBounds_toArray, List.set_cons_zero, List.set_cons_succ]
    refine wpAnyH_take (i := 11) (oi := { dst := some 26, op := Op.extract (Operand.tmp 15) 0, type := 126, pos := "read.go:89", after := #[{ on := 10, ground := Ground.data }], guard := none }) (v := ?_) rfl (by kernel_rfl) (by kernel_rfl) (by kernel_rfl) (fun _ _ _ h => h) (Or.inl ⟨by rfl, ?_⟩) (by assumption) ?_
    rotate_left
    · (intro w hSw; (try dsimp only at hSw); go_simp; try with_reducible rfl)
    try simp only [Act.put, List.setIfInBounds_toArray, List.set_cons_zero, List.set_cons_succ]
    refine wpAnyH_take (i := 12) (oi := { dst := some 27, op := Op.extract (Operand.tmp 15) 1, type := 3, pos := "read.go:89", after := #[{ on := 10, ground := Ground.data }, { on := 15, ground := Ground.gcOnly Departure.lateStores }], guard := none }) (v := ?_) rfl (by kernel_rfl) (by kernel_rfl) (by kernel_rfl) (fun _ _ _ h => h) (Or.inl ⟨by rfl, ?_⟩) (by assumption) ?_
    rotate_left
    · (intro w hSw; (try dsimp only at hSw); go_simp; try with_reducible rfl)
    try simp only [Act.put, List.setIfInBounds_toArray, List.set_cons_zero, List.set_cons_succ]
    refine wpAnyH_take (i := 13) (oi := { dst := some 28, op := Op.extract (Operand.tmp 15) 2, type := 51, pos := "read.go:89", after := #[{ on := 10, ground := Ground.data }, { on := 16, ground := Ground.gcOnly Departure.lateStores }], guard := none }) (v := ?_) rfl (by kernel_rfl) (by kernel_rfl) (by kernel_rfl) (fun _ _ _ h => h) (Or.inl ⟨by rfl, ?_⟩) (by assumption) ?_
    rotate_left
    · (intro w hSw; (try dsimp only at hSw); go_simp; try with_reducible rfl)
    try simp only [Act.put, List.setIfInBounds_toArray, List.set_cons_zero, List.set_cons_succ]
    refine wpAnyH_ready (rs := [14]) (by kernel_rfl) (by simp) ?_
    refine AllReadyH.cons (o := { dst := some 6, op := Op.alloc 126, type := 0, pos := "read.go:89", after := #[], guard := none }) rfl (fun K hK => ?_) ?_
    · skip
      go_simp
      have K2 : Hid (Below w1.heap.size w1 (V1.alloc (.cells #[.int .i64 0, .int .i64 0, .int .i64 0, .int .i64 0, .int .i64 0, .string ⟨#[]⟩, .complex .f64 0 0, .int .i64 0, .int .i64 0, .string ⟨#[]⟩, .complex .f64 0 0, .complex .f64 0 0, .complex .f64 0 0] 126))) := Lib.hid (K1.out.trans (((Below.refl V1.heap.size V1).alloc (Nat.le_refl _) _).mono K1.out.size))
      have HN := Lib.hid (heap_alloc_new V1 (.cells #[.int .i64 0, .int .i64 0, .int .i64 0, .int .i64 0, .int .i64 0, .string ⟨#[]⟩, .complex .f64 0 0, .int .i64 0, .int .i64 0, .string ⟨#[]⟩, .complex .f64 0 0, .complex .f64 0 0, .complex .f64 0 0] 126))
      have HAB : Hid (Below V1.heap.size V1 (V1.alloc (.cells #[.int .i64 0, .int .i64 0, .int .i64 0, .int .i64 0, .int .i64 0, .string ⟨#[]⟩, .complex .f64 0 0, .int .i64 0, .int .i64 0, .string ⟨#[]⟩, .complex .f64 0 0, .complex .f64 0 0, .complex .f64 0 0] 126))) := Lib.hid ((Below.refl V1.heap.size V1).alloc (Nat.le_refl _) _)
      have HASZ : Hid ((V1.alloc (.cells #[.int .i64 0, .int .i64 0, .int .i64 0, .int .i64 0, .int .i64 0, .string ⟨#[]⟩, .complex .f64 0 0, .int .i64 0, .int .i64 0, .string ⟨#[]⟩, .complex .f64 0 0, .complex .f64 0 0, .complex .f64 0 0] 126)).heap.size = V1.heap.size + 1) := Lib.hid (by simp)
      obtain ⟨s6, hs6⟩ : ∃ s6, V1.heap.size = s6 := ⟨_, rfl⟩
      obtain ⟨V2, hv2⟩ : ∃ V, V1.alloc (.cells #[.int .i64 0, .int .i64 0, .int .i64 0, .int .i64 0, .int .i64 0, .string ⟨#[]⟩, .complex .f64 0 0, .int .i64 0, .int .i64 0, .string ⟨#[]⟩, .complex .f64 0 0, .complex .f64 0 0, .complex .f64 0 0] 126) = V := ⟨_, rfl⟩
      have HS6 : Hid (s6 ≠ b ∧ s6 ≠ z ∧ w1.heap.size ≤ s6) := Lib.hid (by have h1 := K1.out.size; have h2 := HZB.out; refine ⟨?_, ?_, ?_⟩ <;> omega)
      have HSQ : Hid (V1.heap.size = s6) := Lib.hid hs6
      rw [hv2] at K2 HN HAB HASZ
      rw [hs6] at HN HASZ
      (try rw [hv2])
      (try rw [hs6])
      have HN2 := HN
      skip
      clear hv2 hs6
      refine hK.out _ _ ?_ (fun hHeld => ?_)
      · exact ⟨cellW H0.out K2.out, cellW H2.out K2.out⟩
      clear hK K
      try simp only [Act.put, List.setIfInBounds_toArray, List.set_cons_zero, List.set_cons_succ]
      refine wpAnyH_ready (rs := [15]) (by kernel_rfl) (by simp) ?_
      refine AllReadyH.cons (o := { dst := none, op := Op.store 126 (Operand.tmp 6) (Operand.tmp 26), type := 0, pos := "read.go:89", after := #[{ on := 14, ground := Ground.data }, { on := 11, ground := Ground.data }, { on := 9, ground := Ground.chain }, { on := 0, ground := Ground.phase }, { on := 1, ground := Ground.phase }, { on := 2, ground := Ground.phase }, { on := 3, ground := Ground.phase }, { on := 4, ground := Ground.phase }, { on := 5, ground := Ground.phase }, { on := 6, ground := Ground.phase }, { on := 7, ground := Ground.phase }, { on := 8, ground := Ground.phase }, { on := 9, ground := Ground.phase }, { on := 10, ground := Ground.phase }, { on := 11, ground := Ground.phase }, { on := 12, ground := Ground.textOnly Departure.lateStores }, { on := 13, ground := Ground.textOnly Departure.lateStores }, { on := 14, ground := Ground.phase }], guard := none }) rfl (fun K hK => ?_) ?_
      · skip
        have HX6 := HN2
        have HBW7 : Hid (Below w1.heap.size w1 (V2.setRow s6 #[.int .i64 1, .int .i64 r, .int .i64 0, .int .i64 1, .int .i64 lo, .string ⟨#[]⟩, .complex .f64 0 0, .int .i64 1, .int .i64 hi, .string ⟨#[]⟩, .complex .f64 0 0, .complex .f64 0 0, .complex .f64 0 0])) := Lib.hid (Below.setRow K2.out HS6.out.2.2 _)
        have HX7 : Hid ((V2.setRow s6 #[.int .i64 1, .int .i64 r, .int .i64 0, .int .i64 1, .int .i64 lo, .string ⟨#[]⟩, .complex .f64 0 0, .int .i64 1, .int .i64 hi, .string ⟨#[]⟩, .complex .f64 0 0, .complex .f64 0 0, .complex .f64 0 0]).heap[s6]? = some (.cells #[.int .i64 1, .int .i64 r, .int .i64 0, .int .i64 1, .int .i64 lo, .string ⟨#[]⟩, .complex .f64 0 0, .int .i64 1, .int .i64 hi, .string ⟨#[]⟩, .complex .f64 0 0, .complex .f64 0 0, .complex .f64 0 0] 126 (0, 0))) := Lib.hid (setRow_heap' _ s6 _ _ 126 HN2.out)
        have HRB : Hid (RB (V2.setRow s6 #[.int .i64 1, .int .i64 r, .int .i64 0, .int .i64 1, .int .i64 lo, .string ⟨#[]⟩, .complex .f64 0 0, .int .i64 1, .int .i64 hi, .string ⟨#[]⟩, .complex .f64 0 0, .complex .f64 0 0, .complex .f64 0 0]) b A n c f p 0) := Lib.hid (HR.out.rb.eq (HBW7.out.block b (by have := HZB.out; omega)))
        have HZ7 : Hid ((V2.setRow s6 #[.int .i64 1, .int .i64 r, .int .i64 0, .int .i64 1, .int .i64 lo, .string ⟨#[]⟩, .complex .f64 0 0, .int .i64 1, .int .i64 hi, .string ⟨#[]⟩, .complex .f64 0 0, .complex .f64 0 0, .complex .f64 0 0]).heap[z]? = some (.cells #[.int .i64 0, .int .i64 0, .int .i64 0, .int .i64 0, .int .i64 0, .string ⟨#[]⟩, .complex .f64 0 0, .int .i64 0, .int .i64 0, .string ⟨#[]⟩, .complex .f64 0 0, .complex .f64 0 0, .complex .f64 0 0] 126 (0, 0))) := Lib.hid ((HBW7.out.block z HZB.out.2.2.2).trans HZ.out)
        skip
        refine oper_store_at _ 126 (.tmp 6) (.tmp 26) rfl s6 126 0 #[.int .i64 1, .int .i64 r, .int .i64 0, .int .i64 1, .int .i64 lo, .string ⟨#[]⟩, .complex .f64 0 0, .int .i64 1, .int .i64 hi, .string ⟨#[]⟩, .complex .f64 0 0, .complex .f64 0 0, .complex .f64 0 0] #[.int .i64 0, .int .i64 0, .int .i64 0, .int .i64 0, .int .i64 0, .string ⟨#[]⟩, .complex .f64 0 0, .int .i64 0, .int .i64 0, .string ⟨#[]⟩, .complex .f64 0 0, .complex .f64 0 0, .complex .f64 0 0] #[.int .i64 1, .int .i64 r, .int .i64 0, .int .i64 1, .int .i64 lo, .string ⟨#[]⟩, .complex .f64 0 0, .int .i64 1, .int .i64 hi, .string ⟨#[]⟩, .complex .f64 0 0, .complex .f64 0 0, .complex .f64 0 0] rfl rfl HN2.out (show 0 + 13 ≤ 13 by omega) rfl size126 (one_s r lo hi) ?_
        refine hK.out _ _ ?_ (fun hHeld => ?_)
        · exact ⟨(World.cell?_of_block (Go.NR.setRow_else _ s6 _ b HS6.out.1.symm)).trans (cellW H0.out K2.out), (World.cell?_of_block (Go.NR.setRow_else _ s6 _ b HS6.out.1.symm)).trans (cellW H2.out K2.out)⟩
        clear hK K
        try simp only [Act.put, List.setIfInBounds_toArray, List.set_cons_zero, List.set_cons_succ]
        refine wpAnyH_take (i := 16) (oi := { dst := some 7, op := Op.assign (Operand.tmp 27), type := 3, pos := "read.go:89", after := #[{ on := 12, ground := Ground.data }, { on := 15, ground := Ground.chain }, { on := 0, ground := Ground.phase }, { on := 1, ground := Ground.phase }, { on := 2, ground := Ground.phase }, { on := 3, ground := Ground.phase }, { on := 4, ground := Ground.phase }, { on := 5, ground := Ground.phase }, { on := 6, ground := Ground.phase }, { on := 7, ground := Ground.phase }, { on := 8, ground := Ground.phase }, { on := 9, ground := Ground.phase }, { on := 10, ground := Ground.phase }, { on := 11, ground := Ground.phase }, { on := 12, ground := Ground.phase }, { on := 13, ground := Ground.textOnly Departure.lateStores }, { on := 14, ground := Ground.phase }, { on := 15, ground := Ground.phase }], guard := none }) (v := ?_) rfl (by kernel_rfl) (by kernel_rfl) (by kernel_rfl) (fun _ _ _ h => h) (Or.inl ⟨by rfl, ?_⟩) (by assumption) ?_
        rotate_left
        · (intro w hSw; (try dsimp only at hSw); go_simp; try with_reducible rfl)
        try simp only [Act.put, List.setIfInBounds_toArray, List.set_cons_zero, List.set_cons_succ]
        refine wpAnyH_take (i := 17) (oi := { dst := some 8, op := Op.assign (Operand.tmp 28), type := 51, pos := "read.go:89", after := #[{ on := 13, ground := Ground.data }, { on := 16, ground := Ground.chain }, { on := 0, ground := Ground.phase }, { on := 1, ground := Ground.phase }, { on := 2, ground := Ground.phase }, { on := 3, ground := Ground.phase }, { on := 4, ground := Ground.phase }, { on := 5, ground := Ground.phase }, { on := 6, ground := Ground.phase }, { on := 7, ground := Ground.phase }, { on := 8, ground := Ground.phase }, { on := 9, ground := Ground.phase }, { on := 10, ground := Ground.phase }, { on := 11, ground := Ground.phase }, { on := 12, ground := Ground.phase }, { on := 13, ground := Ground.phase }, { on := 14, ground := Ground.phase }, { on := 15, ground := Ground.phase }, { on := 16, ground := Ground.phase }], guard := none }) (v := ?_) rfl (by kernel_rfl) (by kernel_rfl) (by kernel_rfl) (fun _ _ _ h => h) (Or.inl ⟨by rfl, ?_⟩) (by assumption) ?_
        rotate_left
        · (intro w hSw; (try dsimp only at hSw); go_simp; try with_reducible rfl)
        try simp only [Act.put, List.setIfInBounds_toArray, List.set_cons_zero, List.set_cons_succ]
        refine wpAnyH_done (by kernel_rfl) ?_ _
        refine NoPanic.normal ?_
        obtain ⟨w7, hw7⟩ : ∃ w7, V2.setRow s6 #[.int .i64 1, .int .i64 r, .int .i64 0, .int .i64 1, .int .i64 lo, .string ⟨#[]⟩, .complex .f64 0 0, .int .i64 1, .int .i64 hi, .string ⟨#[]⟩, .complex .f64 0 0, .complex .f64 0 0, .complex .f64 0 0] = w7 := ⟨_, rfl⟩
        rw [hw7] at HBW7 HX7 HRB HZ7
        (try rw [hw7] at hHeld)
        (try rw [hw7])
        clear hw7
        have hrb6 := HRB.out
        have c2 := hrb6.c2
        have f2 := frozen_of_row w7 b 2 _ 138 hrb6
        have HW7 : Hid (Below w1.heap.size w1 w7) := Lib.hid HBW7.out
        clear hHeld
        go_upto_region 9 with fail
        have hset := hrb6.set2 (((p + (statB r lo hi).length : Nat)) : Int)
        have s2 : (p : Int) + (((statB r lo hi).length : Nat) : Int) = ((p + (statB r lo hi).length : Nat) : Int) := by omega
        (try rw [s2])
        obtain ⟨w8, hw8⟩ : ∃ w8, w7.setCell ⟨b, 2, none⟩ (.int .i64 ((p + (statB r lo hi).length : Nat) : Int)) = w8 := ⟨_, rfl⟩
        have hg8 : w7.grownBy w8 (some b) := by rw [← hw8]; exact grown_set _ _ _ _
        rw [hw8] at hset
        (try rw [hw8])
        have HSET := Lib.hid hset
        have HX8 := Lib.hid ((hg8.block s6 (Go.NR.heap_lt HX7.out) (fun e => HS6.out.1 (by cases e; rfl))).trans HX7.out)
        have HZ8 := Lib.hid ((hg8.block z (Go.NR.heap_lt HZ7.out) (fun e => HZB.out.1 (by cases e; rfl))).trans HZ7.out)
        have HG8 := Lib.hid hg8
        clear hset s2 hw8 hg8 c2 f2 hrb6
        have X0 := cell_of_row w8 s6 0 _ 126 _ HX8.out
        have X1 := cell_of_row w8 s6 1 _ 126 _ HX8.out
        have X2 := cell_of_row w8 s6 2 _ 126 _ HX8.out
        have X3 := cell_of_row w8 s6 3 _ 126 _ HX8.out
        have X4 := cell_of_row w8 s6 4 _ 126 _ HX8.out
        have X5 := cell_of_row w8 s6 5 _ 126 _ HX8.out
        have X6 := cell_of_row w8 s6 6 _ 126 _ HX8.out
        have X7 := cell_of_row w8 s6 7 _ 126 _ HX8.out
        have X8 := cell_of_row w8 s6 8 _ 126 _ HX8.out
        have X9 := cell_of_row w8 s6 9 _ 126 _ HX8.out
        have X10 := cell_of_row w8 s6 10 _ 126 _ HX8.out
        have X11 := cell_of_row w8 s6 11 _ 126 _ HX8.out
        have X12 := cell_of_row w8 s6 12 _ 126 _ HX8.out
        simp at X0 X1 X2 X3 X4 X5 X6 X7 X8 X9 X10 X11 X12
        go_wp2_with (refine wpList_store_at w8 rfl 126 (.tmp 4) (.tmp 44) rfl z 126 0 #[.int .i64 1, .int .i64 r, .int .i64 0, .int .i64 1, .int .i64 lo, .string ⟨#[]⟩, .complex .f64 0 0, .int .i64 1, .int .i64 hi, .string ⟨#[]⟩, .complex .f64 0 0, .complex .f64 0 0, .complex .f64 0 0] #[.int .i64 0, .int .i64 0, .int .i64 0, .int .i64 0, .int .i64 0, .string ⟨#[]⟩, .complex .f64 0 0, .int .i64 0, .int .i64 0, .string ⟨#[]⟩, .complex .f64 0 0, .complex .f64 0 0, .complex .f64 0 0] #[.int .i64 1, .int .i64 r, .int .i64 0, .int .i64 1, .int .i64 lo, .string ⟨#[]⟩, .complex .f64 0 0, .int .i64 1, .int .i64 hi, .string ⟨#[]⟩, .complex .f64 0 0, .complex .f64 0 0, .complex .f64 0 0] rfl rfl HZ8.out (show 0 + 13 ≤ 13 by omega) rfl size126 (one_s r lo hi) ?_)
        refine bodyPost_ret (results_cell1 rfl _ _ z 126 _ _ rfl (setRow_heap' _ z _ _ 126 HZ8.out) size126 st126) rfl ?_
        have hRB : RB (w8.setRow z #[.int .i64 1, .int .i64 r, .int .i64 0, .int .i64 1, .int .i64 lo, .string ⟨#[]⟩, .complex .f64 0 0, .int .i64 1, .int .i64 hi, .string ⟨#[]⟩, .complex .f64 0 0, .complex .f64 0 0, .complex .f64 0 0]) b A n c f ((p + (statB r lo hi).length : Nat) : Int) 0 := HSET.out.eq (Go.NR.setRow_else _ z _ b HZB.out.1.symm)
        have hGR : w.grownBy (w8.setRow z #[.int .i64 1, .int .i64 r, .int .i64 0, .int .i64 1, .int .i64 lo, .string ⟨#[]⟩, .complex .f64 0 0, .int .i64 1, .int .i64 hi, .string ⟨#[]⟩, .complex .f64 0 0, .complex .f64 0 0, .complex .f64 0 0]) (some b) := grown_row (grown_trans (grown_trans (grown_below WB.out _) (grown_below HW7.out _)) HG8.out) HZB.out.2.2.1
        exact ⟨rfl, hRB, hGR⟩
      exact AllReadyH.nil
    exact AllReadyH.nil
  refine AllReadyH.cons (o := { dst := some 6, op := Op.alloc 126, type := 0, pos := "read.go:89", after := #[], guard := none }) rfl (fun K hK => ?_) ?_
  · skip
    go_simp
    have K1 : Hid (Below w1.heap.size w1 (V0.alloc (.cells #[.int .i64 0, .int .i64 0, .int .i64 0, .int .i64 0, .int .i64 0, .string ⟨#[]⟩, .complex .f64 0 0, .int .i64 0, .int .i64 0, .string ⟨#[]⟩, .complex .f64 0 0, .complex .f64 0 0, .complex .f64 0 0] 126))) := Lib.hid (K0.out.trans (((Below.refl V0.heap.size V0).alloc (Nat.le_refl _) _).mono K0.out.size))
    have HN := Lib.hid (heap_alloc_new V0 (.cells #[.int .i64 0, .int .i64 0, .int .i64 0, .int .i64 0, .int .i64 0, .string ⟨#[]⟩, .complex .f64 0 0, .int .i64 0, .int .i64 0, .string ⟨#[]⟩, .complex .f64 0 0, .complex .f64 0 0, .complex .f64 0 0] 126))
    have HAB : Hid (Below V0.heap.size V0 (V0.alloc (.cells #[.int .i64 0, .int .i64 0, .int .i64 0, .int .i64 0, .int .i64 0, .string ⟨#[]⟩, .complex .f64 0 0, .int .i64 0, .int .i64 0, .string ⟨#[]⟩, .complex .f64 0 0, .complex .f64 0 0, .complex .f64 0 0] 126))) := Lib.hid ((Below.refl V0.heap.size V0).alloc (Nat.le_refl _) _)
    have HASZ : Hid ((V0.alloc (.cells #[.int .i64 0, .int .i64 0, .int .i64 0, .int .i64 0, .int .i64 0, .string ⟨#[]⟩, .complex .f64 0 0, .int .i64 0, .int .i64 0, .string ⟨#[]⟩, .complex .f64 0 0, .complex .f64 0 0, .complex .f64 0 0] 126)).heap.size = V0.heap.size + 1) := Lib.hid (by simp)
    obtain ⟨s6, hs6⟩ : ∃ s6, V0.heap.size = s6 := ⟨_, rfl⟩
    obtain ⟨V1, hv1⟩ : ∃ V, V0.alloc (.cells #[.int .i64 0, .int .i64 0, .int .i64 0, .int .i64 0, .int .i64 0, .string ⟨#[]⟩, .complex .f64 0 0, .int .i64 0, .int .i64 0, .string ⟨#[]⟩, .complex .f64 0 0, .complex .f64 0 0, .complex .f64 0 0] 126) = V := ⟨_, rfl⟩
    have HS6 : Hid (s6 ≠ b ∧ s6 ≠ z ∧ w1.heap.size ≤ s6) := Lib.hid (by have h1 := K0.out.size; have h2 := HZB.out; refine ⟨?_, ?_, ?_⟩ <;> omega)
    have HSQ : Hid (V0.heap.size = s6) := Lib.hid hs6
    rw [hv1] at K1 HN HAB HASZ
    rw [hs6] at HN HASZ
    (try rw [hv1])
    (try rw [hs6])
    skip
    clear hv1 hs6
    refine hK.out _ _ ?_ (fun hHeld => ?_)
    · exact ⟨cellW H0.out K1.out, cellW H2.out K1.out⟩
    clear hK K
    try simp only [Act.put, List.setIfInBounds_toArray, List.set_cons_zero, List.set_cons_succ]
    refine wpAnyH_ready (rs := [9]) (by kernel_rfl) (by simp) ?_
    refine AllReadyH.cons (o := { dst := some 25, op := Op.call { callee := Callee.value (Operand.tmp 16), args := #[Operand.tmp 20, Operand.tmp 24], argTypes := #[50, 3] }, type := 173, pos := "read.go:89", after := #[{ on := 0, ground := Ground.data }, { on := 4, ground := Ground.data }, { on := 8, ground := Ground.data }], guard := none }) rfl (fun K hK => ?_) ?_
    · skip
      go_simp
      refine (Try.statGet V1 (HR.out.dat.below K1.out) hn hpn hd hr hr2 hlh hh).mono ?_
      rintro x V2 ⟨rfl, hcb⟩
      unfold scl
      have K2 : Hid (Below w1.heap.size w1 V2) := Lib.hid (K1.out.trans (hcb.mono K1.out.size))
      have HN2 := Lib.hid ((hcb.block s6 (Go.NR.heap_lt HN.out)).trans HN.out)
      skip
      refine hK.out _ _ ?_ (fun hHeld => ?_)
      · exact ⟨cellW H0.out K2.out, cellW H2.out K2.out⟩
      clear hK K
      try simp only [Act.put, List.setIfInBounds_toArray, List.set_cons_zero, List.set_cons_succ]
      refine wpAnyH_take (i := 10) (oi := { dst := some 15, op := Op.move (Operand.tmp 25), type := 173, pos := "read.go:89", after := #[{ on := 9, ground := Ground.data }], guard := none }) (v := ?_) rfl (by kernel_rfl) (by kernel_rfl) (by kernel_rfl) (fun _ _ _ h => h) (Or.inl ⟨by rfl, ?_⟩) (by assumption) ?_
      rotate_left
      · (intro w hSw; (try dsimp only at hSw); go_simp; try with_reducible rfl)
      try simp only [Act.put, List.setIfInBounds_toArray, List.set_cons_zero, List.set_cons_succ]
      refine wpAnyH_take (i := 11) (oi := { dst := some 26, op := Op.extract (Operand.tmp 15) 0, type := 126, pos := "read.go:89", after := #[{ on := 10, ground := Ground.data }], guard := none }) (v := ?_) rfl (by kernel_rfl) (by kernel_rfl) (by kernel_rfl) (fun _ _ _ h => h) (Or.inl ⟨by rfl, ?_⟩) (by assumption) ?_
      rotate_left
      · (intro w hSw; (try dsimp only at hSw); go_simp; try with_reducible rfl)
      try simp only [Act.put, List.setIfInBounds_toArray, List.set_cons_zero, List.set_cons_succ]
      refine wpAnyH_take (i := 12) (oi := { dst := some 27, op := Op.extract (Operand.tmp 15) 1, type := 3, pos := "read.go:89", after := #[{ on := 10, ground := Ground.data }, { on := 15, ground := Ground.gcOnly Departure.lateStores }], guard := none }) (v := ?_) rfl (by kernel_rfl) (by kernel_rfl) (by kernel_rfl) (fun _ _ _ h => h) (Or.inl ⟨by rfl, ?_⟩) (by assumption) ?_
      rotate_left
      · (intro w hSw; (try dsimp only at hSw); go_simp; try with_reducible rfl)
      try simp only [Act.put, List.setIfInBounds_toArray, List.set_cons_zero, List.set_cons_succ]
      refine wpAnyH_take (i := 13) (oi := { dst := some 28, op := Op.extract (Operand.tmp 15) 2, type := 51, pos := "read.go:89", after := #[{ on := 10, ground := Ground.data }, { on := 16, ground := Ground.gcOnly Departure.lateStores }], guard := none }) (v := ?_) rfl (by kernel_rfl) (by kernel_rfl) (by kernel_rfl) (fun _ _ _ h => h) (Or.inl ⟨by rfl, ?_⟩) (by assumption) ?_
      rotate_left
      · (intro w hSw; (try dsimp only at hSw); go_simp; try with_reducible rfl)
      try simp only [Act.put, List.setIfInBounds_toArray, List.set_cons_zero, List.set_cons_succ]
      refine wpAnyH_ready (rs := [15]) (by kernel_rfl) (by simp) ?_
      refine AllReadyH.cons (o := { dst := none, op := Op.store 126 (Operand.tmp 6) (Operand.tmp 26), type := 0, pos := "read.go:89", after := #[{ on := 14, ground := Ground.data }, { on := 11, ground := Ground.data }, { on := 9, ground := Ground.chain }, { on := 0, ground := Ground.phase }, { on := 1, ground := Ground.phase }, { on := 2, ground := Ground.phase }, { on := 3, ground := Ground.phase }, { on := 4, ground := Ground.phase }, { on := 5, ground := Ground.phase }, { on := 6, ground := Ground.phase }, { on := 7, ground := Ground.phase }, { on := 8, ground := Ground.phase }, { on := 9, ground := Ground.phase }, { on := 10, ground := Ground.phase }, { on := 11, ground := Ground.phase }, { on := 12, ground := Ground.textOnly Departure.lateStores }, { on := 13, ground := Ground.textOnly Departure.lateStores }, { on := 14, ground := Ground.phase }], guard := none }) rfl (fun K hK => ?_) ?_
      · skip
        have HX6 := HN2
        have HBW7 : Hid (Below w1.heap.size w1 (V2.setRow s6 #[.int .i64 1, .int .i64 r, .int .i64 0, .int .i64 1, .int .i64 lo, .string ⟨#[]⟩, .complex .f64 0 0, .int .i64 1, .int .i64 hi, .string ⟨#[]⟩, .complex .f64 0 0, .complex .f64 0 0, .complex .f64 0 0])) := Lib.hid (Below.setRow K2.out HS6.out.2.2 _)
        have HX7 : Hid ((V2.setRow s6 #[.int .i64 1, .int .i64 r, .int .i64 0, .int .i64 1, .int .i64 lo, .string ⟨#[]⟩, .complex .f64 0 0, .int .i64 1, .int .i64 hi, .string ⟨#[]⟩, .complex .f64 0 0, .complex .f64 0 0, .complex .f64 0 0]).heap[s6]? = some (.cells #[.int .i64 1, .int .i64 r, .int .i64 0, .int .i64 1, .int .i64 lo, .string ⟨#[]⟩, .complex .f64 0 0, .int .i64 1, .int .i64 hi, .string ⟨#[]⟩, .complex .f64 0 0, .complex .f64 0 0, .complex .f64 0 0] 126 (0, 0))) := Lib.hid (setRow_heap' _ s6 _ _ 126 HN2.out)
        have HRB : Hid (RB (V2.setRow s6 #[.int .i64 1, .int .i64 r, .int .i64 0, .int .i64 1, .int .i64 lo, .string ⟨#[]⟩, .complex .f64 0 0, .int .i64 1, .int .i64 hi, .string ⟨#[]⟩, .complex .f64 0 0, .complex .f64 0 0, .complex .f64 0 0]) b A n c f p 0) := Lib.hid (HR.out.rb.eq (HBW7.out.block b (by have := HZB.out; omega)))
        have HZ7 : Hid ((V2.setRow s6 #[.int .i64 1, .int .i64 r, .int .i64 0, .int .i64 1, .int .i64 lo, .string ⟨#[]⟩, .complex .f64 0 0, .int .i64 1, .int .i64 hi, .string ⟨#[]⟩, .complex .f64 0 0, .complex .f64 0 0, .complex .f64 0 0]).heap[z]? = some (.cells #[.int .i64 0, .int .i64 0, .int .i64 0, .int .i64 0, .int .i64 0, .string ⟨#[]⟩, .complex .f64 0 0, .int .i64 0, .int .i64 0, .string ⟨#[]⟩, .complex .f64 0 0, .complex .f64 0 0, .complex .f64 0 0] 126 (0, 0))) := Lib.hid ((HBW7.out.block z HZB.out.2.2.2).trans HZ.out)
        skip
        refine oper_store_at _ 126 (.tmp 6) (.tmp 26) rfl s6 126 0 #[.int .i64 1, .int .i64 r, .int .i64 0, .int .i64 1, .int .i64 lo, .string ⟨#[]⟩, .complex .f64 0 0, .int .i64 1, .int .i64 hi, .string ⟨#[]⟩, .complex .f64 0 0, .complex .f64 0 0, .complex .f64 0 0] #[.int .i64 0, .int .i64 0, .int .i64 0, .int .i64 0, .int .i64 0, .string ⟨#[]⟩, .complex .f64 0 0, .int .i64 0, .int .i64 0, .string ⟨#[]⟩, .complex .f64 0 0, .complex .f64 0 0, .complex .f64 0 0] #[.int .i64 1, .int .i64 r, .int .i64 0, .int .i64 1, .int .i64 lo, .string ⟨#[]⟩, .complex .f64 0 0, .int .i64 1, .int .i64 hi, .string ⟨#[]⟩, .complex .f64 0 0, .complex .f64 0 0, .complex .f64 0 0] rfl rfl HN2.out (show 0 + 13 ≤ 13 by omega) rfl size126 (one_s r lo hi) ?_
        refine hK.out _ _ ?_ (fun hHeld => ?_)
        · exact ⟨(World.cell?_of_block (Go.NR.setRow_else _ s6 _ b HS6.out.1.symm)).trans (cellW H0.out K2.out), (World.cell?_of_block (Go.NR.setRow_else _ s6 _ b HS6.out.1.symm)).trans (cellW H2.out K2.out)⟩
        clear hK K
        try simp only [Act.put, List.setIfInBounds_toArray, List.set_cons_zero, List.set_cons_succ]
        refine wpAnyH_take (i := 16) (oi := { dst := some 7, op := Op.assign (Operand.tmp 27), type := 3, pos := "read.go:89", after := #[{ on := 12, ground := Ground.data }, { on := 15, ground := Ground.chain }, { on := 0, ground := Ground.phase }, { on := 1, ground := Ground.phase }, { on := 2, ground := Ground.phase }, { on := 3, ground := Ground.phase }, { on := 4, ground := Ground.phase }, { on := 5, ground := Ground.phase }, { on := 6, ground := Ground.phase }, { on := 7, ground := Ground.phase }, { on := 8, ground := Ground.phase }, { on := 9, ground := Ground.phase }, { on := 10, ground := Ground.phase }, { on := 11, ground := Ground.phase }, { on := 12, ground := Ground.phase }, { on := 13, ground := Ground.textOnly Departure.lateStores }, { on := 14, ground := Ground.phase }, { on := 15, ground := Ground.phase }], guard := none }) (v := ?_) rfl (by kernel_rfl) (by kernel_rfl) (by kernel_rfl) (fun _ _ _ h => h) (Or.inl ⟨by rfl, ?_⟩) (by assumption) ?_
        rotate_left
        · (intro w hSw; (try dsimp only at hSw); go_simp; try with_reducible rfl)
        try simp only [Act.put, List.setIfInBounds_toArray, List.set_cons_zero, List.set_cons_succ]
        refine wpAnyH_take (i := 17) (oi := { dst := some 8, op := Op.assign (Operand.tmp 28), type := 51, pos := "read.go:89", after := #[{ on := 13, ground := Ground.data }, { on := 16, ground := Ground.chain }, { on := 0, ground := Ground.phase }, { on := 1, ground := Ground.phase }, { on := 2, ground := Ground.phase }, { on := 3, ground := Ground.phase }, { on := 4, ground := Ground.phase }, { on := 5, ground := Ground.phase }, { on := 6, ground := Ground.phase }, { on := 7, ground := Ground.phase }, { on := 8, ground := Ground.phase }, { on := 9, ground := Ground.phase }, { on := 10, ground := Ground.phase }, { on := 11, ground := Ground.phase }, { on := 12, ground := Ground.phase }, { on := 13, ground := Ground.phase }, { on := 14, ground := Ground.phase }, { on := 15, ground := Ground.phase }, { on := 16, ground := Ground.phase }], guard := none }) (v := ?_) rfl (by kernel_rfl) (by kernel_rfl) (by kernel_rfl) (fun _ _ _ h => h) (Or.inl ⟨by rfl, ?_⟩) (by assumption) ?_
        rotate_left
        · (intro w hSw; (try dsimp only at hSw); go_simp; try with_reducible rfl)
        try simp only [Act.put, List.setIfInBounds_toArray, List.set_cons_zero, List.set_cons_succ]
        refine wpAnyH_done (by kernel_rfl) ?_ _
        refine NoPanic.normal ?_
        obtain ⟨w7, hw7⟩ : ∃ w7, V2.setRow s6 #[.int .i64 1, .int .i64 r, .int .i64 0, .int .i64 1, .int .i64 lo, .string ⟨#[]⟩, .complex .f64 0 0, .int .i64 1, .int .i64 hi, .string ⟨#[]⟩, .complex .f64 0 0, .complex .f64 0 0, .complex .f64 0 0] = w7 := ⟨_, rfl⟩
        rw [hw7] at HBW7 HX7 HRB HZ7
        (try rw [hw7] at hHeld)
        (try rw [hw7])
        clear hw7
        have hrb6 := HRB.out
        have c2 := hrb6.c2
        have f2 := frozen_of_row w7 b 2 _ 138 hrb6
        have HW7 : Hid (Below w1.heap.size w1 w7) := Lib.hid HBW7.out
        clear hHeld
        go_upto_region 9 with fail
        have hset := hrb6.set2 (((p + (statB r lo hi).length : Nat)) : Int)
        have s2 : (p : Int) + (((statB r lo hi).length : Nat) : Int) = ((p + (statB r lo hi).length : Nat) : Int) := by omega
        (try rw [s2])
        obtain ⟨w8, hw8⟩ : ∃ w8, w7.setCell ⟨b, 2, none⟩ (.int .i64 ((p + (statB r lo hi).length : Nat) : Int)) = w8 := ⟨_, rfl⟩
        have hg8 : w7.grownBy w8 (some b) := by rw [← hw8]; exact grown_set _ _ _ _
        rw [hw8] at hset
        (try rw [hw8])
        have HSET := Lib.hid hset
        have HX8 := Lib.hid ((hg8.block s6 (Go.NR.heap_lt HX7.out) (fun e => HS6.out.1 (by cases e; rfl))).trans HX7.out)
        have HZ8 := Lib.hid ((hg8.block z (Go.NR.heap_lt HZ7.out) (fun e => HZB.out.1 (by cases e; rfl))).trans HZ7.out)
        have HG8 := Lib.hid hg8
        clear hset s2 hw8 hg8 c2 f2 hrb6
        have X0 := cell_of_row w8 s6 0 _ 126 _ HX8.out
        have X1 := cell_of_row w8 s6 1 _ 126 _ HX8.out
        have X2 := cell_of_row w8 s6 2 _ 126 _ HX8.out
        have X3 := cell_of_row w8 s6 3 _ 126 _ HX8.out
        have X4 := cell_of_row w8 s6 4 _ 126 _ HX8.out
        have X5 := cell_of_row w8 s6 5 _ 126 _ HX8.out
        have X6 := cell_of_row w8 s6 6 _ 126 _ HX8.out
        have X7 := cell_of_row w8 s6 7 _ 126 _ HX8.out
        have X8 := cell_of_row w8 s6 8 _ 126 _ HX8.out
        have X9 := cell_of_row w8 s6 9 _ 126 _ HX8.out
        have X10 := cell_of_row w8 s6 10 _ 126 _ HX8.out
        have X11 := cell_of_row w8 s6 11 _ 126 _ HX8.out
        have X12 := cell_of_row w8 s6 12 _ 126 _ HX8.out
        simp at X0 X1 X2 X3 X4 X5 X6 X7 X8 X9 X10 X11 X12
        go_wp2_with (refine wpList_store_at w8 rfl 126 (.tmp 4) (.tmp 44) rfl z 126 0 #[.int .i64 1, .int .i64 r, .int .i64 0, .int .i64 1, .int .i64 lo, .string ⟨#[]⟩, .complex .f64 0 0, .int .i64 1, .int .i64 hi, .string ⟨#[]⟩, .complex .f64 0 0, .complex .f64 0 0, .complex .f64 0 0] #[.int .i64 0, .int .i64 0, .int .i64 0, .int .i64 0, .int .i64 0, .string ⟨#[]⟩, .complex .f64 0 0, .int .i64 0, .int .i64 0, .string ⟨#[]⟩, .complex .f64 0 0, .complex .f64 0 0, .complex .f64 0 0] #[.int .i64 1, .int .i64 r, .int .i64 0, .int .i64 1, .int .i64 lo, .string ⟨#[]⟩, .complex .f64 0 0, .int .i64 1, .int .i64 hi, .string ⟨#[]⟩, .complex .f64 0 0, .complex .f64 0 0, .complex .f64 0 0] rfl rfl HZ8.out (show 0 + 13 ≤ 13 by omega) rfl size126 (one_s r lo hi) ?_)
        refine bodyPost_ret (results_cell1 rfl _ _ z 126 _ _ rfl (setRow_heap' _ z _ _ 126 HZ8.out) size126 st126) rfl ?_
        have hRB : RB (w8.setRow z #[.int .i64 1, .int .i64 r, .int .i64 0, .int .i64 1, .int .i64 lo, .string ⟨#[]⟩, .complex .f64 0 0, .int .i64 1, .int .i64 hi, .string ⟨#[]⟩, .complex .f64 0 0, .complex .f64 0 0, .complex .f64 0 0]) b A n c f ((p + (statB r lo hi).length : Nat) : Int) 0 := HSET.out.eq (Go.NR.setRow_else _ z _ b HZB.out.1.symm)
        have hGR : w.grownBy (w8.setRow z #[.int .i64 1, .int .i64 r, .int .i64 0, .int .i64 1, .int .i64 lo, .string ⟨#[]⟩, .complex .f64 0 0, .int .i64 1, .int .i64 hi, .string ⟨#[]⟩, .complex .f64 0 0, .complex .f64 0 0, .complex .f64 0 0]) (some b) := grown_row (grown_trans (grown_trans (grown_below WB.out _) (grown_below HW7.out _)) HG8.out) HZB.out.2.2.1
        exact ⟨rfl, hRB, hGR⟩
      exact AllReadyH.nil
    exact AllReadyH.nil
  exact AllReadyH.nil
end Go.Proofs.Ytfblhcphbcghpaa
end

section
namespace Go.Proofs.Ytfblhcphbcghpaa
open Go.RowKit
set_option maxRecDepth 100000
set_option maxHeartbeats 16000000 in
theorem Try.getChunk {W w : World} {b : Nat} {A : Option Addr} {n c : Nat} {l : List UInt8} {f : Int} {p : Nat} (h : RdIn W w b A n c l f p 0) {qa qn r lo hi : Nat} {rest : List UInt8} (hd : l.drop p = chunkB qa qn r lo hi ++ rest) (ha : qa ≤ 1024) (hqn : qn ≤ 1024) (hr : 1 ≤ r) (hr2 : r ≤ 64) (hlh : lo ≤ hi) (hh : hi ≤ 1000) :
    Calls Try.prog 67 #[.pointer (some ⟨b, 0, none⟩)] w fun y w' => y = .returned (.agg #[.int .i64 qa, .int .i64 qn, .int .i64 1, .int .i64 r, .int .i64 0, .int .i64 1, .int .i64 lo, .string ⟨#[]⟩, .complex .f64 0 0, .int .i64 1, .int .i64 hi, .string ⟨#[]⟩, .complex .f64 0 0, .complex .f64 0 0, .complex .f64 0 0]) ∧ Rd w b A n c f ((p + (chunkB qa qn r lo hi).length : Nat) : Int) 0 w' := by
  have hln := h.di.len
  rw [show chunkB qa qn r lo hi ++ rest = encN qa ++ (encN qn ++ (statB r lo hi ++ rest)) by simp [chunkB]] at hd
  obtain ⟨l1, d1⟩ := drop_fit hd (by rw [hln]; exact h.hp)
  obtain ⟨l2, d2⟩ := drop_fit d1 l1
  rw [hln] at l1 l2
  have HLEN : Hid (p + (encN qa).length + (encN qn).length + (statB r lo hi).length = p + (chunkB qa qn r lo hi).length) := Lib.hid (by unfold chunkB; simp only [List.length_append]; omega)
  have HD0 := Lib.hid hd
  have HD1 := Lib.hid d1
  have HD2 := Lib.hid d2
  have HL1 := Lib.hid l1
  have HL2 := Lib.hid l2
  have hb1 := ((Below.refl _ w).alloc (Nat.le_refl _) (.cells #[.int .i64 0, .int .i64 0, .int .i64 0, .int .i64 0, .int .i64 0, .int .i64 0, .int .i64 0, .string ⟨#[]⟩, .complex .f64 0 0, .int .i64 0, .int .i64 0, .string ⟨#[]⟩, .complex .f64 0 0, .complex .f64 0 0, .complex .f64 0 0] 128))
  have hn1 := heap_alloc_new w (.cells #[.int .i64 0, .int .i64 0, .int .i64 0, .int .i64 0, .int .i64 0, .int .i64 0, .int .i64 0, .string ⟨#[]⟩, .complex .f64 0 0, .int .i64 0, .int .i64 0, .string ⟨#[]⟩, .complex .f64 0 0, .complex .f64 0 0, .complex .f64 0 0] 128)
  obtain ⟨w1, hw1⟩ : ∃ w1, w.alloc (.cells #[.int .i64 0, .int .i64 0, .int .i64 0, .int .i64 0, .int .i64 0, .int .i64 0, .int .i64 0, .string ⟨#[]⟩, .complex .f64 0 0, .int .i64 0, .int .i64 0, .string ⟨#[]⟩, .complex .f64 0 0, .complex .f64 0 0, .complex .f64 0 0] 128) = w1 := ⟨_, rfl⟩
  obtain ⟨z, hz⟩ : ∃ z, w.heap.size = z := ⟨_, rfl⟩
  rw [hw1] at hb1 hn1
  have HR := Lib.hid (h.set hb1)
  have HZB : Hid (z ≠ b ∧ w.heap.size ≤ z) := Lib.hid ⟨by have := h.rb.lt; omega, Nat.le_of_eq hz⟩
  rw [hz] at hn1
  have WB := Lib.hid hb1
  have HZ := Lib.hid hn1
  have g1 : decide ((qa : Int) ≤ 1024) = true := decide_eq_true (by omega)
  have g1' : decide (qa ≤ 1024) = true := decide_eq_true ha
  have g2 : decide ((qn : Int) ≤ 1024) = true := decide_eq_true (by omega)
  have g2' : decide (qn ≤ 1024) = true := decide_eq_true hqn
  clear hb1 hn1 h hd d1 d2 l1 l2 hln
  go_enter Try.func67, Try.ntmps67
  go_upto_region 1 with fail
  (try rw [hw1])
  (try rw [hz])
  clear hw1 hz
  go_wp2_with fail
  refine (Try.numI HR.out HD0.out (by omega)).mono ?_
  rintro y w2 ⟨rfl, hr2'⟩
  have R2 := Lib.hid (HR.out.next hr2' HL1.out)
  have G2 := Lib.hid (grown_trans (grown_below WB.out (some b)) hr2'.2)
  have HZ2 := Lib.hid ((hr2'.2.block z (Go.NR.heap_lt HZ.out) (fun e => HZB.out.1 (by cases e; rfl))).trans HZ.out)
  clear hr2' HR HZ
  go_wp2_with fail
  refine (Try.numI R2.out HD1.out (by omega)).mono ?_
  rintro y w3 ⟨rfl, hr3⟩
  have R3 := Lib.hid (R2.out.next hr3 HL2.out)
  have G3 := Lib.hid (grown_trans G2.out hr3.2)
  have HZ3 := Lib.hid ((hr3.2.block z (Go.NR.heap_lt HZ2.out) (fun e => HZB.out.1 (by cases e; rfl))).trans HZ2.out)
  clear hr3 R2 HZ2 G2
  go_wp2_with fail
  refine (Try.rneed R3.out.rb true 1 0 (by simp)).mono ?_
  rintro y w4 ⟨rfl, hr4⟩
  have R4 := Lib.hid (R3.out.next hr4 HL2.out)
  have G4 := Lib.hid (grown_trans G3.out hr4.2)
  have HZ4 := Lib.hid ((hr4.2.block z (Go.NR.heap_lt HZ3.out) (fun e => HZB.out.1 (by cases e; rfl))).trans HZ3.out)
  clear hr4 R3 HZ3 G3 g1 g1' g2 g2'
  go_wp2_with fail
  refine (Try.rofStat R4.out HD2.out hr hr2 hlh hh).mono ?_
  rintro y w5 ⟨rfl, hr5⟩
  rw [HLEN.out] at hr5
  have HRB := Lib.hid hr5.1
  have G5 := Lib.hid (grown_trans G4.out hr5.2)
  have HZ5 := Lib.hid ((hr5.2.block z (Go.NR.heap_lt HZ4.out) (fun e => HZB.out.1 (by cases e; rfl))).trans HZ4.out)
  clear hr5 R4 HZ4 G4
  unfold scl
  go_wp2_with (refine wpList_store_at w5 rfl 128 (.tmp 2) (.tmp 24) rfl z 128 0 #[.int .i64 qa, .int .i64 qn, .int .i64 1, .int .i64 r, .int .i64 0, .int .i64 1, .int .i64 lo, .string ⟨#[]⟩, .complex .f64 0 0, .int .i64 1, .int .i64 hi, .string ⟨#[]⟩, .complex .f64 0 0, .complex .f64 0 0, .complex .f64 0 0] #[.int .i64 0, .int .i64 0, .int .i64 0, .int .i64 0, .int .i64 0, .int .i64 0, .int .i64 0, .string ⟨#[]⟩, .complex .f64 0 0, .int .i64 0, .int .i64 0, .string ⟨#[]⟩, .complex .f64 0 0, .complex .f64 0 0, .complex .f64 0 0] #[.int .i64 qa, .int .i64 qn, .int .i64 1, .int .i64 r, .int .i64 0, .int .i64 1, .int .i64 lo, .string ⟨#[]⟩, .complex .f64 0 0, .int .i64 1, .int .i64 hi, .string ⟨#[]⟩, .complex .f64 0 0, .complex .f64 0 0, .complex .f64 0 0] rfl rfl HZ5.out (show 0 + 15 ≤ 15 by omega) rfl size128 (one_k qa qn r lo hi) ?_)
  refine bodyPost_ret (results_cell1 rfl _ _ z 128 _ _ rfl (setRow_heap' _ z _ _ 128 HZ5.out) size128 st128) rfl ?_
  exact ⟨rfl, HRB.out.eq (Go.NR.setRow_else _ z _ b HZB.out.1.symm), grown_row G5.out HZB.out.2⟩
end Go.Proofs.Ytfblhcphbcghpaa
end

section
namespace Go.Proofs.Ytfblhcphbcghpaa
open Go.RowKit
open Go.NR (At)
set_option maxRecDepth 100000
def lack (W : World) (s : Nat) : Nat := match W.cell? ⟨s, 1, none⟩ with
  | some (.slice none _ _) => 1
  | _ => 0
structure GGS (w1 W : World) (b z s : Nat) (A : Option Addr) (n c : Nat) (l : List UInt8) (p0 p : Nat) (rows : Int) (v : Value) : Prop where
  rd : RdIn w1 W b A n c l p0 p 0
  hs : W.heap[s]? = some (.cells #[.int .i64 rows, v] 79 (0, 0))
  hz : W.heap[z]? = some (.cells #[.int .i64 0, .slice none 0 0] 79 (0, 0))
  ne : s ≠ b ∧ z ≠ b ∧ z ≠ s ∧ z < w1.heap.size ∧ w1.heap.size ≤ s
theorem GGS.next {w1 W w' : World} {b z s : Nat} {A : Option Addr} {n c : Nat} {l : List UInt8} {p0 p p' : Nat} {rows : Int} {v : Value} (h : GGS w1 W b z s A n c l p0 p rows v) (hr : Rd W b A n c p0 p' 0 w') (hp : p' ≤ n) : GGS w1 w' b z s A n c l p0 p' rows v :=
  ⟨h.rd.next hr hp, (hr.2.block s (Go.NR.heap_lt h.hs) (fun e => h.ne.1 (by cases e; rfl))).trans h.hs, (hr.2.block z (Go.NR.heap_lt h.hz) (fun e => h.ne.2.1 (by cases e; rfl))).trans h.hz, h.ne⟩
theorem GGS.below {w1 W w' : World} {b z s : Nat} {A : Option Addr} {n c : Nat} {l : List UInt8} {p0 p : Nat} {rows : Int} {v : Value} (h : GGS w1 W b z s A n c l p0 p rows v) (hb : Below W.heap.size W w') : GGS w1 w' b z s A n c l p0 p rows v :=
  ⟨h.rd.set hb, (hb.block s (Go.NR.heap_lt h.hs)).trans h.hs, (hb.block z (Go.NR.heap_lt h.hz)).trans h.hz, h.ne⟩
def GrGot (w : World) (q : GQ) (x : Ending) (w' : World) : Prop := ∃ g cg, x = .returned (.tuple #[.agg #[.int .i64 q.r, .slice (some ⟨g, 0, none⟩) 1 cg], .int .i64 ((groupB q).length : Nat), .int .i64 0]) ∧ G1 w' w.heap.size g cg q.k ∧ Below w.heap.size w w'
set_option maxHeartbeats 16000000 in
theorem Try.groupGet (w : World) {A : Option Addr} {n c : Nat} {l : List UInt8} (hD : DI w A n c l) (hn : n ≤ 60000) {p : Nat} {q : GQ} {rest : List UInt8} (hp : p ≤ n) (hd : l.drop p = groupB q ++ rest) (hq : q.ok) :
    Calls Try.prog 37 #[.slice A n c, .int .i64 p] w (GrGot w q) := by
  have hln := hD.len
  rw [show groupB q ++ rest = encN q.r ++ (encN 1 ++ (chunkB q.a q.n q.r q.lo q.hi ++ rest)) by simp [groupB]] at hd
  obtain ⟨l1, d1⟩ := drop_fit hd (by rw [hln]; exact hp)
  obtain ⟨l2, d2⟩ := drop_fit d1 l1
  obtain ⟨l3, d3⟩ := drop_fit d2 l2
  rw [hln] at l1 l2 l3
  have HLEN : Hid (p + (encN q.r).length + (encN 1).length + (chunkB q.a q.n q.r q.lo q.hi).length = p + (groupB q).length) := Lib.hid (by unfold groupB; simp only [List.length_append]; omega)
  have HD0 := Lib.hid hd
  have HD1 := Lib.hid d1
  have HD2 := Lib.hid d2
  have HL1 := Lib.hid l1
  have HL2 := Lib.hid l2
  have HL3 := Lib.hid l3
  have HQ := Lib.hid hq
  have hr1 := hq.r
  have hr2 := hq.r2
  have hb1 := ((Below.refl _ w).alloc (Nat.le_refl _) (.cells #[.int .i64 0, .slice none 0 0] 79))
  have hn1 := heap_alloc_new w (.cells #[.int .i64 0, .slice none 0 0] 79)
  obtain ⟨w1, hw1⟩ : ∃ w1, w.alloc (.cells #[.int .i64 0, .slice none 0 0] 79) = w1 := ⟨_, rfl⟩
  obtain ⟨z, hz⟩ : ∃ z, w.heap.size = z := ⟨_, rfl⟩
  rw [hw1] at hb1 hn1
  have HDI := Lib.hid (hD.below hb1)
  have HZL : Hid (w.heap.size ≤ z) := Lib.hid (Nat.le_of_eq hz)
  rw [hz] at hn1
  have WB := Lib.hid hb1
  have HZ := Lib.hid hn1
  clear hb1 hn1 hD hd d1 d2 d3 l1 l2 l3 hln hq
  go_enter Try.func37, Try.ntmps37
  go_upto_region 1 with fail
  (try rw [hw1])
  (try rw [hz])
  clear hw1 hz
  go_wp2_with fail
  refine (Try.rnew w1 A n c p 0 hn (by rw [if_pos]; omega)).mono ?_
  rintro x w2 ⟨b, rfl, hlb, hrb0, hb2⟩
  have R2 : Hid (RdIn w1 w2 b A n c l (p : Nat) p 0) := Lib.hid ⟨hrb0, HDI.out, hb2, hlb, hn, hp⟩
  have HZ2 := Lib.hid ((hb2.block z (Go.NR.heap_lt HZ.out)).trans HZ.out)
  have HZB : Hid (z ≠ b ∧ z < w1.heap.size) := Lib.hid ⟨by have := Go.NR.heap_lt HZ.out; omega, Go.NR.heap_lt HZ.out⟩
  clear hlb hrb0 hb2 HZ
  go_wp2_with fail
  refine (Try.numI R2.out HD0.out (by omega)).mono ?_
  rintro y w3 ⟨rfl, hr3⟩
  have R3 := Lib.hid (R2.out.next hr3 HL1.out)
  have HZ3 := Lib.hid ((hr3.2.block z (Go.NR.heap_lt HZ2.out) (fun e => HZB.out.1 (by cases e; rfl))).trans HZ2.out)
  clear hr3 R2 HZ2
  have g1 : decide (1 ≤ (q.r : Int)) = true := decide_eq_true (by omega)
  have g1' : decide (1 ≤ q.r) = true := decide_eq_true hr1
  have g2 : decide ((q.r : Int) ≤ 64) = true := decide_eq_true (by omega)
  have g2' : decide (q.r ≤ 64) = true := decide_eq_true hr2
  go_wp2_with fail
  refine (Try.rneed R3.out.rb true 1 0 (by simp)).mono ?_
  rintro y w4 ⟨rfl, hr4⟩
  have R4 := Lib.hid (R3.out.next hr4 HL1.out)
  have HZ4 := Lib.hid ((hr4.2.block z (Go.NR.heap_lt HZ3.out) (fun e => HZB.out.1 (by cases e; rfl))).trans HZ3.out)
  clear hr4 R3 HZ3 g1 g1' g2 g2'
  go_wp2_with fail
  refine (Try.numI R4.out HD1.out (by decide)).mono ?_
  rintro y w5 ⟨rfl, hr5⟩
  have R5 := Lib.hid (R4.out.next hr5 HL2.out)
  have HZ5 := Lib.hid ((hr5.2.block z (Go.NR.heap_lt HZ4.out) (fun e => HZB.out.1 (by cases e; rfl))).trans HZ4.out)
  clear hr5 R4 HZ4
  go_wp2_with fail
  refine (Try.rneed R5.out.rb true 4 0 (by simp)).mono ?_
  rintro y w6 ⟨rfl, hr6⟩
  have R6 := Lib.hid (R5.out.next hr6 HL2.out)
  have HZ6 := Lib.hid ((hr6.2.block z (Go.NR.heap_lt HZ5.out) (fun e => HZB.out.1 (by cases e; rfl))).trans HZ5.out)
  clear hr6 R5 HZ5
  have s1 : IntKind.i64.wrap (q.r : Int) = (q.r : Int) := wrapi (by omega) (by omega)
  have hb7 := ((Below.refl w6.heap.size w6).alloc (Nat.le_refl _) (.cells #[.int .i64 q.r, .slice none 0 0] 79))
  have hn7 := heap_alloc_new w6 (.cells #[.int .i64 q.r, .slice none 0 0] 79)
  have HB7 := Lib.hid hb7
  have HN7 := Lib.hid hn7
  clear hb7 hn7
  obtain ⟨p2, hp2⟩ : ∃ p2, p + (encN q.r).length + (encN 1).length = p2 := ⟨_, rfl⟩
  rw [hp2] at R6 HD2 HLEN HL3
  clear HL1 HD0 HD1 HL2 hp2
  go_upto_region 7 with fail
  clear s1
  obtain ⟨w7, hw7⟩ : ∃ w7, w6.alloc (.cells #[.int .i64 q.r, .slice none 0 0] 79) = w7 := ⟨_, rfl⟩
  obtain ⟨s10, hs10⟩ : ∃ s10, w6.heap.size = s10 := ⟨_, rfl⟩
  have hb7 := HB7.out
  have hn7 := HN7.out
  rw [hw7] at hb7 hn7
  have HGS : Hid (GGS w1 w7 b z s10 A n c l p p2 q.r (.slice none 0 0)) := Lib.hid ⟨R6.out.set hb7, by rw [hs10] at hn7; exact hn7, (hb7.block z (Go.NR.heap_lt HZ6.out)).trans HZ6.out, by have := R6.out.rb.lt; omega, HZB.out.1, by have := Go.NR.heap_lt HZ6.out; omega, HZB.out.2, by rw [← hs10]; exact R6.out.bel.size⟩
  (try rw [hw7])
  (try rw [hs10])
  clear hb7 hn7 HB7 HN7 hw7 hs10 R6 HZ6
  go_loopw [44] (fun _ W => Hid (GGS w1 W b z s10 A n c l p p2 q.r (.slice none 0 0)) ∨ ∃ g cg, Hid (GGS w1 W b z s10 A n c l p (p + (groupB q).length) q.r (.slice (some ⟨g, 0, none⟩) 1 cg)) ∧ Hid (G1 W w1.heap.size g cg q.k)) (fun _ W => lack W s10)
  case atStart => exact .inl HGS
  case round =>
    rename World => W
    rcases hrel with HG0 | ⟨g, cg, HG1, HK⟩
    · clear HGS
      have z1 := cell_of_row W s10 1 _ 79 _ HG0.out.hs
      simp at z1
      have HL0 : Hid (lack W s10 = 1) := Lib.hid (by unfold lack; rw [z1])
      have HCL := Lib.hid z1
      go_wp2_with fail
      refine (Try.rerr HG0.out.rd.rb).mono ?_
      rintro y wb ⟨rfl, hwb⟩
      rw [hwb]
      clear hwb wb
      go_upto_region 8 with fail
      clear z1
      have HNE : Hid (∀ k, (Value.slice none 0 0).ownBlock = some k → k ≠ s10) := Lib.hid (fun k hk => by simp [Value.ownBlock] at hk)
      refine wp_region_noPanic ?_
      refine wp_region_held_drew (S := (fun _ => True)) (by kernel_rfl) ?_ (fun hHeld => ?_)
      · trivial
      obtain ⟨V0, hV0⟩ : ∃ V0, W.drew = V0 := ⟨_, rfl⟩
      have K0 : Hid (Below W.heap.size W V0) := Lib.hid (by rw [← hV0]; exact (Below.refl _ W).drew)
      rw [hV0]
      clear hV0
      refine wpAnyH_take (i := 0) (oi := { dst := some 45, op := Op.fieldAddr 79 (Operand.tmp 10) 1, type := 0, pos := "group.go:177", after := #[], guard := none }) (v := ?_) rfl (by kernel_rfl) (by kernel_rfl) (by kernel_rfl) (fun _ _ _ h => h) (Or.inl ⟨by rfl, ?_⟩) (by assumption) ?_
      rotate_left
      · (intro w hSw; (try dsimp only at hSw); go_simp; try with_reducible rfl)
      try simp only [Act.put, List.setIfInBounds_toArray, List.set_cons_zero, List.set_cons_succ]
      refine wpAnyH_take (i := 2) (oi := { dst := some 47, op := Op.move (Operand.tmp 7), type := 90, pos := "group.go:177", after := #[], guard := none }) (v := ?_) rfl (by kernel_rfl) (by kernel_rfl) (by kernel_rfl) (fun _ _ _ h => h) (Or.inl ⟨by rfl, ?_⟩) (by assumption) ?_
      rotate_left
      · (intro w hSw; (try dsimp only at hSw); go_simp; try with_reducible rfl)
      try simp only [Act.put, List.setIfInBounds_toArray, List.set_cons_zero, List.set_cons_succ]
      refine wpAnyH_ready (rs := [1, 3]) (by kernel_rfl) (by simp) ?_
      refine AllReadyH.cons (o := { dst := some 46, op := Op.load 77 (Operand.tmp 45), type := 77, pos := "group.go:177", after := #[{ on := 0, ground := Ground.data }], guard := none }) rfl (fun K hK => ?_) ?_
      · skip
        have p1 : V0.cell? ⟨s10, 1, none⟩ = some (.slice none 0 0) := cellW HCL.out K0.out
        go_simp
        clear p1
        refine hK.out _ _ ?_ (fun hHeld => ?_)
        · trivial
        clear hK K
        try simp only [Act.put, List.setIfInBounds_toArray, List.set_cons_zero, List.set_cons_succ]
        refine wpAnyH_ready (rs := [3]) (by kernel_rfl) (by simp) ?_
        refine AllReadyH.cons (o := { dst := some 48, op := Op.call { callee := Callee.value (Operand.func 67), args := #[Operand.tmp 47], argTypes := #[90] }, type := 128, pos := "group.go:177", after := #[{ on := 2, ground := Ground.data }], guard := none }) rfl (fun K hK => ?_) ?_
        · skip
          go_simp
          refine (Try.getChunk (HG0.out.rd.set K0.out) HD2.out HQ.out.a HQ.out.n hr1 hr2 HQ.out.l HQ.out.h).mono ?_
          rintro x V1 ⟨rfl, hr1c⟩
          rw [HLEN.out] at hr1c
          have GG1 := Lib.hid ((HG0.out.below K0.out).next hr1c (by have := HL3.out; have := HLEN.out; omega))
          have HS1 := Lib.hid GG1.out.hs
          have OW1 : Hid (V1.ownsRow w1.heap.size 128 15 (.slice none 0 0) 0 []) := Lib.hid (World.ownsRow_nil V1 w1.heap.size 128 15)
          have HBW1 : Hid (w1.heap.size ≤ V1.heap.size) := Lib.hid GG1.out.rd.bel.size
          clear hr1c
          have HCL1 : Hid (V1.cell? ⟨s10, 1, none⟩ = some (.slice none 0 0)) := Lib.hid (cell_of_row V1 s10 1 _ 79 _ HS1.out)
          refine hK.out _ _ ?_ (fun hHeld => ?_)
          · trivial
          clear hK K
          try simp only [Act.put, List.setIfInBounds_toArray, List.set_cons_zero, List.set_cons_succ]
          refine wpAnyH_ready (rs := [4]) (by kernel_rfl) (by simp) ?_
          refine AllReadyH.cons (o := { dst := some 49, op := Op.buildSlice 77 1 #[(0, Operand.tmp 48)], type := 77, pos := "group.go:177", after := #[{ on := 3, ground := Ground.data }], guard := none }) rfl (fun K hK => ?_) ?_
          · skip
            go_simp
            have K12 := Lib.hid ((Below.refl V1.heap.size V1).alloc (Nat.le_refl _) (.cells #[.int .i64 q.a, .int .i64 q.n, .int .i64 1, .int .i64 q.r, .int .i64 0, .int .i64 1, .int .i64 q.lo, .string ⟨#[]⟩, .complex .f64 0 0, .int .i64 1, .int .i64 q.hi, .string ⟨#[]⟩, .complex .f64 0 0, .complex .f64 0 0, .complex .f64 0 0] 128))
            have C2 := Lib.hid (Go.NR.at_alloc V1 #[.int .i64 q.a, .int .i64 q.n, .int .i64 1, .int .i64 q.r, .int .i64 0, .int .i64 1, .int .i64 q.lo, .string ⟨#[]⟩, .complex .f64 0 0, .int .i64 1, .int .i64 q.hi, .string ⟨#[]⟩, .complex .f64 0 0, .complex .f64 0 0, .complex .f64 0 0] 128)
            obtain ⟨gb, hgb⟩ : ∃ gb, V1.heap.size = gb := ⟨_, rfl⟩
            rw [hgb] at C2
            (try rw [hgb])
            obtain ⟨V2, hV2⟩ : ∃ V2, V1.alloc (.cells #[.int .i64 q.a, .int .i64 q.n, .int .i64 1, .int .i64 q.r, .int .i64 0, .int .i64 1, .int .i64 q.lo, .string ⟨#[]⟩, .complex .f64 0 0, .int .i64 1, .int .i64 q.hi, .string ⟨#[]⟩, .complex .f64 0 0, .complex .f64 0 0, .complex .f64 0 0] 128) = V2 := ⟨_, rfl⟩
            rw [hV2] at K12 C2
            (try rw [hV2])
            have O2 := Lib.hid (Go.NR.own_below OW1.out K12.out)
            clear hgb hV2
            refine hK.out _ _ ?_ (fun hHeld => ?_)
            · trivial
            clear hK K
            try simp only [Act.put, List.setIfInBounds_toArray, List.set_cons_zero, List.set_cons_succ]
            refine wpAnyH_ready (rs := [5]) (by kernel_rfl) (by simp) ?_
            refine AllReadyH.cons (o := { dst := some 50, op := Op.call { callee := Callee.builtin Builtin.append, args := #[Operand.tmp 46, Operand.tmp 49], argTypes := #[77, 77] }, type := 77, pos := "group.go:177", after := #[{ on := 1, ground := Ground.data }, { on := 4, ground := Ground.data }, { on := 3, ground := Ground.chain }], guard := none }) rfl (fun K hK => ?_) ?_
            · skip
              refine Go.NR.oper_app Try.E77 (.tmp 46) (.tmp 49) rfl w1.heap.size (.slice none 0 0) (0) ([]) rfl O2.out gb 1 1 (q.k.toList) rfl rfl C2.out (one_k q.a q.n q.r q.lo q.hi) (by omega) (by decide) (by have := K12.out.size; have := HBW1.out; omega) ?_
              intro v3 V3 o3 g3 w3
              obtain ⟨g3', c3', rfl, hg3, hg3', hc3, hc3', _, _⟩ := Go.NR.own_at o3 (by omega)
              have HC3 := Lib.hid (And.intro hg3 (And.intro hc3 hc3'))
              obtain ⟨a1, a2, a3, a4⟩ := Go.NR.app_store (off := 1) K12.out OW1.out o3 g3 w3 HS1.out HNE.out
              have O4 := Lib.hid a1
              have S4 := Lib.hid a2
              have G4 := Lib.hid a3
              have N4 := Lib.hid a4
              have W3 := Lib.hid w3
              have G3 := Lib.hid g3
              have H3s := Lib.hid ((Go.NR.app_keep K12.out g3 s10 (Go.NR.heap_lt HS1.out) (fun e => HNE.out s10 e rfl)).trans HS1.out)
              clear a1 a2 a3 a4 o3 g3 w3 hg3 hg3' hc3 hc3'
              refine hK.out _ _ ?_ (fun hHeld => ?_)
              · trivial
              clear hK K
              try simp only [Act.put, List.setIfInBounds_toArray, List.set_cons_zero, List.set_cons_succ]
              refine wpAnyH_take (i := 6) (oi := { dst := some 51, op := Op.fieldAddr 79 (Operand.tmp 10) 1, type := 0, pos := "group.go:177", after := #[{ on := 0, ground := Ground.phase }, { on := 1, ground := Ground.phase }, { on := 2, ground := Ground.phase }, { on := 3, ground := Ground.phase }, { on := 4, ground := Ground.phase }, { on := 5, ground := Ground.phase }], guard := none }) (v := ?_) rfl (by kernel_rfl) (by kernel_rfl) (by kernel_rfl) (fun _ _ _ h => h) (Or.inl ⟨by rfl, ?_⟩) (by assumption) ?_
              rotate_left
              · (intro w hSw; (try dsimp only at hSw); go_simp; try with_reducible rfl)
              try simp only [Act.put, List.setIfInBounds_toArray, List.set_cons_zero, List.set_cons_succ]
              refine wpAnyH_ready (rs := [7]) (by kernel_rfl) (by simp) ?_
              refine AllReadyH.cons (o := { dst := none, op := Op.store 77 (Operand.tmp 51) (Operand.tmp 50), type := 0, pos := "group.go:177", after := #[{ on := 6, ground := Ground.data }, { on := 5, ground := Ground.data }, { on := 5, ground := Ground.chain }, { on := 0, ground := Ground.phase }, { on := 1, ground := Ground.phase }, { on := 2, ground := Ground.phase }, { on := 3, ground := Ground.phase }, { on := 4, ground := Ground.phase }, { on := 5, ground := Ground.phase }], guard := none }) rfl (fun K hK => ?_) ?_
              · skip
                have z3 := frozen_of_row V3 s10 1 _ 79 H3s.out
                have c3 := cell_of_row V3 s10 1 _ 79 _ H3s.out
                simp at c3
                go_simp
                refine hK.out _ _ ?_ (fun hHeld => ?_)
                · trivial
                clear hK K
                try simp only [Act.put, List.setIfInBounds_toArray, List.set_cons_zero, List.set_cons_succ]
                refine wpAnyH_done (by kernel_rfl) ?_ _
                refine NoPanic.normal ?_
                have HK : Hid (G1 (V3.setCell ⟨s10, 1, none⟩ (.slice (some ⟨g3', 0, none⟩) 1 c3')) w1.heap.size g3' c3' q.k) := Lib.hid (by
                  have hc := HC3.out
                  refine ⟨hc.1, hc.2.1, hc.2.2, fun t u hu => ?_⟩
                  have ht : t < 0 + 1 * 15 := by have := (List.getElem?_eq_some_iff.1 hu).1; have e : q.k.toList.length = 15 := rfl; omega
                  exact (O4.out.cellAt t (by omega)).trans hu)
                have HT : Hid (GGS w1 (V3.setCell ⟨s10, 1, none⟩ (.slice (some ⟨g3', 0, none⟩) 1 c3')) b z s10 A n c l p (p + (groupB q).length) q.r (.slice (some ⟨g3', 0, none⟩) 1 c3')) := Lib.hid (by
                  have hne := GG1.out.ne
                  refine ⟨GG1.out.rd.other (G4.out.block b GG1.out.rd.rb.lt (fun e => by rcases e with e | e; (omega); (simp [Value.ownBlock] at e))) (GG1.out.rd.bel.trans (G4.out.isBelow HBW1.out (fun i hi e => by rcases e with e | e; (omega); (simp [Value.ownBlock] at e)))), S4.out, (G4.out.block z (Go.NR.heap_lt GG1.out.hz) (fun e => by rcases e with e | e; (omega); (simp [Value.ownBlock] at e))).trans GG1.out.hz, hne⟩)
                have HL4 : Hid (lack (V3.setCell ⟨s10, 1, none⟩ (.slice (some ⟨g3', 0, none⟩) 1 c3')) s10 = 0) := Lib.hid (by
                  have c := cell_of_row _ s10 1 _ 79 _ HT.out.hs
                  simp at c
                  unfold lack
                  rw [c])
                clear O4 S4 G4 N4 W3 G3 H3s z3 c3 hHeld HC3 K12 C2 O2
                go_wp2_with fail
                exact ⟨.inr ⟨g3', c3', HT, HK⟩, by rw [HL4.out, HL0.out]; decide⟩
              exact AllReadyH.nil
            exact AllReadyH.nil
          exact AllReadyH.nil
        exact AllReadyH.nil
      refine AllReadyH.cons (o := { dst := some 48, op := Op.call { callee := Callee.value (Operand.func 67), args := #[Operand.tmp 47], argTypes := #[90] }, type := 128, pos := "group.go:177", after := #[{ on := 2, ground := Ground.data }], guard := none }) rfl (fun K hK => ?_) ?_
      · skip
        go_simp
        refine (Try.getChunk (HG0.out.rd.set K0.out) HD2.out HQ.out.a HQ.out.n hr1 hr2 HQ.out.l HQ.out.h).mono ?_
        rintro x V1 ⟨rfl, hr1c⟩
        rw [HLEN.out] at hr1c
        have GG1 := Lib.hid ((HG0.out.below K0.out).next hr1c (by have := HL3.out; have := HLEN.out; omega))
        have HS1 := Lib.hid GG1.out.hs
        have OW1 : Hid (V1.ownsRow w1.heap.size 128 15 (.slice none 0 0) 0 []) := Lib.hid (World.ownsRow_nil V1 w1.heap.size 128 15)
        have HBW1 : Hid (w1.heap.size ≤ V1.heap.size) := Lib.hid GG1.out.rd.bel.size
        clear hr1c
        have HCL1 : Hid (V1.cell? ⟨s10, 1, none⟩ = some (.slice none 0 0)) := Lib.hid (cell_of_row V1 s10 1 _ 79 _ HS1.out)
        refine hK.out _ _ ?_ (fun hHeld => ?_)
        · trivial
        clear hK K
        try simp only [Act.put, List.setIfInBounds_toArray, List.set_cons_zero, List.set_cons_succ]
        refine wpAnyH_ready (rs := [1, 4]) (by kernel_rfl) (by simp) ?_
        refine AllReadyH.cons (o := { dst := some 46, op := Op.load 77 (Operand.tmp 45), type := 77, pos := "group.go:177", after := #[{ on := 0, ground := Ground.data }], guard := none }) rfl (fun K hK => ?_) ?_
        · skip
          have p1 : V1.cell? ⟨s10, 1, none⟩ = some (.slice none 0 0) := HCL1.out
          go_simp
          clear p1
          refine hK.out _ _ ?_ (fun hHeld => ?_)
          · trivial
          clear hK K
          try simp only [Act.put, List.setIfInBounds_toArray, List.set_cons_zero, List.set_cons_succ]
          refine wpAnyH_ready (rs := [4]) (by kernel_rfl) (by simp) ?_
          refine AllReadyH.cons (o := { dst := some 49, op := Op.buildSlice 77 1 #[(0, Operand.tmp 48)], type := 77, pos := "group.go:177", after := #[{ on := 3, ground := Ground.data }], guard := none }) rfl (fun K hK => ?_) ?_
          · skip
            go_simp
            have K12 := Lib.hid ((Below.refl V1.heap.size V1).alloc (Nat.le_refl _) (.cells #[.int .i64 q.a, .int .i64 q.n, .int .i64 1, .int .i64 q.r, .int .i64 0, .int .i64 1, .int .i64 q.lo, .string ⟨#[]⟩, .complex .f64 0 0, .int .i64 1, .int .i64 q.hi, .string ⟨#[]⟩, .complex .f64 0 0, .complex .f64 0 0, .complex .f64 0 0] 128))
            have C2 := Lib.hid (Go.NR.at_alloc V1 #[.int .i64 q.a, .int .i64 q.n, .int .i64 1, .int .i64 q.r, .int .i64 0, .int .i64 1, .int .i64 q.lo, .string ⟨#[]⟩, .complex .f64 0 0, .int .i64 1, .int .i64 q.hi, .string ⟨#[]⟩, .complex .f64 0 0, .complex .f64 0 0, .complex .f64 0 0] 128)
            obtain ⟨gb, hgb⟩ : ∃ gb, V1.heap.size = gb := ⟨_, rfl⟩
            rw [hgb] at C2
            (try rw [hgb])
            obtain ⟨V2, hV2⟩ : ∃ V2, V1.alloc (.cells #[.int .i64 q.a, .int .i64 q.n, .int .i64 1, .int .i64 q.r, .int .i64 0, .int .i64 1, .int .i64 q.lo, .string ⟨#[]⟩, .complex .f64 0 0, .int .i64 1, .int .i64 q.hi, .string ⟨#[]⟩, .complex .f64 0 0, .complex .f64 0 0, .complex .f64 0 0] 128) = V2 := ⟨_, rfl⟩
            rw [hV2] at K12 C2
            (try rw [hV2])
            have O2 := Lib.hid (Go.NR.own_below OW1.out K12.out)
            clear hgb hV2
            refine hK.out _ _ ?_ (fun hHeld => ?_)
            · trivial
            clear hK K
            try simp only [Act.put, List.setIfInBounds_toArray, List.set_cons_zero, List.set_cons_succ]
            refine wpAnyH_ready (rs := [5]) (by kernel_rfl) (by simp) ?_
            refine AllReadyH.cons (o := { dst := some 50, op := Op.call { callee := Callee.builtin Builtin.append, args := #[Operand.tmp 46, Operand.tmp 49], argTypes := #[77, 77] }, type := 77, pos := "group.go:177", after := #[{ on := 1, ground := Ground.data }, { on := 4, ground := Ground.data }, { on := 3, ground := Ground.chain }], guard := none }) rfl (fun K hK => ?_) ?_
            · skip
              refine Go.NR.oper_app Try.E77 (.tmp 46) (.tmp 49) rfl w1.heap.size (.slice none 0 0) (0) ([]) rfl O2.out gb 1 1 (q.k.toList) rfl rfl C2.out (one_k q.a q.n q.r q.lo q.hi) (by omega) (by decide) (by have := K12.out.size; have := HBW1.out; omega) ?_
              intro v3 V3 o3 g3 w3
              obtain ⟨g3', c3', rfl, hg3, hg3', hc3, hc3', _, _⟩ := Go.NR.own_at o3 (by omega)
              have HC3 := Lib.hid (And.intro hg3 (And.intro hc3 hc3'))
              obtain ⟨a1, a2, a3, a4⟩ := Go.NR.app_store (off := 1) K12.out OW1.out o3 g3 w3 HS1.out HNE.out
              have O4 := Lib.hid a1
              have S4 := Lib.hid a2
              have G4 := Lib.hid a3
              have N4 := Lib.hid a4
              have W3 := Lib.hid w3
              have G3 := Lib.hid g3
              have H3s := Lib.hid ((Go.NR.app_keep K12.out g3 s10 (Go.NR.heap_lt HS1.out) (fun e => HNE.out s10 e rfl)).trans HS1.out)
              clear a1 a2 a3 a4 o3 g3 w3 hg3 hg3' hc3 hc3'
              refine hK.out _ _ ?_ (fun hHeld => ?_)
              · trivial
              clear hK K
              try simp only [Act.put, List.setIfInBounds_toArray, List.set_cons_zero, List.set_cons_succ]
              refine wpAnyH_take (i := 6) (oi := { dst := some 51, op := Op.fieldAddr 79 (Operand.tmp 10) 1, type := 0, pos := "group.go:177", after := #[{ on := 0, ground := Ground.phase }, { on := 1, ground := Ground.phase }, { on := 2, ground := Ground.phase }, { on := 3, ground := Ground.phase }, { on := 4, ground := Ground.phase }, { on := 5, ground := Ground.phase }], guard := none }) (v := ?_) rfl (by kernel_rfl) (by kernel_rfl) (by kernel_rfl) (fun _ _ _ h => h) (Or.inl ⟨by rfl, ?_⟩) (by assumption) ?_
              rotate_left
              · (intro w hSw; (try dsimp only at hSw); go_simp; try with_reducible rfl)
              try simp only [Act.put, List.setIfInBounds_toArray, List.set_cons_zero, List.set_cons_succ]
              refine wpAnyH_ready (rs := [7]) (by kernel_rfl) (by simp) ?_
              refine AllReadyH.cons (o := { dst := none, op := Op.store 77 (Operand.tmp 51) (Operand.tmp 50), type := 0, pos := "group.go:177", after := #[{ on := 6, ground := Ground.data }, { on := 5, ground := Ground.data }, { on := 5, ground := Ground.chain }, { on := 0, ground := Ground.phase }, { on := 1, ground := Ground.phase }, { on := 2, ground := Ground.phase }, { on := 3, ground := Ground.phase }, { on := 4, ground := Ground.phase }, { on := 5, ground := Ground.phase }], guard := none }) rfl (fun K hK => ?_) ?_
              · skip
                have z3 := frozen_of_row V3 s10 1 _ 79 H3s.out
                have c3 := cell_of_row V3 s10 1 _ 79 _ H3s.out
                simp at c3
                go_simp
                refine hK.out _ _ ?_ (fun hHeld => ?_)
                · trivial
                clear hK K
                try simp only [Act.put, List.setIfInBounds_toArray, List.set_cons_zero, List.set_cons_succ]
                refine wpAnyH_done (by kernel_rfl) ?_ _
                refine NoPanic.normal ?_
                have HK : Hid (G1 (V3.setCell ⟨s10, 1, none⟩ (.slice (some ⟨g3', 0, none⟩) 1 c3')) w1.heap.size g3' c3' q.k) := Lib.hid (by
                  have hc := HC3.out
                  refine ⟨hc.1, hc.2.1, hc.2.2, fun t u hu => ?_⟩
                  have ht : t < 0 + 1 * 15 := by have := (List.getElem?_eq_some_iff.1 hu).1; have e : q.k.toList.length = 15 := rfl; omega
                  exact (O4.out.cellAt t (by omega)).trans hu)
                have HT : Hid (GGS w1 (V3.setCell ⟨s10, 1, none⟩ (.slice (some ⟨g3', 0, none⟩) 1 c3')) b z s10 A n c l p (p + (groupB q).length) q.r (.slice (some ⟨g3', 0, none⟩) 1 c3')) := Lib.hid (by
                  have hne := GG1.out.ne
                  refine ⟨GG1.out.rd.other (G4.out.block b GG1.out.rd.rb.lt (fun e => by rcases e with e | e; (omega); (simp [Value.ownBlock] at e))) (GG1.out.rd.bel.trans (G4.out.isBelow HBW1.out (fun i hi e => by rcases e with e | e; (omega); (simp [Value.ownBlock] at e)))), S4.out, (G4.out.block z (Go.NR.heap_lt GG1.out.hz) (fun e => by rcases e with e | e; (omega); (simp [Value.ownBlock] at e))).trans GG1.out.hz, hne⟩)
                have HL4 : Hid (lack (V3.setCell ⟨s10, 1, none⟩ (.slice (some ⟨g3', 0, none⟩) 1 c3')) s10 = 0) := Lib.hid (by
                  have c := cell_of_row _ s10 1 _ 79 _ HT.out.hs
                  simp at c
                  unfold lack
                  rw [c])
                clear O4 S4 G4 N4 W3 G3 H3s z3 c3 hHeld HC3 K12 C2 O2
                go_wp2_with fail
                exact ⟨.inr ⟨g3', c3', HT, HK⟩, by rw [HL4.out, HL0.out]; decide⟩
              exact AllReadyH.nil
            exact AllReadyH.nil
          exact AllReadyH.nil
        refine AllReadyH.cons (o := { dst := some 49, op := Op.buildSlice 77 1 #[(0, Operand.tmp 48)], type := 77, pos := "group.go:177", after := #[{ on := 3, ground := Ground.data }], guard := none }) rfl (fun K hK => ?_) ?_
        · skip
          go_simp
          have K12 := Lib.hid ((Below.refl V1.heap.size V1).alloc (Nat.le_refl _) (.cells #[.int .i64 q.a, .int .i64 q.n, .int .i64 1, .int .i64 q.r, .int .i64 0, .int .i64 1, .int .i64 q.lo, .string ⟨#[]⟩, .complex .f64 0 0, .int .i64 1, .int .i64 q.hi, .string ⟨#[]⟩, .complex .f64 0 0, .complex .f64 0 0, .complex .f64 0 0] 128))
          have C2 := Lib.hid (Go.NR.at_alloc V1 #[.int .i64 q.a, .int .i64 q.n, .int .i64 1, .int .i64 q.r, .int .i64 0, .int .i64 1, .int .i64 q.lo, .string ⟨#[]⟩, .complex .f64 0 0, .int .i64 1, .int .i64 q.hi, .string ⟨#[]⟩, .complex .f64 0 0, .complex .f64 0 0, .complex .f64 0 0] 128)
          obtain ⟨gb, hgb⟩ : ∃ gb, V1.heap.size = gb := ⟨_, rfl⟩
          rw [hgb] at C2
          (try rw [hgb])
          obtain ⟨V2, hV2⟩ : ∃ V2, V1.alloc (.cells #[.int .i64 q.a, .int .i64 q.n, .int .i64 1, .int .i64 q.r, .int .i64 0, .int .i64 1, .int .i64 q.lo, .string ⟨#[]⟩, .complex .f64 0 0, .int .i64 1, .int .i64 q.hi, .string ⟨#[]⟩, .complex .f64 0 0, .complex .f64 0 0, .complex .f64 0 0] 128) = V2 := ⟨_, rfl⟩
          rw [hV2] at K12 C2
          (try rw [hV2])
          have O2 := Lib.hid (Go.NR.own_below OW1.out K12.out)
          clear hgb hV2
          refine hK.out _ _ ?_ (fun hHeld => ?_)
          · trivial
          clear hK K
          try simp only [Act.put, List.setIfInBounds_toArray, List.set_cons_zero, List.set_cons_succ]
          refine wpAnyH_ready (rs := [1]) (by kernel_rfl) (by simp) ?_
          refine AllReadyH.cons (o := { dst := some 46, op := Op.load 77 (Operand.tmp 45), type := 77, pos := "group.go:177", after := #[{ on := 0, ground := Ground.data }], guard := none }) rfl (fun K hK => ?_) ?_
          · skip
            have p1 : V2.cell? ⟨s10, 1, none⟩ = some (.slice none 0 0) := cellW HCL1.out K12.out
            go_simp
            clear p1
            refine hK.out _ _ ?_ (fun hHeld => ?_)
            · trivial
            clear hK K
            try simp only [Act.put, List.setIfInBounds_toArray, List.set_cons_zero, List.set_cons_succ]
            refine wpAnyH_ready (rs := [5]) (by kernel_rfl) (by simp) ?_
            refine AllReadyH.cons (o := { dst := some 50, op := Op.call { callee := Callee.builtin Builtin.append, args := #[Operand.tmp 46, Operand.tmp 49], argTypes := #[77, 77] }, type := 77, pos := "group.go:177", after := #[{ on := 1, ground := Ground.data }, { on := 4, ground := Ground.data }, { on := 3, ground := Ground.chain }], guard := none }) rfl (fun K hK => ?_) ?_
            · skip
              refine Go.NR.oper_app Try.E77 (.tmp 46) (.tmp 49) rfl w1.heap.size (.slice none 0 0) (0) ([]) rfl O2.out gb 1 1 (q.k.toList) rfl rfl C2.out (one_k q.a q.n q.r q.lo q.hi) (by omega) (by decide) (by have := K12.out.size; have := HBW1.out; omega) ?_
              intro v3 V3 o3 g3 w3
              obtain ⟨g3', c3', rfl, hg3, hg3', hc3, hc3', _, _⟩ := Go.NR.own_at o3 (by omega)
              have HC3 := Lib.hid (And.intro hg3 (And.intro hc3 hc3'))
              obtain ⟨a1, a2, a3, a4⟩ := Go.NR.app_store (off := 1) K12.out OW1.out o3 g3 w3 HS1.out HNE.out
              have O4 := Lib.hid a1
              have S4 := Lib.hid a2
              have G4 := Lib.hid a3
              have N4 := Lib.hid a4
              have W3 := Lib.hid w3
              have G3 := Lib.hid g3
              have H3s := Lib.hid ((Go.NR.app_keep K12.out g3 s10 (Go.NR.heap_lt HS1.out) (fun e => HNE.out s10 e rfl)).trans HS1.out)
              clear a1 a2 a3 a4 o3 g3 w3 hg3 hg3' hc3 hc3'
              refine hK.out _ _ ?_ (fun hHeld => ?_)
              · trivial
              clear hK K
              try simp only [Act.put, List.setIfInBounds_toArray, List.set_cons_zero, List.set_cons_succ]
              refine wpAnyH_take (i := 6) (oi := { dst := some 51, op := Op.fieldAddr 79 (Operand.tmp 10) 1, type := 0, pos := "group.go:177", after := #[{ on := 0, ground := Ground.phase }, { on := 1, ground := Ground.phase }, { on := 2, ground := Ground.phase }, { on := 3, ground := Ground.phase }, { on := 4, ground := Ground.phase }, { on := 5, ground := Ground.phase }], guard := none }) (v := ?_) rfl (by kernel_rfl) (by kernel_rfl) (by kernel_rfl) (fun _ _ _ h => h) (Or.inl ⟨by rfl, ?_⟩) (by assumption) ?_
              rotate_left
              · (intro w hSw; (try dsimp only at hSw); go_simp; try with_reducible rfl)
              try simp only [Act.put, List.setIfInBounds_toArray, List.set_cons_zero, List.set_cons_succ]
              refine wpAnyH_ready (rs := [7]) (by kernel_rfl) (by simp) ?_
              refine AllReadyH.cons (o := { dst := none, op := Op.store 77 (Operand.tmp 51) (Operand.tmp 50), type := 0, pos := "group.go:177", after := #[{ on := 6, ground := Ground.data }, { on := 5, ground := Ground.data }, { on := 5, ground := Ground.chain }, { on := 0, ground := Ground.phase }, { on := 1, ground := Ground.phase }, { on := 2, ground := Ground.phase }, { on := 3, ground := Ground.phase }, { on := 4, ground := Ground.phase }, { on := 5, ground := Ground.phase }], guard := none }) rfl (fun K hK => ?_) ?_
              · skip
                have z3 := frozen_of_row V3 s10 1 _ 79 H3s.out
                have c3 := cell_of_row V3 s10 1 _ 79 _ H3s.out
                simp at c3
                go_simp
                refine hK.out _ _ ?_ (fun hHeld => ?_)
                · trivial
                clear hK K
                try simp only [Act.put, List.setIfInBounds_toArray, List.set_cons_zero, List.set_cons_succ]
                refine wpAnyH_done (by kernel_rfl) ?_ _
                refine NoPanic.normal ?_
                have HK : Hid (G1 (V3.setCell ⟨s10, 1, none⟩ (.slice (some ⟨g3', 0, none⟩) 1 c3')) w1.heap.size g3' c3' q.k) := Lib.hid (by
                  have hc := HC3.out
                  refine ⟨hc.1, hc.2.1, hc.2.2, fun t u hu => ?_⟩
                  have ht : t < 0 + 1 * 15 := by have := (List.getElem?_eq_some_iff.1 hu).1; have e : q.k.toList.length = 15 := rfl; omega
                  exact (O4.out.cellAt t (by omega)).trans hu)
                have HT : Hid (GGS w1 (V3.setCell ⟨s10, 1, none⟩ (.slice (some ⟨g3', 0, none⟩) 1 c3')) b z s10 A n c l p (p + (groupB q).length) q.r (.slice (some ⟨g3', 0, none⟩) 1 c3')) := Lib.hid (by
                  have hne := GG1.out.ne
                  refine ⟨GG1.out.rd.other (G4.out.block b GG1.out.rd.rb.lt (fun e => by rcases e with e | e; (omega); (simp [Value.ownBlock] at e))) (GG1.out.rd.bel.trans (G4.out.isBelow HBW1.out (fun i hi e => by rcases e with e | e; (omega); (simp [Value.ownBlock] at e)))), S4.out, (G4.out.block z (Go.NR.heap_lt GG1.out.hz) (fun e => by rcases e with e | e; (omega); (simp [Value.ownBlock] at e))).trans GG1.out.hz, hne⟩)
                have HL4 : Hid (lack (V3.setCell ⟨s10, 1, none⟩ (.slice (some ⟨g3', 0, none⟩) 1 c3')) s10 = 0) := Lib.hid (by
                  have c := cell_of_row _ s10 1 _ 79 _ HT.out.hs
                  simp at c
                  unfold lack
                  rw [c])
                clear O4 S4 G4 N4 W3 G3 H3s z3 c3 hHeld HC3 K12 C2 O2
                go_wp2_with fail
                exact ⟨.inr ⟨g3', c3', HT, HK⟩, by rw [HL4.out, HL0.out]; decide⟩
              exact AllReadyH.nil
            exact AllReadyH.nil
          exact AllReadyH.nil
        exact AllReadyH.nil
      exact AllReadyH.nil
    · clear HGS
      have z0 := cell_of_row W s10 0 _ 79 _ HG1.out.hs
      have z1 := cell_of_row W s10 1 _ 79 _ HG1.out.hs
      simp at z0 z1
      go_wp2_with fail
      refine (Try.rerr HG1.out.rd.rb).mono ?_
      rintro y wb ⟨rfl, hwb⟩
      rw [hwb]
      clear hwb wb
      go_upto_region 12 with fail
      have U0 := Lib.hid z0
      have U1 := Lib.hid z1
      clear z0 z1
      refine wp_region_noPanic ?_
      refine wp_region_held_drew (S := (fun V => V.cell? ⟨s10, 0, none⟩ = some (.int .i64 q.r) ∧ V.cell? ⟨s10, 1, none⟩ = some (.slice (some ⟨g, 0, none⟩) 1 cg))) (by kernel_rfl) ?_ (fun hHeld => ?_)
      · exact ⟨U0.out, U1.out⟩
      refine wpAnyH_take (i := 0) (oi := { dst := some 58, op := Op.load 79 (Operand.tmp 10), type := 79, pos := "group.go:182", after := #[], guard := none }) (v := ?_) rfl (by kernel_rfl) (by kernel_rfl) (by kernel_rfl) (fun _ _ _ h => h) (Or.inl ⟨by rfl, ?_⟩) (by assumption) ?_
      rotate_left
      · (intro w hSw; (try dsimp only at hSw); go_simp; try with_reducible rfl)
      try simp only [Act.put, List.setIfInBounds_toArray, List.set_cons_zero, List.set_cons_succ]
      refine wpAnyH_take (i := 1) (oi := { dst := some 59, op := Op.move (Operand.tmp 7), type := 90, pos := "group.go:182", after := #[], guard := none }) (v := ?_) rfl (by kernel_rfl) (by kernel_rfl) (by kernel_rfl) (fun _ _ _ h => h) (Or.inl ⟨by rfl, ?_⟩) (by assumption) ?_
      rotate_left
      · (intro w hSw; (try dsimp only at hSw); go_simp; try with_reducible rfl)
      try simp only [Act.put, List.setIfInBounds_toArray, List.set_cons_zero, List.set_cons_succ]
      refine wpAnyH_ready (rs := [2]) (by kernel_rfl) (by simp) ?_
      refine AllReadyH.cons (o := { dst := some 60, op := Op.call { callee := Callee.value (Operand.func 66), args := #[Operand.tmp 59], argTypes := #[90] }, type := 3, pos := "group.go:182", after := #[{ on := 1, ground := Ground.data }], guard := none }) rfl (fun K hK => ?_) AllReadyH.nil
      go_simp
      refine (Try.rread (f := p) (p := p + (groupB q).length) (HG1.out.rd.rb.eq rfl : RB W.drew b A n c (p : Nat) ((p + (groupB q).length : Nat) : Int) 0) (by have h1 := HG1.out.rd.hp; omega) (by omega)).mono ?_
      rintro y wc ⟨rfl, _, hbc⟩
      have KC : Hid (Below W.heap.size W wc) := Lib.hid ((Below.refl _ W).drew.trans hbc)
      have KE : Hid (Below w1.heap.size w1 wc) := Lib.hid (HG1.out.rd.bel.trans (KC.out.mono HG1.out.rd.bel.size))
      have HZB3 : Hid (wc.heap[z]? = some (.cells #[.int .i64 0, .slice none 0 0] 79 (0, 0))) := Lib.hid ((KC.out.block z (Go.NR.heap_lt HG1.out.hz)).trans HG1.out.hz)
      clear hbc
      refine hK.out _ _ ?_ (fun hHeld => ?_)
      · exact ⟨cellW U0.out KC.out, cellW U1.out KC.out⟩
      clear hK K
      try simp only [Act.put, List.setIfInBounds_toArray, List.set_cons_zero, List.set_cons_succ]
      refine wpAnyH_ready (rs := [3]) (by kernel_rfl) (by simp) ?_
      refine AllReadyH.cons (o := { dst := none, op := Op.store 79 (Operand.tmp 4) (Operand.tmp 58), type := 0, pos := "group.go:182", after := #[{ on := 0, ground := Ground.data }, { on := 2, ground := Ground.chain }, { on := 0, ground := Ground.phase }, { on := 1, ground := Ground.textOnly Departure.lateStores }, { on := 2, ground := Ground.textOnly Departure.lateStoresUnsure }], guard := none }) rfl (fun K hK => ?_) AllReadyH.nil
      refine oper_store_at _ 79 (.tmp 4) (.tmp 58) rfl z 79 0 #[.int .i64 q.r, .slice (some ⟨g, 0, none⟩) 1 cg] #[.int .i64 0, .slice none 0 0] #[.int .i64 q.r, .slice (some ⟨g, 0, none⟩) 1 cg] rfl rfl HZB3.out (show 0 + 2 ≤ 2 by omega) rfl size79 (one_g q.r (some ⟨g, 0, none⟩) 1 cg) ?_
      refine hK.out _ _ ?_ (fun hHeld => ?_)
      · exact ⟨(World.cell?_of_block (Go.NR.setRow_else _ z _ s10 HG1.out.ne.2.2.1.symm)).trans (cellW U0.out KC.out), (World.cell?_of_block (Go.NR.setRow_else _ z _ s10 HG1.out.ne.2.2.1.symm)).trans (cellW U1.out KC.out)⟩
      clear hK K
      try simp only [Act.put, List.setIfInBounds_toArray, List.set_cons_zero, List.set_cons_succ]
      refine wpAnyH_take (i := 4) (oi := { dst := some 5, op := Op.assign (Operand.tmp 60), type := 3, pos := "group.go:182", after := #[{ on := 2, ground := Ground.data }, { on := 3, ground := Ground.chain }, { on := 0, ground := Ground.phase }, { on := 1, ground := Ground.phase }, { on := 2, ground := Ground.phase }, { on := 3, ground := Ground.phase }], guard := none }) (v := ?_) rfl (by kernel_rfl) (by kernel_rfl) (by kernel_rfl) (fun _ _ _ h => h) (Or.inl ⟨by rfl, ?_⟩) (by assumption) ?_
      rotate_left
      · (intro w hSw; (try dsimp only at hSw); go_simp; try with_reducible rfl)
      try simp only [Act.put, List.setIfInBounds_toArray, List.set_cons_zero, List.set_cons_succ]
      refine wpAnyH_take (i := 5) (oi := { dst := some 6, op := Op.assign (Operand.const (Value.int IntKind.i64 0)), type := 51, pos := "group.go:182", after := #[{ on := 4, ground := Ground.chain }, { on := 0, ground := Ground.phase }, { on := 1, ground := Ground.phase }, { on := 2, ground := Ground.phase }, { on := 3, ground := Ground.phase }, { on := 4, ground := Ground.phase }], guard := none }) (v := ?_) rfl (by kernel_rfl) (by kernel_rfl) (by kernel_rfl) (fun _ _ _ h => h) (Or.inl ⟨by rfl, ?_⟩) (by assumption) ?_
      rotate_left
      · (intro w hSw; (try dsimp only at hSw); go_simp; try with_reducible rfl)
      try simp only [Act.put, List.setIfInBounds_toArray, List.set_cons_zero, List.set_cons_succ]
      refine wpAnyH_done (by kernel_rfl) ?_ _
      refine NoPanic.normal ?_
      have HZE := HZB3
      have HNG : Hid (z ≠ g) := Lib.hid (by have := HK.out.1; have := HG1.out.ne.2.2.2.1; omega)
      have HKE := Lib.hid (HK.out.below KC.out)
      clear U0 U1 hHeld
      go_wp2_with fail
      refine bodyPost_ret (results_cell_tmp2 rfl _ _ z 79 _ _ rfl (setRow_heap' _ z _ _ 79 HZE.out) size79 st79) rfl ?_
      refine ⟨g, cg, ?_, (HKE.out.eq (Go.NR.setRow_else _ z _ g HNG.out.symm)).mono WB.out.size, Below.setRow (WB.out.trans (KE.out.mono WB.out.size)) HZL.out _⟩
      have e1 : (((p + (groupB q).length : Nat) : Int) - (p : Nat)) = ((groupB q).length : Nat) := by omega
      exact congrArg (fun z : Int => Ending.returned (.tuple #[.agg #[.int .i64 q.r, .slice (some ⟨g, 0, none⟩) 1 cg], .int .i64 z, .int .i64 0])) e1
end Go.Proofs.Ytfblhcphbcghpaa
end

section
namespace Go.Proofs.Ytfblhcphbcghpaa
open Go.RowKit
set_option maxRecDepth 100000
set_option maxHeartbeats 16000000 in
theorem Try.rofGroup {W w : World} {b : Nat} {A : Option Addr} {n c : Nat} {l : List UInt8} {f : Int} {p : Nat} (h : RdIn W w b A n c l f p 0) {q : GQ} {rest : List UInt8} (hd : l.drop p = groupB q ++ rest) (hq : q.ok) :
    Calls Try.prog 36 #[.pointer (some ⟨b, 0, none⟩), .func (.func 37) #[] #[]] w fun y w' => ∃ g2 c2, y = .returned (.agg #[.int .i64 q.r, .slice (some ⟨g2, 0, none⟩) 1 c2]) ∧ G1 w' w.heap.size g2 c2 q.k ∧ Rd w b A n c f ((p + (groupB q).length : Nat) : Int) 0 w' := by
  have HB := Lib.hid h
  have hn := h.hn
  have hpl : p + (groupB q).length ≤ n := by have := drop_fit hd (by rw [h.di.len]; exact h.hp); rw [h.di.len] at this; exact this.1
  have hps : (groupB q).length ≤ 90 := groupB_le q
  have hpn := h.hp
  obtain ⟨w1, z, z5, hw1, hz, hz5, hb1, h8, h9⟩ := alloc2 w (.cells #[.int .i64 0, .slice none 0 0] 79) (.cells #[.int .i64 0, .slice none 0 0] 79)
  have HZ := Lib.hid h8
  have HZ5 := Lib.hid h9
  have HR := Lib.hid (h.set hb1)
  have WB := Lib.hid hb1
  have HZB : Hid (z ≠ b ∧ b < w.heap.size ∧ w.heap.size ≤ z ∧ z < w1.heap.size) := Lib.hid ⟨by have := h.rb.lt; omega, h.rb.lt, Nat.le_of_eq hz, Go.NR.heap_lt h8⟩
  clear hb1 h8 h9 h
  have hsc := storeC
  go_enter Try.func36, Try.ntmps36
  go_upto_region 2 with fail
  (try rw [hw1])
  (try rw [hz])
  (try rw [hz5])
  clear hw1 hz hz5 hsc
  have h3 := HR.out.rb.c3
  have H0 := Lib.hid HR.out.rb.c0
  have H2 := Lib.hid HR.out.rb.c2
  go_upto_region 4 with fail
  clear h3
  refine wp_region_noPanic ?_
  refine wp_region_held_drew (S := (fun W => W.cell? ⟨b, 0, none⟩ = some (.slice A n c) ∧ W.cell? ⟨b, 2, none⟩ = some (.int .i64 p))) (by kernel_rfl) ?_ (fun hHeld => ?_)
  · exact ⟨H0.out, H2.out⟩
  obtain ⟨V0, hV0⟩ : ∃ V0, w1.drew = V0 := ⟨_, rfl⟩
  have K0 : Hid (Below w1.heap.size w1 V0) := Lib.hid (by rw [← hV0]; exact (Below.refl _ w1).drew)
  rw [hV0] at hHeld ⊢
  clear hV0
  refine wpAnyH_take (i := 0) (oi := { dst := some 16, op := Op.move (Operand.tmp 1), type := 98, pos := "read.go:89", after := #[], guard := none }) (v := ?_) rfl (by kernel_rfl) (by kernel_rfl) (by kernel_rfl) (fun _ _ _ h => h) (Or.inl ⟨by rfl, ?_⟩) (by assumption) ?_
  rotate_left
  · (intro w hSw; (try dsimp only at hSw); go_simp; try with_reducible rfl)
  try simp only [Act.put, List.setIfInBounds_toArray, List.set_cons_zero, List.set_cons_succ]
  refine wpAnyH_take (i := 1) (oi := { dst := some 17, op := Op.move (Operand.tmp 0), type := 90, pos := "read.go:89", after := #[], guard := none }) (v := ?_) rfl (by kernel_rfl) (by kernel_rfl) (by kernel_rfl) (fun _ _ _ h => h) (Or.inl ⟨by rfl, ?_⟩) (by assumption) ?_
  rotate_left
  · (intro w hSw; (try dsimp only at hSw); go_simp; try with_reducible rfl)
  try simp only [Act.put, List.setIfInBounds_toArray, List.set_cons_zero, List.set_cons_succ]
  refine wpAnyH_take (i := 2) (oi := { dst := some 18, op := Op.nilCheck (Operand.tmp 17), type := 0, pos := "read.go:89", after := #[{ on := 1, ground := Ground.data }], guard := none }) (v := ?_) rfl (by kernel_rfl) (by kernel_rfl) (by kernel_rfl) (fun _ _ _ h => h) (Or.inl ⟨by rfl, ?_⟩) (by assumption) ?_
  rotate_left
  · (intro w hSw; (try dsimp only at hSw); go_simp; try with_reducible rfl)
  try simp only [Act.put, List.setIfInBounds_toArray, List.set_cons_zero, List.set_cons_succ]
  refine wpAnyH_take (i := 3) (oi := { dst := some 19, op := Op.fieldAddr 138 (Operand.tmp 18) 0, type := 0, pos := "read.go:89", after := #[{ on := 2, ground := Ground.data }], guard := none }) (v := ?_) rfl (by kernel_rfl) (by kernel_rfl) (by kernel_rfl) (fun _ _ _ h => h) (Or.inl ⟨by rfl, ?_⟩) (by assumption) ?_
  rotate_left
  · (intro w hSw; (try dsimp only at hSw); go_simp; try with_reducible rfl)
  try simp only [Act.put, List.setIfInBounds_toArray, List.set_cons_zero, List.set_cons_succ]
  refine wpAnyH_take (i := 4) (oi := { dst := some 20, op := Op.load 50 (Operand.tmp 19), type := 50, pos := "read.go:89", after := #[{ on := 3, ground := Ground.data }], guard := none }) (v := ?_) rfl (by kernel_rfl) (by kernel_rfl) (by kernel_rfl) (fun _ _ _ h => h) (Or.inl ⟨by rfl, ?_⟩) (by assumption) ?_
  rotate_left
  · (intro w hSw; (try dsimp only at hSw); go_simp; try with_reducible rfl)
  try simp only [Act.put, List.setIfInBounds_toArray, List.set_cons_zero, List.set_cons_succ]
  refine wpAnyH_take (i := 5) (oi := { dst := some 21, op := Op.move (Operand.tmp 0), type := 90, pos := "read.go:89", after := #[], guard := none }) (v := ?_) rfl (by kernel_rfl) (by kernel_rfl) (by kernel_rfl) (fun _ _ _ h => h) (Or.inl ⟨by rfl, ?_⟩) (by assumption) ?_
  rotate_left
  · (intro w hSw; (try dsimp only at hSw); go_simp; try with_reducible rfl)
  try simp only [Act.put, List.setIfInBounds_toArray, List.set_cons_zero, List.set_cons_succ]
  refine wpAnyH_take (i := 6) (oi := { dst := some 22, op := Op.nilCheck (Operand.tmp 21), type := 0, pos := "read.go:89", after := #[{ on := 5, ground := Ground.data }], guard := none }) (v := ?_) rfl (by kernel_rfl) (by kernel_rfl) (by kernel_rfl) (fun _ _ _ h => h) (Or.inl ⟨by rfl, ?_⟩) (by assumption) ?_
  rotate_left
  · (intro w hSw; (try dsimp only at hSw); go_simp; try with_reducible rfl)
  try simp only [Act.put, List.setIfInBounds_toArray, List.set_cons_zero, List.set_cons_succ]
  refine wpAnyH_take (i := 7) (oi := { dst := some 23, op := Op.fieldAddr 138 (Operand.tmp 22) 2, type := 0, pos := "read.go:89", after := #[{ on := 6, ground := Ground.data }], guard := none }) (v := ?_) rfl (by kernel_rfl) (by kernel_rfl) (by kernel_rfl) (fun _ _ _ h => h) (Or.inl ⟨by rfl, ?_⟩) (by assumption) ?_
  rotate_left
  · (intro w hSw; (try dsimp only at hSw); go_simp; try with_reducible rfl)
  try simp only [Act.put, List.setIfInBounds_toArray, List.set_cons_zero, List.set_cons_succ]
  refine wpAnyH_take (i := 8) (oi := { dst := some 24, op := Op.load 3 (Operand.tmp 23), type := 3, pos := "read.go:89", after := #[{ on := 7, ground := Ground.data }], guard := none }) (v := ?_) rfl (by kernel_rfl) (by kernel_rfl) (by kernel_rfl) (fun _ _ _ h => h) (Or.inl ⟨by rfl, ?_⟩) (by assumption) ?_
  rotate_left
  · (intro w hSw; (try dsimp only at hSw); go_simp; try with_reducible rfl)
  try simp only [Act.put, List.setIfInBounds_toArray, List.set_cons_zero, List.set_cons_succ]
  refine wpAnyH_ready (rs := [9, 14]) (by kernel_rfl) (by simp) ?_
  refine AllReadyH.cons (o := { dst := some 25, op := Op.call { callee := Callee.value (Operand.tmp 16), args := #[Operand.tmp 20, Operand.tmp 24], argTypes := #[50, 3] }, type := 145, pos := "read.go:89", after := #[{ on := 0, ground := Ground.data }, { on := 4, ground := Ground.data }, { on := 8, ground := Ground.data }], guard := none }) rfl (fun K hK => ?_) ?_
  · skip
    go_simp
    refine (Try.groupGet V0 (HR.out.dat.below K0.out) hn hpn hd hq).mono ?_
    rintro x V1 ⟨g2, c2, rfl, hg2, hcb⟩
    have K1 : Hid (Below w1.heap.size w1 V1) := Lib.hid (K0.out.trans (hcb.mono K0.out.size))
    have HGA := Lib.hid (hg2.mono K0.out.size)
    clear hg2
    refine hK.out _ _ ?_ (fun hHeld => ?_)
    · exact ⟨cellW H0.out K1.out, cellW H2.out K1.out⟩
    clear hK K
    try simp only [Act.put, List.setIfInBounds_toArray, List.set_cons_zero, List.set_cons_succ]
    refine wpAnyH_take (i := 10) (oi := { dst := some 15, op := Op.move (Operand.tmp 25), type := 145, pos := "read.go:89", after := #[{ on := 9, ground := Ground.data }], guard := none }) (v := ?_) rfl (by kernel_rfl) (by kernel_rfl) (by kernel_rfl) (fun _ _ _ h => h) (Or.inl ⟨by rfl, ?_⟩) (by assumption) ?_
    rotate_left
    · (intro w hSw; (try dsimp only at hSw); go_simp; try with_reducible rfl)
    try simp only [Act.put, List.setIfInBounds_toArray, List.set_cons_zero, List.set_cons_succ]
    refine wpAnyH_take (i := 11) (oi := { dst := some 26, op := Op.extract (Operand.tmp 15) 0, type := 79, pos := "read.go:89", after := #[{ on := 10, ground := Ground.data }], guard := none }) (v := ?_) rfl (by kernel_rfl) (by kernel_rfl) (by kernel_rfl) (fun _ _ _ h => h) (Or.inl ⟨by rfl, ?_⟩) (by assumption) ?_
    rotate_left
    · (intro w hSw; (try dsimp only at hSw); go_simp; try with_reducible rfl)
    try simp only [Act.put, List.setIfInBounds_toArray, List.set_cons_zero, List.set_cons_succ]
    refine wpAnyH_take (i := 12) (oi := { dst := some 27, op := Op.extract (Operand.tmp 15) 1, type := 3, pos := "read.go:89", after := #[{ on := 10, ground := Ground.data }, { on := 15, ground := Ground.gcOnly Departure.lateStores }], guard := none }) (v := ?_) rfl (by kernel_rfl) (by kernel_rfl) (by kernel_rfl) (fun _ _ _ h => h) (Or.inl ⟨by rfl, ?_⟩) (by assumption) ?_
    rotate_left
    · (intro w hSw; (try dsimp only at hSw); go_simp; try with_reducible rfl)
    try simp only [Act.put, List.setIfInBounds_toArray, List.set_cons_zero, List.set_cons_succ]
    refine wpAnyH_take (i := 13) (oi := { dst := some 28, op := Op.extract (Operand.tmp 15) 2, type := 51, pos := "read.go:89", after := #[{ on := 10, ground := Ground.data }, { on := 16, ground := Ground.gcOnly Departure.lateStores }], guard := none }) (v := ?_) rfl (by kernel_rfl) (by kernel_rfl) (by kernel_rfl) (fun _ _ _ h => h) (Or.inl ⟨by rfl, ?_⟩) (by assumption) ?_
    rotate_left
    · (intro w hSw; (try dsimp only at hSw); go_simp; try with_reducible rfl)
    try simp only [Act.put, List.setIfInBounds_toArray, List.set_cons_zero, List.set_cons_succ]
    refine wpAnyH_ready (rs := [14]) (by kernel_rfl) (by simp) ?_
    refine AllReadyH.cons (o := { dst := some 6, op := Op.alloc 79, type := 0, pos := "read.go:89", after := #[], guard := none }) rfl (fun K hK => ?_) ?_
    · skip
      go_simp
      have K2 : Hid (Below w1.heap.size w1 (V1.alloc (.cells #[.int .i64 0, .slice none 0 0] 79))) := Lib.hid (K1.out.trans (((Below.refl V1.heap.size V1).alloc (Nat.le_refl _) _).mono K1.out.size))
      have HN := Lib.hid (heap_alloc_new V1 (.cells #[.int .i64 0, .slice none 0 0] 79))
      have HAB : Hid (Below V1.heap.size V1 (V1.alloc (.cells #[.int .i64 0, .slice none 0 0] 79))) := Lib.hid ((Below.refl V1.heap.size V1).alloc (Nat.le_refl _) _)
      have HASZ : Hid ((V1.alloc (.cells #[.int .i64 0, .slice none 0 0] 79)).heap.size = V1.heap.size + 1) := Lib.hid (by simp)
      obtain ⟨s6, hs6⟩ : ∃ s6, V1.heap.size = s6 := ⟨_, rfl⟩
      obtain ⟨V2, hv2⟩ : ∃ V, V1.alloc (.cells #[.int .i64 0, .slice none 0 0] 79) = V := ⟨_, rfl⟩
      have HS6 : Hid (s6 ≠ b ∧ s6 ≠ z ∧ w1.heap.size ≤ s6) := Lib.hid (by have h1 := K1.out.size; have h2 := HZB.out; refine ⟨?_, ?_, ?_⟩ <;> omega)
      have HSQ : Hid (V1.heap.size = s6) := Lib.hid hs6
      rw [hv2] at K2 HN HAB HASZ
      rw [hs6] at HN HASZ
      (try rw [hv2])
      (try rw [hs6])
      have HN2 := HN
      have HGX2 := Lib.hid (HGA.out.below HAB.out)
      have HNG : Hid (g2 ≠ s6) := Lib.hid (by have := HGA.out.lt; have := HSQ.out; omega)
      clear hv2 hs6
      refine hK.out _ _ ?_ (fun hHeld => ?_)
      · exact ⟨cellW H0.out K2.out, cellW H2.out K2.out⟩
      clear hK K
      try simp only [Act.put, List.setIfInBounds_toArray, List.set_cons_zero, List.set_cons_succ]
      refine wpAnyH_ready (rs := [15]) (by kernel_rfl) (by simp) ?_
      refine AllReadyH.cons (o := { dst := none, op := Op.store 79 (Operand.tmp 6) (Operand.tmp 26), type := 0, pos := "read.go:89", after := #[{ on := 14, ground := Ground.data }, { on := 11, ground := Ground.data }, { on := 9, ground := Ground.chain }, { on := 0, ground := Ground.phase }, { on := 1, ground := Ground.phase }, { on := 2, ground := Ground.phase }, { on := 3, ground := Ground.phase }, { on := 4, ground := Ground.phase }, { on := 5, ground := Ground.phase }, { on := 6, ground := Ground.phase }, { on := 7, ground := Ground.phase }, { on := 8, ground := Ground.phase }, { on := 9, ground := Ground.phase }, { on := 10, ground := Ground.phase }, { on := 11, ground := Ground.phase }, { on := 12, ground := Ground.textOnly Departure.lateStores }, { on := 13, ground := Ground.textOnly Departure.lateStores }, { on := 14, ground := Ground.phase }], guard := none }) rfl (fun K hK => ?_) ?_
      · skip
        have HX6 := HN2
        have HBW7 : Hid (Below w1.heap.size w1 (V2.setRow s6 #[.int .i64 q.r, .slice (some ⟨g2, 0, none⟩) 1 c2])) := Lib.hid (Below.setRow K2.out HS6.out.2.2 _)
        have HX7 : Hid ((V2.setRow s6 #[.int .i64 q.r, .slice (some ⟨g2, 0, none⟩) 1 c2]).heap[s6]? = some (.cells #[.int .i64 q.r, .slice (some ⟨g2, 0, none⟩) 1 c2] 79 (0, 0))) := Lib.hid (setRow_heap' _ s6 _ _ 79 HN2.out)
        have HRB : Hid (RB (V2.setRow s6 #[.int .i64 q.r, .slice (some ⟨g2, 0, none⟩) 1 c2]) b A n c f p 0) := Lib.hid (HR.out.rb.eq (HBW7.out.block b (by have := HZB.out; omega)))
        have HZ7 : Hid ((V2.setRow s6 #[.int .i64 q.r, .slice (some ⟨g2, 0, none⟩) 1 c2]).heap[z]? = some (.cells #[.int .i64 0, .slice none 0 0] 79 (0, 0))) := Lib.hid ((HBW7.out.block z HZB.out.2.2.2).trans HZ.out)
        have HGX7 : Hid (G1 (V2.setRow s6 #[.int .i64 q.r, .slice (some ⟨g2, 0, none⟩) 1 c2]) w1.heap.size g2 c2 q.k) := Lib.hid (HGX2.out.eq (Go.NR.setRow_else _ s6 _ g2 HNG.out))
        refine oper_store_at _ 79 (.tmp 6) (.tmp 26) rfl s6 79 0 #[.int .i64 q.r, .slice (some ⟨g2, 0, none⟩) 1 c2] #[.int .i64 0, .slice none 0 0] #[.int .i64 q.r, .slice (some ⟨g2, 0, none⟩) 1 c2] rfl rfl HN2.out (show 0 + 2 ≤ 2 by omega) rfl size79 (one_g q.r (some ⟨g2, 0, none⟩) 1 c2) ?_
        refine hK.out _ _ ?_ (fun hHeld => ?_)
        · exact ⟨(World.cell?_of_block (Go.NR.setRow_else _ s6 _ b HS6.out.1.symm)).trans (cellW H0.out K2.out), (World.cell?_of_block (Go.NR.setRow_else _ s6 _ b HS6.out.1.symm)).trans (cellW H2.out K2.out)⟩
        clear hK K
        try simp only [Act.put, List.setIfInBounds_toArray, List.set_cons_zero, List.set_cons_succ]
        refine wpAnyH_take (i := 16) (oi := { dst := some 7, op := Op.assign (Operand.tmp 27), type := 3, pos := "read.go:89", after := #[{ on := 12, ground := Ground.data }, { on := 15, ground := Ground.chain }, { on := 0, ground := Ground.phase }, { on := 1, ground := Ground.phase }, { on := 2, ground := Ground.phase }, { on := 3, ground := Ground.phase }, { on := 4, ground := Ground.phase }, { on := 5, ground := Ground.phase }, { on := 6, ground := Ground.phase }, { on := 7, ground := Ground.phase }, { on := 8, ground := Ground.phase }, { on := 9, ground := Ground.phase }, { on := 10, ground := Ground.phase }, { on := 11, ground := Ground.phase }, { on := 12, ground := Ground.phase }, { on := 13, ground := Ground.textOnly Departure.lateStores }, { on := 14, ground := Ground.phase }, { on := 15, ground := Ground.phase }], guard := none }) (v := ?_) rfl (by kernel_rfl) (by kernel_rfl) (by kernel_rfl) (fun _ _ _ h => h) (Or.inl ⟨by rfl, ?_⟩) (by assumption) ?_
        rotate_left
        · (intro w hSw; (try dsimp only at hSw); go_simp; try with_reducible rfl)
        try simp only [Act.put, List.setIfInBounds_toArray, List.set_cons_zero, List.set_cons_succ]
        refine wpAnyH_take (i := 17) (oi := { dst := some 8, op := Op.assign (Operand.tmp 28), type := 51, pos := "read.go:89", after := #[{ on := 13, ground := Ground.data }, { on := 16, ground := Ground.chain }, { on := 0, ground := Ground.phase }, { on := 1, ground := Ground.phase }, { on := 2, ground := Ground.phase }, { on := 3, ground := Ground.phase }, { on := 4, ground := Ground.phase }, { on := 5, ground := Ground.phase }, { on := 6, ground := Ground.phase }, { on := 7, ground := Ground.phase }, { on := 8, ground := Ground.phase }, { on := 9, ground := Ground.phase }, { on := 10, ground := Ground.phase }, { on := 11, ground := Ground.phase }, { on := 12, ground := Ground.phase }, { on := 13, ground := Ground.phase }, { on := 14, ground := Ground.phase }, { on := 15, ground := Ground.phase }, { on := 16, ground := Ground.phase }], guard := none }) (v := ?_) rfl (by kernel_rfl) (by kernel_rfl) (by kernel_rfl) (fun _ _ _ h => h) (Or.inl ⟨by rfl, ?_⟩) (by assumption) ?_
        rotate_left
        · (intro w hSw; (try dsimp only at hSw); go_simp; try with_reducible rfl)
        try simp only [Act.put, List.setIfInBounds_toArray, List.set_cons_zero, List.set_cons_succ]
        refine wpAnyH_done (by kernel_rfl) ?_ _
        refine NoPanic.normal ?_
        obtain ⟨w7, hw7⟩ : ∃ w7, V2.setRow s6 #[.int .i64 q.r, .slice (some ⟨g2, 0, none⟩) 1 c2] = w7 := ⟨_, rfl⟩
        rw [hw7] at HBW7 HX7 HRB HZ7 HGX7
        (try rw [hw7] at hHeld)
        (try rw [hw7])
        clear hw7
        have hrb6 := HRB.out
        have c2 := hrb6.c2
        have f2 := frozen_of_row w7 b 2 _ 138 hrb6
        have HW7 : Hid (Below w1.heap.size w1 w7) := Lib.hid HBW7.out
        clear hHeld
        go_upto_region 9 with fail
        have hset := hrb6.set2 (((p + (groupB q).length : Nat)) : Int)
        have s2 : (p : Int) + (((groupB q).length : Nat) : Int) = ((p + (groupB q).length : Nat) : Int) := by omega
        (try rw [s2])
        obtain ⟨w8, hw8⟩ : ∃ w8, w7.setCell ⟨b, 2, none⟩ (.int .i64 ((p + (groupB q).length : Nat) : Int)) = w8 := ⟨_, rfl⟩
        have hg8 : w7.grownBy w8 (some b) := by rw [← hw8]; exact grown_set _ _ _ _
        rw [hw8] at hset
        (try rw [hw8])
        have HSET := Lib.hid hset
        have HX8 := Lib.hid ((hg8.block s6 (Go.NR.heap_lt HX7.out) (fun e => HS6.out.1 (by cases e; rfl))).trans HX7.out)
        have HZ8 := Lib.hid ((hg8.block z (Go.NR.heap_lt HZ7.out) (fun e => HZB.out.1 (by cases e; rfl))).trans HZ7.out)
        have HG8 := Lib.hid hg8
        clear hset s2 hw8 hg8 c2 f2 hrb6
        have X0 := cell_of_row w8 s6 0 _ 79 _ HX8.out
        have X1 := cell_of_row w8 s6 1 _ 79 _ HX8.out
        simp at X0 X1
        go_wp2_with (refine wpList_store_at w8 rfl 79 (.tmp 4) (.tmp 44) rfl z 79 0 #[.int .i64 q.r, .slice (some ⟨g2, 0, none⟩) 1 c2] #[.int .i64 0, .slice none 0 0] #[.int .i64 q.r, .slice (some ⟨g2, 0, none⟩) 1 c2] rfl rfl HZ8.out (show 0 + 2 ≤ 2 by omega) rfl size79 (one_g q.r (some ⟨g2, 0, none⟩) 1 c2) ?_)
        refine bodyPost_ret (results_cell1 rfl _ _ z 79 _ _ rfl (setRow_heap' _ z _ _ 79 HZ8.out) size79 st79) rfl ?_
        have hRB : RB (w8.setRow z #[.int .i64 q.r, .slice (some ⟨g2, 0, none⟩) 1 c2]) b A n c f ((p + (groupB q).length : Nat) : Int) 0 := HSET.out.eq (Go.NR.setRow_else _ z _ b HZB.out.1.symm)
        have hGR : w.grownBy (w8.setRow z #[.int .i64 q.r, .slice (some ⟨g2, 0, none⟩) 1 c2]) (some b) := grown_row (grown_trans (grown_trans (grown_below WB.out _) (grown_below HW7.out _)) HG8.out) HZB.out.2.2.1
        have hgf : G1 (w8.setRow z #[.int .i64 q.r, .slice (some ⟨g2, 0, none⟩) 1 c2]) w1.heap.size g2 c2 q.k := (HGX7.out.eq (HG8.out.block g2 HGX7.out.lt (fun e => by have e2 : b = g2 := (by cases e; rfl); have := HGX7.out.1; have := HZB.out; omega))).eq (Go.NR.setRow_else _ z _ g2 (fun e => by have := HGX7.out.1; have := HZB.out; omega))
        exact ⟨g2, c2, rfl, hgf.mono WB.out.size, hRB, hGR⟩
      exact AllReadyH.nil
    exact AllReadyH.nil
  refine AllReadyH.cons (o := { dst := some 6, op := Op.alloc 79, type := 0, pos := "read.go:89", after := #[], guard := none }) rfl (fun K hK => ?_) ?_
  · skip
    go_simp
    have K1 : Hid (Below w1.heap.size w1 (V0.alloc (.cells #[.int .i64 0, .slice none 0 0] 79))) := Lib.hid (K0.out.trans (((Below.refl V0.heap.size V0).alloc (Nat.le_refl _) _).mono K0.out.size))
    have HN := Lib.hid (heap_alloc_new V0 (.cells #[.int .i64 0, .slice none 0 0] 79))
    have HAB : Hid (Below V0.heap.size V0 (V0.alloc (.cells #[.int .i64 0, .slice none 0 0] 79))) := Lib.hid ((Below.refl V0.heap.size V0).alloc (Nat.le_refl _) _)
    have HASZ : Hid ((V0.alloc (.cells #[.int .i64 0, .slice none 0 0] 79)).heap.size = V0.heap.size + 1) := Lib.hid (by simp)
    obtain ⟨s6, hs6⟩ : ∃ s6, V0.heap.size = s6 := ⟨_, rfl⟩
    obtain ⟨V1, hv1⟩ : ∃ V, V0.alloc (.cells #[.int .i64 0, .slice none 0 0] 79) = V := ⟨_, rfl⟩
    have HS6 : Hid (s6 ≠ b ∧ s6 ≠ z ∧ w1.heap.size ≤ s6) := Lib.hid (by have h1 := K0.out.size; have h2 := HZB.out; refine ⟨?_, ?_, ?_⟩ <;> omega)
    have HSQ : Hid (V0.heap.size = s6) := Lib.hid hs6
    rw [hv1] at K1 HN HAB HASZ
    rw [hs6] at HN HASZ
    (try rw [hv1])
    (try rw [hs6])
    skip
    clear hv1 hs6
    refine hK.out _ _ ?_ (fun hHeld => ?_)
    · exact ⟨cellW H0.out K1.out, cellW H2.out K1.out⟩
    clear hK K
    try simp only [Act.put, List.setIfInBounds_toArray, List.set_cons_zero, List.set_cons_succ]
    refine wpAnyH_ready (rs := [9]) (by kernel_rfl) (by simp) ?_
    refine AllReadyH.cons (o := { dst := some 25, op := Op.call { callee := Callee.value (Operand.tmp 16), args := #[Operand.tmp 20, Operand.tmp 24], argTypes := #[50, 3] }, type := 145, pos := "read.go:89", after := #[{ on := 0, ground := Ground.data }, { on := 4, ground := Ground.data }, { on := 8, ground := Ground.data }], guard := none }) rfl (fun K hK => ?_) ?_
    · skip
      go_simp
      refine (Try.groupGet V1 (HR.out.dat.below K1.out) hn hpn hd hq).mono ?_
      rintro x V2 ⟨g2, c2, rfl, hg2, hcb⟩
      have K2 : Hid (Below w1.heap.size w1 V2) := Lib.hid (K1.out.trans (hcb.mono K1.out.size))
      have HN2 := Lib.hid ((hcb.block s6 (Go.NR.heap_lt HN.out)).trans HN.out)
      have HNG : Hid (g2 ≠ s6) := Lib.hid (by have := hg2.1; have := HASZ.out; omega)
      have HGX2 := Lib.hid (hg2.mono K1.out.size)
      clear hg2
      refine hK.out _ _ ?_ (fun hHeld => ?_)
      · exact ⟨cellW H0.out K2.out, cellW H2.out K2.out⟩
      clear hK K
      try simp only [Act.put, List.setIfInBounds_toArray, List.set_cons_zero, List.set_cons_succ]
      refine wpAnyH_take (i := 10) (oi := { dst := some 15, op := Op.move (Operand.tmp 25), type := 145, pos := "read.go:89", after := #[{ on := 9, ground := Ground.data }], guard := none }) (v := ?_) rfl (by kernel_rfl) (by kernel_rfl) (by kernel_rfl) (fun _ _ _ h => h) (Or.inl ⟨by rfl, ?_⟩) (by assumption) ?_
      rotate_left
      · (intro w hSw; (try dsimp only at hSw); go_simp; try with_reducible rfl)
      try simp only [Act.put, List.setIfInBounds_toArray, List.set_cons_zero, List.set_cons_succ]
      refine wpAnyH_take (i := 11) (oi := { dst := some 26, op := Op.extract (Operand.tmp 15) 0, type := 79, pos := "read.go:89", after := #[{ on := 10, ground := Ground.data }], guard := none }) (v := ?_) rfl (by kernel_rfl) (by kernel_rfl) (by kernel_rfl) (fun _ _ _ h => h) (Or.inl ⟨by rfl, ?_⟩) (by assumption) ?_
      rotate_left
      · (intro w hSw; (try dsimp only at hSw); go_simp; try with_reducible rfl)
      try simp only [Act.put, List.setIfInBounds_toArray, List.set_cons_zero, List.set_cons_succ]
      refine wpAnyH_take (i := 12) (oi := { dst := some 27, op := Op.extract (Operand.tmp 15) 1, type := 3, pos := "read.go:89", after := #[{ on := 10, ground := Ground.data }, { on := 15, ground := Ground.gcOnly Departure.lateStores }], guard := none }) (v := ?_) rfl (by kernel_rfl) (by kernel_rfl) (by kernel_rfl) (fun _ _ _ h => h) (Or.inl ⟨by rfl, ?_⟩) (by assumption) ?_
      rotate_left
      · (intro w hSw; (try dsimp only at hSw); go_simp; try with_reducible rfl)
      try simp only [Act.put, List.setIfInBounds_toArray, List.set_cons_zero, List.set_cons_succ]
      refine wpAnyH_take (i := 13) (oi := { dst := some 28, op := Op.extract (Operand.tmp 15) 2, type := 51, pos := "read.go:89", after := #[{ on := 10, ground := Ground.data }, { on := 16, ground := Ground.gcOnly Departure.lateStores }], guard := none }) (v := ?_) rfl (by kernel_rfl) (by kernel_rfl) (by kernel_rfl) (fun _ _ _ h => h) (Or.inl ⟨by rfl, ?_⟩) (by assumption) ?_
      rotate_left
      · (intro w hSw; (try dsimp only at hSw); go_simp; try with_reducible rfl)
      try simp only [Act.put, List.setIfInBounds_toArray, List.set_cons_zero, List.set_cons_succ]
      refine wpAnyH_ready (rs := [15]) (by kernel_rfl) (by simp) ?_
      refine AllReadyH.cons (o := { dst := none, op := Op.store 79 (Operand.tmp 6) (Operand.tmp 26), type := 0, pos := "read.go:89", after := #[{ on := 14, ground := Ground.data }, { on := 11, ground := Ground.data }, { on := 9, ground := Ground.chain }, { on := 0, ground := Ground.phase }, { on := 1, ground := Ground.phase }, { on := 2, ground := Ground.phase }, { on := 3, ground := Ground.phase }, { on := 4, ground := Ground.phase }, { on := 5, ground := Ground.phase }, { on := 6, ground := Ground.phase }, { on := 7, ground := Ground.phase }, { on := 8, ground := Ground.phase }, { on := 9, ground := Ground.phase }, { on := 10, ground := Ground.phase }, { on := 11, ground := Ground.phase }, { on := 12, ground := Ground.textOnly Departure.lateStores }, { on := 13, ground := Ground.textOnly Departure.lateStores }, { on := 14, ground := Ground.phase }], guard := none }) rfl (fun K hK => ?_) ?_
      · skip
        have HX6 := HN2
        have HBW7 : Hid (Below w1.heap.size w1 (V2.setRow s6 #[.int .i64 q.r, .slice (some ⟨g2, 0, none⟩) 1 c2])) := Lib.hid (Below.setRow K2.out HS6.out.2.2 _)
        have HX7 : Hid ((V2.setRow s6 #[.int .i64 q.r, .slice (some ⟨g2, 0, none⟩) 1 c2]).heap[s6]? = some (.cells #[.int .i64 q.r, .slice (some ⟨g2, 0, none⟩) 1 c2] 79 (0, 0))) := Lib.hid (setRow_heap' _ s6 _ _ 79 HN2.out)
        have HRB : Hid (RB (V2.setRow s6 #[.int .i64 q.r, .slice (some ⟨g2, 0, none⟩) 1 c2]) b A n c f p 0) := Lib.hid (HR.out.rb.eq (HBW7.out.block b (by have := HZB.out; omega)))
        have HZ7 : Hid ((V2.setRow s6 #[.int .i64 q.r, .slice (some ⟨g2, 0, none⟩) 1 c2]).heap[z]? = some (.cells #[.int .i64 0, .slice none 0 0] 79 (0, 0))) := Lib.hid ((HBW7.out.block z HZB.out.2.2.2).trans HZ.out)
        have HGX7 : Hid (G1 (V2.setRow s6 #[.int .i64 q.r, .slice (some ⟨g2, 0, none⟩) 1 c2]) w1.heap.size g2 c2 q.k) := Lib.hid (HGX2.out.eq (Go.NR.setRow_else _ s6 _ g2 HNG.out))
        refine oper_store_at _ 79 (.tmp 6) (.tmp 26) rfl s6 79 0 #[.int .i64 q.r, .slice (some ⟨g2, 0, none⟩) 1 c2] #[.int .i64 0, .slice none 0 0] #[.int .i64 q.r, .slice (some ⟨g2, 0, none⟩) 1 c2] rfl rfl HN2.out (show 0 + 2 ≤ 2 by omega) rfl size79 (one_g q.r (some ⟨g2, 0, none⟩) 1 c2) ?_
        refine hK.out _ _ ?_ (fun hHeld => ?_)
        · exact ⟨(World.cell?_of_block (Go.NR.setRow_else _ s6 _ b HS6.out.1.symm)).trans (cellW H0.out K2.out), (World.cell?_of_block (Go.NR.setRow_else _ s6 _ b HS6.out.1.symm)).trans (cellW H2.out K2.out)⟩
        clear hK K
        try simp only [Act.put, List.setIfInBounds_toArray, List.set_cons_zero, List.set_cons_succ]
        refine wpAnyH_take (i := 16) (oi := { dst := some 7, op := Op.assign (Operand.tmp 27), type := 3, pos := "read.go:89", after := #[{ on := 12, ground := Ground.data }, { on := 15, ground := Ground.chain }, { on := 0, ground := Ground.phase }, { on := 1, ground := Ground.phase }, { on := 2, ground := Ground.phase }, { on := 3, ground := Ground.phase }, { on := 4, ground := Ground.phase }, { on := 5, ground := Ground.phase }, { on := 6, ground := Ground.phase }, { on := 7, ground := Ground.phase }, { on := 8, ground := Ground.phase }, { on := 9, ground := Ground.phase }, { on := 10, ground := Ground.phase }, { on := 11, ground := Ground.phase }, { on := 12, ground := Ground.phase }, { on := 13, ground := Ground.textOnly Departure.lateStores }, { on := 14, ground := Ground.phase }, { on := 15, ground := Ground.phase }], guard := none }) (v := ?_) rfl (by kernel_rfl) (by kernel_rfl) (by kernel_rfl) (fun _ _ _ h => h) (Or.inl ⟨by rfl, ?_⟩) (by assumption) ?_
        rotate_left
        · (intro w hSw; (try dsimp only at hSw); go_simp; try with_reducible rfl)
        try simp only [Act.put, List.setIfInBounds_toArray, List.set_cons_zero, List.set_cons_succ]
        refine wpAnyH_take (i := 17) (oi := { dst := some 8, op := Op.assign (Operand.tmp 28), type := 51, pos := "read.go:89", after := #[{ on := 13, ground := Ground.data }, { on := 16, ground := Ground.chain }, { on := 0, ground := Ground.phase }, { on := 1, ground := Ground.phase }, { on := 2, ground := Ground.phase }, { on := 3, ground := Ground.phase }, { on := 4, ground := Ground.phase }, { on := 5, ground := Ground.phase }, { on := 6, ground := Ground.phase }, { on := 7, ground := Ground.phase }, { on := 8, ground := Ground.phase }, { on := 9, ground := Ground.phase }, { on := 10, ground := Ground.phase }, { on := 11, ground := Ground.phase }, { on := 12, ground := Ground.phase }, { on := 13, ground := Ground.phase }, { on := 14, ground := Ground.phase }, { on := 15, ground := Ground.phase }, { on := 16, ground := Ground.phase }], guard := none }) (v := ?_) rfl (by kernel_rfl) (by kernel_rfl) (by kernel_rfl) (fun _ _ _ h => h) (Or.inl ⟨by rfl, ?_⟩) (by assumption) ?_
        rotate_left
        · (intro w hSw; (try dsimp only at hSw); go_simp; try with_reducible rfl)
        try simp only [Act.put, List.setIfInBounds_toArray, List.set_cons_zero, List.set_cons_succ]
        refine wpAnyH_done (by kernel_rfl) ?_ _
        refine NoPanic.normal ?_
        obtain ⟨w7, hw7⟩ : ∃ w7, V2.setRow s6 #[.int .i64 q.r, .slice (some ⟨g2, 0, none⟩) 1 c2] = w7 := ⟨_, rfl⟩
        rw [hw7] at HBW7 HX7 HRB HZ7 HGX7
        (try rw [hw7] at hHeld)
        (try rw [hw7])
        clear hw7
        have hrb6 := HRB.out
        have c2 := hrb6.c2
        have f2 := frozen_of_row w7 b 2 _ 138 hrb6
        have HW7 : Hid (Below w1.heap.size w1 w7) := Lib.hid HBW7.out
        clear hHeld
        go_upto_region 9 with fail
        have hset := hrb6.set2 (((p + (groupB q).length : Nat)) : Int)
        have s2 : (p : Int) + (((groupB q).length : Nat) : Int) = ((p + (groupB q).length : Nat) : Int) := by omega
        (try rw [s2])
        obtain ⟨w8, hw8⟩ : ∃ w8, w7.setCell ⟨b, 2, none⟩ (.int .i64 ((p + (groupB q).length : Nat) : Int)) = w8 := ⟨_, rfl⟩
        have hg8 : w7.grownBy w8 (some b) := by rw [← hw8]; exact grown_set _ _ _ _
        rw [hw8] at hset
        (try rw [hw8])
        have HSET := Lib.hid hset
        have HX8 := Lib.hid ((hg8.block s6 (Go.NR.heap_lt HX7.out) (fun e => HS6.out.1 (by cases e; rfl))).trans HX7.out)
        have HZ8 := Lib.hid ((hg8.block z (Go.NR.heap_lt HZ7.out) (fun e => HZB.out.1 (by cases e; rfl))).trans HZ7.out)
        have HG8 := Lib.hid hg8
        clear hset s2 hw8 hg8 c2 f2 hrb6
        have X0 := cell_of_row w8 s6 0 _ 79 _ HX8.out
        have X1 := cell_of_row w8 s6 1 _ 79 _ HX8.out
        simp at X0 X1
        go_wp2_with (refine wpList_store_at w8 rfl 79 (.tmp 4) (.tmp 44) rfl z 79 0 #[.int .i64 q.r, .slice (some ⟨g2, 0, none⟩) 1 c2] #[.int .i64 0, .slice none 0 0] #[.int .i64 q.r, .slice (some ⟨g2, 0, none⟩) 1 c2] rfl rfl HZ8.out (show 0 + 2 ≤ 2 by omega) rfl size79 (one_g q.r (some ⟨g2, 0, none⟩) 1 c2) ?_)
        refine bodyPost_ret (results_cell1 rfl _ _ z 79 _ _ rfl (setRow_heap' _ z _ _ 79 HZ8.out) size79 st79) rfl ?_
        have hRB : RB (w8.setRow z #[.int .i64 q.r, .slice (some ⟨g2, 0, none⟩) 1 c2]) b A n c f ((p + (groupB q).length : Nat) : Int) 0 := HSET.out.eq (Go.NR.setRow_else _ z _ b HZB.out.1.symm)
        have hGR : w.grownBy (w8.setRow z #[.int .i64 q.r, .slice (some ⟨g2, 0, none⟩) 1 c2]) (some b) := grown_row (grown_trans (grown_trans (grown_below WB.out _) (grown_below HW7.out _)) HG8.out) HZB.out.2.2.1
        have hgf : G1 (w8.setRow z #[.int .i64 q.r, .slice (some ⟨g2, 0, none⟩) 1 c2]) w1.heap.size g2 c2 q.k := (HGX7.out.eq (HG8.out.block g2 HGX7.out.lt (fun e => by have e2 : b = g2 := (by cases e; rfl); have := HGX7.out.1; have := HZB.out; omega))).eq (Go.NR.setRow_else _ z _ g2 (fun e => by have := HGX7.out.1; have := HZB.out; omega))
        exact ⟨g2, c2, rfl, hgf.mono WB.out.size, hRB, hGR⟩
      exact AllReadyH.nil
    exact AllReadyH.nil
  exact AllReadyH.nil
end Go.Proofs.Ytfblhcphbcghpaa
end

section
namespace Go.Proofs.Ytfblhcphbcghpaa
open Go.RowKit
open Go.NR (At)
set_option maxRecDepth 100000
theorem GO.stay {w w' : World} {B e : Nat} {v : Value} {gs : List GQ} (h : GO w B e v gs) (hs : ∀ k, B ≤ k → k < w.heap.size → w'.heap[k]? = w.heap[k]?) : GO w' B e v gs := by
  obtain ⟨xs, ho, hx⟩ := h
  refine ⟨xs, Go.NR.own_stay ho fun k hk => hs k (ho.lt k hk).1 (ho.lt k hk).2, hx.1, fun j q hj => ?_⟩
  obtain ⟨g, c, x1, x2, x3, x4⟩ := hx.2 j q hj
  exact ⟨g, c, x1, x2, x3.eq (hs g x3.1 x3.lt), x4⟩
structure FL (w w0 wr : World) (b s z : Nat) (A : Option Addr) (n c : Nat) (l : List UInt8) (p i e g cv : Nat) (cs : List (List UInt8 × Int)) (vA : Option Addr) (vc : Nat) (gs : List GQ) : Prop where
  fg : FG w w0 wr b s z A n c l p 0 #[.int .u64 e, .slice (some ⟨g, 0, none⟩) cs.length cv, .slice vA i vc]
  cr : CR wr (some ⟨g, 0, none⟩) cs.length cv cs
  col : g ≠ s ∧ g ≠ b ∧ w0.heap.size ≤ g ∧ g < wr.heap.size ∧ (Value.slice vA i vc).ownBlock ≠ some g
  own : GO wr (s + 1) 79 (.slice vA i vc) gs
  nb : b < s
theorem FL.next {w w0 wr w' : World} {b s z : Nat} {A : Option Addr} {n c : Nat} {l : List UInt8} {p p' i e g cv : Nat} {cs : List (List UInt8 × Int)} {vA : Option Addr} {vc : Nat} {gs : List GQ} (h : FL w w0 wr b s z A n c l p i e g cv cs vA vc gs) (hr : Rd wr b A n c 0 p' 0 w') (hp : p' ≤ n) : FL w w0 w' b s z A n c l p' i e g cv cs vA vc gs :=
  ⟨h.fg.next hr hp, h.cr.eq (hr.2.block g h.col.2.2.2.1 (fun e => h.col.2.1 (by cases e; rfl))), ⟨h.col.1, h.col.2.1, h.col.2.2.1, Nat.lt_of_lt_of_le h.col.2.2.2.1 hr.2.size, h.col.2.2.2.2⟩, h.own.stay fun k hk hl => hr.2.block k hl (fun e => by have e2 : b = k := (by cases e; rfl); have := h.nb; omega), h.nb⟩
theorem FG.below {w w0 wr w' : World} {b s z : Nat} {A : Option Addr} {n c : Nat} {l : List UInt8} {p : Nat} {er : Int} {cells : Array Value} (h : FG w w0 wr b s z A n c l p er cells) (hb : Below wr.heap.size wr w') : FG w w0 w' b s z A n c l p er cells :=
  ⟨h.rd.set hb, (hb.block s (Go.NR.heap_lt h.here)).trans h.here, h.sb, h.s0, h.z0, h.zl, (hb.block z (Go.NR.heap_lt h.zh)).trans h.zh, h.be.trans (hb.mono h.be.size)⟩
theorem FL.below {w w0 wr w' : World} {b s z : Nat} {A : Option Addr} {n c : Nat} {l : List UInt8} {p i e g cv : Nat} {cs : List (List UInt8 × Int)} {vA : Option Addr} {vc : Nat} {gs : List GQ} (h : FL w w0 wr b s z A n c l p i e g cv cs vA vc gs) (hb : Below wr.heap.size wr w') : FL w w0 w' b s z A n c l p i e g cv cs vA vc gs :=
  ⟨h.fg.below hb, h.cr.below hb, ⟨h.col.1, h.col.2.1, h.col.2.2.1, Nat.lt_of_lt_of_le h.col.2.2.2.1 hb.size, h.col.2.2.2.2⟩, h.own.below hb, h.nb⟩
theorem FL.push {w w0 V1 V2 V3 : World} {b s z : Nat} {A : Option Addr} {n c : Nat} {l : List UInt8} {p i e g cv : Nat} {cs : List (List UInt8 × Int)} {vA vA' : Option Addr} {vc vc' : Nat} {gs : List GQ} {q : GQ} {xs : List Value} {g2 c2 : Nat} (h : FL w w0 V1 b s z A n c l p i e g cv cs vA vc (gs.take i)) (hq : gs[i]? = some q) (hi : (gs.take i).length = i)
    (hx : GX V1 (s + 1) (.slice vA i vc) (gs.take i) xs) (hv : ∀ k, (Value.slice vA i vc).ownBlock = some k → s + 1 ≤ k ∧ k < V1.heap.size) (K12 : Below V1.heap.size V1 V2) (g3 : V2.grownBy V3 (Value.slice vA i vc).ownBlock) (w3 : ∀ k, (Value.slice vA' (i + 1) vc').ownBlock = some k → (Value.slice vA i vc).ownBlock = some k ∨ V2.heap.size ≤ k)
    (hg2 : G1 V1 (s + 1) g2 c2 q.k) (hn2 : (Value.slice vA i vc).ownBlock ≠ some g2) (o4 : (V3.setCell ⟨s, 2, none⟩ (.slice vA' (i + 1) vc')).ownsRow (s + 1) 79 2 (.slice vA' (i + 1) vc') (i + 1) (xs ++ [.int .i64 q.r, .slice (some ⟨g2, 0, none⟩) 1 c2]))
    (s4 : (V3.setCell ⟨s, 2, none⟩ (.slice vA' (i + 1) vc')).heap[s]? = some (.cells #[.int .u64 e, .slice (some ⟨g, 0, none⟩) cs.length cv, .slice vA' (i + 1) vc'] 48 (0, 0))) (g4 : Go.NR.Chg V1 (V3.setCell ⟨s, 2, none⟩ (.slice vA' (i + 1) vc')) (fun k => k = s ∨ (Value.slice vA i vc).ownBlock = some k)) :
    FL w w0 (V3.setCell ⟨s, 2, none⟩ (.slice vA' (i + 1) vc')) b s z A n c l p (i + 1) e g cv cs vA' vc' (gs.take (i + 1)) := by
  have hl1 := hg2.lt
  have e2 := K12.size
  have hne : ∀ k, k < s → ¬ (k = s ∨ (Value.slice vA i vc).ownBlock = some k) := fun k hk e => by
    rcases e with e | e
    · omega
    · have := (hv k e).1; omega
  have hnb := h.nb
  have hs0 := h.fg.s0
  have hz0 := h.fg.z0
  have hzl := h.fg.zl
  have hbl := h.fg.rd.rb.lt
  have hw0 := h.fg.rd.bel.size
  have hwb := h.fg.be.size
  have hst2 : (V3.setCell ⟨s, 2, none⟩ (.slice vA' (i + 1) vc')).heap[g2]? = V1.heap[g2]? := g4.block g2 hl1 (fun e => by rcases e with e | e; (have := hg2.1; omega); (exact hn2 e))
  refine ⟨⟨h.fg.rd.other (g4.block b hbl (hne b hnb)) (h.fg.rd.bel.trans (g4.isBelow hw0 (fun k hk => hne k (by omega)))), s4, h.fg.sb, h.fg.s0, h.fg.z0, h.fg.zl, (g4.block z (Go.NR.heap_lt h.fg.zh) (hne z (by omega))).trans h.fg.zh, h.fg.be.trans (g4.isBelow hwb (fun k hk => hne k (by omega)))⟩, h.cr.eq (g4.block g h.col.2.2.2.1 (fun e => by rcases e with e | e; (exact h.col.1 e); (exact h.col.2.2.2.2 e))), ⟨h.col.1, h.col.2.1, h.col.2.2.1, Nat.lt_of_lt_of_le h.col.2.2.2.1 g4.size, fun e => ?_⟩, ⟨xs ++ [.int .i64 q.r, .slice (some ⟨g2, 0, none⟩) 1 c2], ?_, ?_⟩, hnb⟩
  · rcases w3 g e with h' | h'
    · exact h.col.2.2.2.2 h'
    · have := h.col.2.2.2.1; omega
  · rw [take_snoc hq, List.length_append, hi]
    exact o4
  · rw [take_snoc hq]
    refine hx.push q (hg2.eq hst2) (Nat.lt_succ_self s) (fun k hk hn hn2 => g4.block k hk (fun e => by rcases e with e | e; exact hn e; exact hn2 e)) (fun k hk => ?_) (fun e => ?_)
    · rcases w3 k hk with h' | h'
      · exact .inl h'
      · exact .inr (by omega)
    · rcases w3 g2 e with h' | h'
      · exact hn2 h'
      · omega
def lackG (k : Nat) (wr : World) (v : Value) : Nat := match v with
  | .pointer (some a) => (match wr.cell? ⟨a.block, 2, none⟩ with
    | some (.slice _ m _) => k - m
    | _ => 0)
  | _ => 0
theorem lackG_ptr {k m c s : Nat} {wr : World} {A : Option Addr} (h : wr.cell? ⟨s, 2, none⟩ = some (.slice A m c)) : lackG k wr (.pointer (some ⟨s, 0, none⟩)) = k - m := by
  unfold lackG
  simp only [h]
def FGotG (w : World) (e : Nat) (cs : List (List UInt8 × Int)) (gs : List GQ) (x : Ending) (w' : World) : Prop := ∃ g c A' c', x = .returned (.tuple #[.agg #[.int .u64 e, .slice (some ⟨g, 0, none⟩) cs.length c, .slice A' gs.length c'], .int .i64 0]) ∧ CR w' (some ⟨g, 0, none⟩) cs.length c cs ∧ GRow w' w.heap.size A' gs.length c' gs ∧ Below w.heap.size w w'
theorem gsB_drop {gs : List GQ} {i : Nat} {q : GQ} (h : gs[i]? = some q) : gsB (gs.drop i) = groupB q ++ gsB (gs.drop (i + 1)) := by
  obtain ⟨hl, e⟩ := List.getElem?_eq_some_iff.1 h
  rw [List.drop_eq_getElem_cons hl, e]
  rfl
set_option maxHeartbeats 16000000 in
theorem Try.footGetG (w : World) {A : Option Addr} {n c e : Nat} {cs : List (List UInt8 × Int)} {gs : List GQ} (he : e < 18446744073709551616) (he0 : e ≠ 0) (hok : chk cs = 0) (hk : gs.length ≤ 64) (hq : ∀ (j : Nat) (q : GQ), gs[j]? = some q → q.ok) (hD : DI w A n c (footG e cs gs)) :
    Calls Try.prog 9 #[.slice A n c] w (FGotG w e cs gs) := by
  have hln := hD.len
  have hcn : cs ≠ [] := by
    obtain ⟨h1, _, _⟩ := chk_ok hok
    intro h
    rw [h] at h1
    simp at h1
  have hd0 : (footG e cs gs).drop 0 = encN e ++ (schB cs ++ (encN gs.length ++ gsB gs)) := by rw [List.drop_zero]; simp [footG]
  obtain ⟨l1, hd1⟩ := drop_fit hd0 (Nat.zero_le _)
  have f2 := sget_sch hd1 hok l1
  obtain ⟨l2, hd2⟩ := drop_fit hd1 l1
  obtain ⟨l3, hd3⟩ := drop_fit hd2 l2
  have hbig : (footG e cs gs).length ≤ 6200 := by
    have h1 := gsB_le gs
    have h2 := schB_le hok
    have h3 := encN_in e
    have h4 := encN_in gs.length
    unfold footG
    simp only [List.length_append]
    omega
  obtain ⟨l, hl⟩ : ∃ l, footG e cs gs = l := ⟨_, rfl⟩
  obtain ⟨p1, hp1⟩ : ∃ p, 0 + (encN e).length = p := ⟨_, rfl⟩
  obtain ⟨p2, hp2⟩ : ∃ p, p1 + (schB cs).length = p := ⟨_, rfl⟩
  obtain ⟨p3, hp3⟩ : ∃ p, p2 + (encN gs.length).length = p := ⟨_, rfl⟩
  rw [hl] at hln hD hd0 hd1 f2 hd2 l1 l2 l3 hd3 hbig
  rw [hp1] at hd1 f2 hd2 l1 l2 l3 hd3
  rw [hp2] at hd2 l2 l3 hd3
  rw [hp3] at l3 hd3
  rw [hln] at l1 l2 l3 hbig
  have HP1 := Lib.hid hp1
  have HP2 := Lib.hid hp2
  have HP3 := Lib.hid hp3
  have HD0 := Lib.hid hd0
  have HD2 := Lib.hid hd2
  have HD3 := Lib.hid hd3
  have F2 := Lib.hid f2
  have HCN := Lib.hid hcn
  have HLS : Hid (p1 ≤ n ∧ p2 ≤ n ∧ p3 ≤ n ∧ n ≤ 6200) := Lib.hid ⟨l1, l2, l3, hbig⟩
  have HLL := Lib.hid hln
  have HQ := Lib.hid hq
  have HE := Lib.hid he
  obtain ⟨k, hkk⟩ : ∃ k, gs.length = k := ⟨_, rfl⟩
  rw [hkk] at hk
  have HKK := Lib.hid hkk
  have HD := Lib.hid (hD.below ((Below.refl _ w).alloc (Nat.le_refl _) (.cells foot0 48)))
  have VZ := Lib.hid (heap_alloc_new w (.cells foot0 48))
  have BZ := Lib.hid ((Below.refl _ w).alloc (Nat.le_refl _) (.cells foot0 48))
  obtain ⟨w0, hw0⟩ : ∃ w0, w.alloc (.cells foot0 48) = w0 := ⟨_, rfl⟩
  obtain ⟨z, hz⟩ : ∃ z, w.heap.size = z := ⟨_, rfl⟩
  rw [hw0] at HD VZ BZ
  rw [hz] at VZ
  have hg0 : decide ((0 : Int) < (e : Int)) = true := decide_eq_true (by omega)
  have hg0' : decide (0 < e) = true := decide_eq_true (by omega)
  clear hcn hD hl hp1 hp2 hp3 hln he0 hd0 hd1 hd2 hd3 f2 l1 l2 l3 hbig hq hkk he
  go_enter Try.func9, Try.ntmps9
  go_upto_region 1 with fail
  unfold foot0 at hw0
  rw [hw0]
  have HZ := Lib.hid hz
  clear hw0 hz
  refine Go.NR.wp_scope_once 0 (fun a' wr => ∃ (i p b s g cv : Nat) (vA : Option Addr) (vc : Nat), i ≤ k ∧ Hid (FL w w0 wr b s z A n c l p i e g cv cs vA vc (gs.take i)) ∧ Hid (l.drop p = gsB (gs.drop i)) ∧ ∃ u1 u7 u8 u9 u10 u11 u12 u13 u14 u15 u16 u17 u18 u19 u20 u21 u22 u23 u24 u25 u26 u27 u28 u29 u30 u31 u32 u33 u34 u35 u36 u37 u38 u39 u40 u41 u42 u43 u44 u45 u46 u47 u48 u49 u50 u51 u52 u53 u54 u55 u56 : Value, a' = { tmps := #[.slice A n c, u1, .pointer (some ⟨z, 0, none⟩), .int .i64 0, .pointer (some ⟨b, 0, none⟩), .pointer (some ⟨s, 0, none⟩), .int .u64 k, u7, u8, u9, u10, u11, u12, u13, u14, u15, u16, u17, u18, u19, u20, u21, u22, u23, u24, u25, u26, u27, u28, u29, u30, u31, u32, u33, u34, u35, u36, u37, u38, u39, u40, u41, u42, u43, u44, u45, u46, u47, u48, u49, u50, u51, u52, u53, u54, u55, u56], defers := [] }) (fun a' wr => lackG k wr (a'.tmps.getD 5 undef)) rfl ?_ ?_
  · intro hL
    go_wp2_with fail
    refine (Try.rnew w0 A n c 0 0 (by have := HLS.out; omega) (by rw [if_pos]; omega)).mono ?_
    rintro x w1 ⟨b, rfl, hrb, hR1, hb1⟩
    have hR : RdIn w0 w1 b A n c l 0 0 0 := ⟨hR1, HD.out, hb1, hrb, by have := HLS.out; omega, by omega⟩
    have HR := Lib.hid hR
    clear hrb hR1 hb1 hR
    go_wp2_with fail
    refine (Try.numI HR.out HD0.out HE.out).mono ?_
    rintro x w2 ⟨rfl, h2⟩
    rw [HP1.out] at h2
    have HR2 : Hid (RdIn w0 w2 b A n c l 0 p1 0) := Lib.hid (HR.out.next h2 HLS.out.1)
    clear h2
    have HF : Hid (FG w w0 (w2.alloc (.cells #[.int .u64 e, .slice none 0 0, .slice none 0 0] 48)) b w2.heap.size z A n c l p1 0 #[.int .u64 e, .slice none 0 0, .slice none 0 0]) := Lib.hid (by
      have hr := HR2.out
      have hbl := hr.rb.lt
      have hz0 := Go.NR.heap_lt VZ.out
      have hs := hr.bel.size
      have hb3 := (Below.refl w2.heap.size w2).alloc (Nat.le_refl _) (.cells #[.int .u64 e, .slice none 0 0, .slice none 0 0] 48)
      refine ⟨⟨hr.rb.eq (hb3.block b hbl), hr.di, hr.bel.trans (hb3.mono hs), hr.box, hr.hn, hr.hp⟩, heap_alloc_new w2 _, by omega, hs, by have := HZ.out; omega, hz0, (hb3.block z (by omega)).trans ((hr.bel.block z hz0).trans VZ.out), BZ.out.trans ((hr.bel.trans (hb3.mono hs)).mono BZ.out.size)⟩)
    have HNB : Hid (b < w2.heap.size) := Lib.hid HR2.out.rb.lt
    clear HR
    go_wp2_with fail
    refine (Try.rneed HF.out.rd.rb true 1 0 (by simp)).mono ?_
    rintro x w3 ⟨rfl, h3⟩
    obtain ⟨s, hs⟩ : ∃ s, w2.heap.size = s := ⟨_, rfl⟩
    rw [hs] at HF HNB
    rw [hs]
    have HF3 := Lib.hid (HF.out.next h3 HLS.out.1)
    clear h3 HF hs HR2
    go_wp2_with fail
    refine (Try.rofS HF3.out.rd F2.out (by rw [HP2.out]; exact HLS.out.2.1)).mono ?_
    rintro x w4 ⟨v, m, rfl, ho, hm8, h4⟩
    rw [HP2.out] at h4
    have HF4 := Lib.hid (HF3.out.next h4 HLS.out.2.1)
    obtain ⟨g, cv, rfl, rfl, hg, hcr⟩ := own_crs ho HCN.out
    have HCR4 := Lib.hid hcr
    have HCO : Hid (g ≠ s ∧ g ≠ b ∧ w0.heap.size ≤ g ∧ g < w4.heap.size) := Lib.hid ⟨by
      have := Go.NR.heap_lt HF3.out.here
      omega, by
      have := HF3.out.rd.rb.lt
      omega, by have := HF3.out.rd.bel.size; omega, (ho.lt g rfl).2⟩
    have f1 := frozen_of_row w4 s 1 _ 48 HF4.out.here
    have f2 : w4.cell? ⟨s, 1, none⟩ = some (.slice none 0 0) := cell_of_row w4 s 1 _ 48 _ HF4.out.here
    have HF5 := Lib.hid (HF4.out.set 1 (.slice (some ⟨g, 0, none⟩) cs.length cv))
    have HCR5 : Hid (CR (w4.setCell ⟨s, 1, none⟩ (.slice (some ⟨g, 0, none⟩) cs.length cv)) (some ⟨g, 0, none⟩) cs.length cv cs) := Lib.hid (HCR4.out.eq (Below.heap_setCell _ _ _ _ HCO.out.1))
    have HSZ5 : Hid ((w4.setCell ⟨s, 1, none⟩ (.slice (some ⟨g, 0, none⟩) cs.length cv)).heap.size = w4.heap.size) := Lib.hid (by simp [World.setCell])
    clear h4 HF3 ho HF4 hcr hg hm8 HCR4
    go_wp2_with fail
    refine (Try.numI HF5.out.rd HD2.out (by have := HKK.out; omega)).mono ?_
    rintro x w6 ⟨rfl, h6⟩
    rw [HP3.out] at h6
    rw [HKK.out]
    have HL6 : Hid (FL w w0 w6 b s z A n c l p3 0 e g cv cs none 0 (gs.take 0)) := Lib.hid ⟨HF5.out.next h6 HLS.out.2.2.1, HCR5.out.eq (h6.2.block g (by have := HSZ5.out; have := HCO.out; omega) (fun e => HCO.out.2.1 (by cases e; rfl))), ⟨HCO.out.1, HCO.out.2.1, HCO.out.2.2.1, by have := h6.2.size; have := HSZ5.out; have := HCO.out; omega, by simp [Value.ownBlock]⟩, GO.nil w6 (s + 1) 79, HNB.out⟩
    clear h6 HF5 HCR5 f1 f2 HSZ5 HCO
    have hk1 : decide ((k : Int) ≤ 64) = true := decide_eq_true (by omega)
    have hk1' : decide (k ≤ 64) = true := decide_eq_true hk
    go_wp2_with fail
    refine (Try.rneed HL6.out.fg.rd.rb true 4 0 (by simp)).mono ?_
    rintro x w7 ⟨rfl, h7⟩
    have HL7 := Lib.hid (HL6.out.next h7 HLS.out.2.2.1)
    have HD7 : Hid (l.drop p3 = gsB (gs.drop 0)) := Lib.hid (by rw [List.drop_zero]; exact HD3.out)
    clear h7 HL6 hk1 hk1'
    go_wp2_with (refine wp_label ?_; rename_i Q0 K0 hK; refine hK _ _ (hL _ _ ?_); exact ⟨0, p3, b, s, g, cv, none, 0, Nat.zero_le _, HL7, HD7, _, _, _, _, _, _, _, _, _, _, _, _, _, _, _, _, _, _, _, _, _, _, _, _, _, _, _, _, _, _, _, _, _, _, _, _, _, _, _, _, _, _, _, _, _, _, _, _, _, _, _, rfl⟩)
  · rintro a' wr ⟨i, p, b, s, g, cv, vA, vc, hi, HL, HDR, u1, u7, u8, u9, u10, u11, u12, u13, u14, u15, u16, u17, u18, u19, u20, u21, u22, u23, u24, u25, u26, u27, u28, u29, u30, u31, u32, u33, u34, u35, u36, u37, u38, u39, u40, u41, u42, u43, u44, u45, u46, u47, u48, u49, u50, u51, u52, u53, u54, u55, u56, rfl⟩
    have c2 : wr.cell? ⟨s, 2, none⟩ = some (.slice vA i vc) := cell_of_row wr s 2 _ 48 _ HL.out.fg.here
    have hik : i < 100 := by omega
    by_cases hlt : i < k
    · have d1 : decide ((i : Int) < (k : Int)) = true := decide_eq_true (by omega)
      have d1' : decide (i < k) = true := decide_eq_true hlt
      have s1 : IntKind.u64.wrap (i : Int) = (i : Int) := by rw [IntKind.wrap_u64]; omega
      have HCL := Lib.hid c2
      go_wp2_with fail
      refine (Try.rerr HL.out.fg.rd.rb).mono ?_
      rintro x w1 ⟨rfl, hw1⟩
      rw [hw1]
      clear hw1 w1
      go_upto_region 8 with fail
      clear c2 s1
      obtain ⟨q, hq⟩ : ∃ q, gs[i]? = some q := ⟨_, List.getElem?_eq_getElem (by rw [HKK.out]; exact hlt)⟩
      have hdq : l.drop p = groupB q ++ gsB (gs.drop (i + 1)) := by rw [HDR.out]; exact gsB_drop hq
      have HDQ := Lib.hid hdq
      have hfit := drop_fit hdq (by rw [HLL.out]; exact HL.out.fg.rd.hp)
      rw [HLL.out] at hfit
      have HFIT := Lib.hid hfit
      have HQI := Lib.hid hq
      have HTI : Hid ((gs.take i).length = i) := Lib.hid (by rw [List.length_take, HKK.out]; omega)
      have HV : Hid (∀ j, (Value.slice vA i vc).ownBlock = some j → s + 1 ≤ j ∧ j < wr.heap.size) := Lib.hid (fun j hj => HL.out.own.lt j hj)
      have HNE : Hid (∀ j, (Value.slice vA i vc).ownBlock = some j → j ≠ s) := Lib.hid (fun j hj => by have := (HV.out j hj).1; omega)
      have HSW : Hid (s < wr.heap.size) := Lib.hid (Go.NR.heap_lt HL.out.fg.here)
      clear hdq hfit hq
      refine wp_region_noPanic ?_
      refine wp_region_held_drew (S := (fun _ => True)) (by kernel_rfl) ?_ (fun hHeld => ?_)
      · trivial
      obtain ⟨V0, hV0⟩ : ∃ V0, wr.drew = V0 := ⟨_, rfl⟩
      have K0 : Hid (Below wr.heap.size wr V0) := Lib.hid (by rw [← hV0]; exact (Below.refl _ wr).drew)
      rw [hV0]
      clear hV0
      refine wpAnyH_take (i := 0) (oi := { dst := some 38, op := Op.fieldAddr 48 (Operand.tmp 5) 2, type := 0, pos := "foot.go:106", after := #[], guard := none }) (v := ?_) rfl (by kernel_rfl) (by kernel_rfl) (by kernel_rfl) (fun _ _ _ h => h) (Or.inl ⟨by rfl, ?_⟩) (by assumption) ?_
      rotate_left
      · (intro w hSw; (try dsimp only at hSw); go_simp; try with_reducible rfl)
      try simp only [Act.put, List.setIfInBounds_toArray, List.set_cons_zero, List.set_cons_succ]
      refine wpAnyH_take (i := 2) (oi := { dst := some 40, op := Op.move (Operand.tmp 4), type := 90, pos := "foot.go:106", after := #[], guard := none }) (v := ?_) rfl (by kernel_rfl) (by kernel_rfl) (by kernel_rfl) (fun _ _ _ h => h) (Or.inl ⟨by rfl, ?_⟩) (by assumption) ?_
      rotate_left
      · (intro w hSw; (try dsimp only at hSw); go_simp; try with_reducible rfl)
      try simp only [Act.put, List.setIfInBounds_toArray, List.set_cons_zero, List.set_cons_succ]
      refine wpAnyH_ready (rs := [1, 3]) (by kernel_rfl) (by simp) ?_
      refine AllReadyH.cons (o := { dst := some 39, op := Op.load 46 (Operand.tmp 38), type := 46, pos := "foot.go:106", after := #[{ on := 0, ground := Ground.data }], guard := none }) rfl (fun K hK => ?_) ?_
      · skip
        have p1 : V0.cell? ⟨s, 2, none⟩ = some (.slice vA i vc) := cellW HCL.out K0.out
        go_simp
        clear p1
        refine hK.out _ _ ?_ (fun hHeld => ?_)
        · trivial
        clear hK K
        try simp only [Act.put, List.setIfInBounds_toArray, List.set_cons_zero, List.set_cons_succ]
        refine wpAnyH_ready (rs := [3]) (by kernel_rfl) (by simp) ?_
        refine AllReadyH.cons (o := { dst := some 41, op := Op.call { callee := Callee.value (Operand.func 36), args := #[Operand.tmp 40, Operand.func 37], argTypes := #[90, 98] }, type := 79, pos := "foot.go:106", after := #[{ on := 2, ground := Ground.data }], guard := none }) rfl (fun K hK => ?_) ?_
        · skip
          go_simp
          refine (Try.rofGroup ((HL.out.below K0.out).fg.rd) HDQ.out (HQ.out i q HQI.out)).mono ?_
          rintro x V1 ⟨g2, c2, rfl, hg2, hrd⟩
          have HL1 := Lib.hid ((HL.out.below K0.out).next hrd HFIT.out.1)
          have HS1 := Lib.hid HL1.out.fg.here
          have hg2' : s + 1 ≤ V0.heap.size := by have := K0.out.size; have := HSW.out; omega
          have HN2 : Hid ((Value.slice vA i vc).ownBlock ≠ some g2) := Lib.hid (fun e => by have h1 := (HV.out g2 e).2; have h2 := hg2.1; have h3 := K0.out.size; omega)
          have HG2 := Lib.hid (hg2.mono hg2')
          obtain ⟨xs, ho, hx⟩ := HL1.out.own
          rw [HTI.out] at ho
          have OW1 := Lib.hid ho
          have HX := Lib.hid hx
          have HBW1 : Hid (s + 1 ≤ V1.heap.size) := Lib.hid (Go.NR.heap_lt HS1.out)
          have HV1 : Hid (∀ j, (Value.slice vA i vc).ownBlock = some j → s + 1 ≤ j ∧ j < V1.heap.size) := Lib.hid (fun j hj => HL1.out.own.lt j hj)
          clear hrd hg2 hg2' ho hx
          have HCL1 : Hid (V1.cell? ⟨s, 2, none⟩ = some (.slice vA i vc)) := Lib.hid (cell_of_row V1 s 2 _ 48 _ HS1.out)
          refine hK.out _ _ ?_ (fun hHeld => ?_)
          · trivial
          clear hK K
          try simp only [Act.put, List.setIfInBounds_toArray, List.set_cons_zero, List.set_cons_succ]
          refine wpAnyH_ready (rs := [4]) (by kernel_rfl) (by simp) ?_
          refine AllReadyH.cons (o := { dst := some 42, op := Op.buildSlice 46 1 #[(0, Operand.tmp 41)], type := 46, pos := "foot.go:106", after := #[{ on := 3, ground := Ground.data }], guard := none }) rfl (fun K hK => ?_) ?_
          · skip
            go_simp
            have K12 := Lib.hid ((Below.refl V1.heap.size V1).alloc (Nat.le_refl _) (.cells #[.int .i64 q.r, .slice (some ⟨g2, 0, none⟩) 1 c2] 79))
            have C2 := Lib.hid (Go.NR.at_alloc V1 #[.int .i64 q.r, .slice (some ⟨g2, 0, none⟩) 1 c2] 79)
            obtain ⟨gb, hgb⟩ : ∃ gb, V1.heap.size = gb := ⟨_, rfl⟩
            rw [hgb] at C2
            (try rw [hgb])
            obtain ⟨V2, hV2⟩ : ∃ V2, V1.alloc (.cells #[.int .i64 q.r, .slice (some ⟨g2, 0, none⟩) 1 c2] 79) = V2 := ⟨_, rfl⟩
            rw [hV2] at K12 C2
            (try rw [hV2])
            have O2 := Lib.hid (Go.NR.own_below OW1.out K12.out)
            clear hgb hV2
            refine hK.out _ _ ?_ (fun hHeld => ?_)
            · trivial
            clear hK K
            try simp only [Act.put, List.setIfInBounds_toArray, List.set_cons_zero, List.set_cons_succ]
            refine wpAnyH_ready (rs := [5]) (by kernel_rfl) (by simp) ?_
            refine AllReadyH.cons (o := { dst := some 43, op := Op.call { callee := Callee.builtin Builtin.append, args := #[Operand.tmp 39, Operand.tmp 42], argTypes := #[46, 46] }, type := 46, pos := "foot.go:106", after := #[{ on := 1, ground := Ground.data }, { on := 4, ground := Ground.data }, { on := 3, ground := Ground.chain }], guard := none }) rfl (fun K hK => ?_) ?_
            · skip
              refine Go.NR.oper_app Try.E46 (.tmp 39) (.tmp 42) rfl (s + 1) (.slice vA i vc) (i) (xs) rfl O2.out gb 1 1 ([.int .i64 q.r, .slice (some ⟨g2, 0, none⟩) 1 c2]) rfl rfl C2.out (one_p q.r g2 c2) (by omega) (by decide) (by have := K12.out.size; have := HBW1.out; omega) ?_
              intro v3 V3 o3 g3 w3
              obtain ⟨g3', c3', rfl, hg3, hg3', hc3, hc3', _, _⟩ := Go.NR.own_at o3 (by omega)
              have HC3 := Lib.hid (And.intro hg3 (And.intro hc3 hc3'))
              obtain ⟨a1, a2, a3, a4⟩ := Go.NR.app_store (off := 2) K12.out OW1.out o3 g3 w3 HS1.out HNE.out
              have O4 := Lib.hid a1
              have S4 := Lib.hid a2
              have G4 := Lib.hid a3
              have N4 := Lib.hid a4
              have W3 := Lib.hid w3
              have G3 := Lib.hid g3
              have H3s := Lib.hid ((Go.NR.app_keep K12.out g3 s (Go.NR.heap_lt HS1.out) (fun e => HNE.out s e rfl)).trans HS1.out)
              clear a1 a2 a3 a4 o3 g3 w3 hg3 hg3' hc3 hc3'
              refine hK.out _ _ ?_ (fun hHeld => ?_)
              · trivial
              clear hK K
              try simp only [Act.put, List.setIfInBounds_toArray, List.set_cons_zero, List.set_cons_succ]
              refine wpAnyH_take (i := 6) (oi := { dst := some 44, op := Op.fieldAddr 48 (Operand.tmp 5) 2, type := 0, pos := "foot.go:106", after := #[{ on := 0, ground := Ground.phase }, { on := 1, ground := Ground.phase }, { on := 2, ground := Ground.phase }, { on := 3, ground := Ground.phase }, { on := 4, ground := Ground.phase }, { on := 5, ground := Ground.phase }], guard := none }) (v := ?_) rfl (by kernel_rfl) (by kernel_rfl) (by kernel_rfl) (fun _ _ _ h => h) (Or.inl ⟨by rfl, ?_⟩) (by assumption) ?_
              rotate_left
              · (intro w hSw; (try dsimp only at hSw); go_simp; try with_reducible rfl)
              try simp only [Act.put, List.setIfInBounds_toArray, List.set_cons_zero, List.set_cons_succ]
              refine wpAnyH_ready (rs := [7]) (by kernel_rfl) (by simp) ?_
              refine AllReadyH.cons (o := { dst := none, op := Op.store 46 (Operand.tmp 44) (Operand.tmp 43), type := 0, pos := "foot.go:106", after := #[{ on := 6, ground := Ground.data }, { on := 5, ground := Ground.data }, { on := 5, ground := Ground.chain }, { on := 0, ground := Ground.phase }, { on := 1, ground := Ground.phase }, { on := 2, ground := Ground.phase }, { on := 3, ground := Ground.phase }, { on := 4, ground := Ground.phase }, { on := 5, ground := Ground.phase }], guard := none }) rfl (fun K hK => ?_) ?_
              · skip
                have z3 := frozen_of_row V3 s 2 _ 48 H3s.out
                have c3 := cell_of_row V3 s 2 _ 48 _ H3s.out
                simp at c3
                go_simp
                refine hK.out _ _ ?_ (fun hHeld => ?_)
                · trivial
                clear hK K
                try simp only [Act.put, List.setIfInBounds_toArray, List.set_cons_zero, List.set_cons_succ]
                refine wpAnyH_done (by kernel_rfl) ?_ _
                refine NoPanic.normal ?_
                have HL4 : Hid (FL w w0 (V3.setCell ⟨s, 2, none⟩ (.slice (some ⟨g3', 0, none⟩) (i + 1) c3')) b s z A n c l (p + (groupB q).length) (i + 1) e g cv cs (some ⟨g3', 0, none⟩) c3' (gs.take (i + 1))) := Lib.hid (FL.push HL1.out HQI.out HTI.out HX.out HV1.out K12.out G3.out W3.out HG2.out HN2.out O4.out S4.out G4.out)
                have HD4 : Hid (l.drop (p + (groupB q).length) = gsB (gs.drop (i + 1))) := Lib.hid HFIT.out.2
                have HC4 : Hid ((V3.setCell ⟨s, 2, none⟩ (.slice (some ⟨g3', 0, none⟩) (i + 1) c3')).cell? ⟨s, 2, none⟩ = some (.slice (some ⟨g3', 0, none⟩) (i + 1) c3')) := Lib.hid (cell_of_row _ s 2 _ 48 _ HL4.out.fg.here)
                clear O4 S4 G4 N4 W3 G3 H3s z3 c3 hHeld HC3 K12 C2 O2
                go_wp2
                go_step3
                exact ⟨rfl, ⟨i + 1, p + (groupB q).length, b, s, g, cv, some ⟨g3', 0, none⟩, c3', hlt, HL4, HD4, _, _, _, _, _, _, _, _, _, _, _, _, _, _, _, _, _, _, _, _, _, _, _, _, _, _, _, _, _, _, _, _, _, _, _, _, _, _, _, _, _, _, _, _, _, _, _, _, _, _, _, rfl⟩, by
                  show lackG k _ (.pointer (some ⟨s, 0, none⟩)) < lackG k wr (.pointer (some ⟨s, 0, none⟩))
                  rw [lackG_ptr HC4.out, lackG_ptr HCL.out]
                  omega⟩
              exact AllReadyH.nil
            exact AllReadyH.nil
          exact AllReadyH.nil
        exact AllReadyH.nil
      refine AllReadyH.cons (o := { dst := some 41, op := Op.call { callee := Callee.value (Operand.func 36), args := #[Operand.tmp 40, Operand.func 37], argTypes := #[90, 98] }, type := 79, pos := "foot.go:106", after := #[{ on := 2, ground := Ground.data }], guard := none }) rfl (fun K hK => ?_) ?_
      · skip
        go_simp
        refine (Try.rofGroup ((HL.out.below K0.out).fg.rd) HDQ.out (HQ.out i q HQI.out)).mono ?_
        rintro x V1 ⟨g2, c2, rfl, hg2, hrd⟩
        have HL1 := Lib.hid ((HL.out.below K0.out).next hrd HFIT.out.1)
        have HS1 := Lib.hid HL1.out.fg.here
        have hg2' : s + 1 ≤ V0.heap.size := by have := K0.out.size; have := HSW.out; omega
        have HN2 : Hid ((Value.slice vA i vc).ownBlock ≠ some g2) := Lib.hid (fun e => by have h1 := (HV.out g2 e).2; have h2 := hg2.1; have h3 := K0.out.size; omega)
        have HG2 := Lib.hid (hg2.mono hg2')
        obtain ⟨xs, ho, hx⟩ := HL1.out.own
        rw [HTI.out] at ho
        have OW1 := Lib.hid ho
        have HX := Lib.hid hx
        have HBW1 : Hid (s + 1 ≤ V1.heap.size) := Lib.hid (Go.NR.heap_lt HS1.out)
        have HV1 : Hid (∀ j, (Value.slice vA i vc).ownBlock = some j → s + 1 ≤ j ∧ j < V1.heap.size) := Lib.hid (fun j hj => HL1.out.own.lt j hj)
        clear hrd hg2 hg2' ho hx
        have HCL1 : Hid (V1.cell? ⟨s, 2, none⟩ = some (.slice vA i vc)) := Lib.hid (cell_of_row V1 s 2 _ 48 _ HS1.out)
        refine hK.out _ _ ?_ (fun hHeld => ?_)
        · trivial
        clear hK K
        try simp only [Act.put, List.setIfInBounds_toArray, List.set_cons_zero, List.set_cons_succ]
        refine wpAnyH_ready (rs := [1, 4]) (by kernel_rfl) (by simp) ?_
        refine AllReadyH.cons (o := { dst := some 39, op := Op.load 46 (Operand.tmp 38), type := 46, pos := "foot.go:106", after := #[{ on := 0, ground := Ground.data }], guard := none }) rfl (fun K hK => ?_) ?_
        · skip
          have p1 : V1.cell? ⟨s, 2, none⟩ = some (.slice vA i vc) := HCL1.out
          go_simp
          clear p1
          refine hK.out _ _ ?_ (fun hHeld => ?_)
          · trivial
          clear hK K
          try simp only [Act.put, List.setIfInBounds_toArray, List.set_cons_zero, List.set_cons_succ]
          refine wpAnyH_ready (rs := [4]) (by kernel_rfl) (by simp) ?_
          refine AllReadyH.cons (o := { dst := some 42, op := Op.buildSlice 46 1 #[(0, Operand.tmp 41)], type := 46, pos := "foot.go:106", after := #[{ on := 3, ground := Ground.data }], guard := none }) rfl (fun K hK => ?_) ?_
          · skip
            go_simp
            have K12 := Lib.hid ((Below.refl V1.heap.size V1).alloc (Nat.le_refl _) (.cells #[.int .i64 q.r, .slice (some ⟨g2, 0, none⟩) 1 c2] 79))
            have C2 := Lib.hid (Go.NR.at_alloc V1 #[.int .i64 q.r, .slice (some ⟨g2, 0, none⟩) 1 c2] 79)
            obtain ⟨gb, hgb⟩ : ∃ gb, V1.heap.size = gb := ⟨_, rfl⟩
            rw [hgb] at C2
            (try rw [hgb])
            obtain ⟨V2, hV2⟩ : ∃ V2, V1.alloc (.cells #[.int .i64 q.r, .slice (some ⟨g2, 0, none⟩) 1 c2] 79) = V2 := ⟨_, rfl⟩
            rw [hV2] at K12 C2
            (try rw [hV2])
            have O2 := Lib.hid (Go.NR.own_below OW1.out K12.out)
            clear hgb hV2
            refine hK.out _ _ ?_ (fun hHeld => ?_)
            · trivial
            clear hK K
            try simp only [Act.put, List.setIfInBounds_toArray, List.set_cons_zero, List.set_cons_succ]
            refine wpAnyH_ready (rs := [5]) (by kernel_rfl) (by simp) ?_
            refine AllReadyH.cons (o := { dst := some 43, op := Op.call { callee := Callee.builtin Builtin.append, args := #[Operand.tmp 39, Operand.tmp 42], argTypes := #[46, 46] }, type := 46, pos := "foot.go:106", after := #[{ on := 1, ground := Ground.data }, { on := 4, ground := Ground.data }, { on := 3, ground := Ground.chain }], guard := none }) rfl (fun K hK => ?_) ?_
            · skip
              refine Go.NR.oper_app Try.E46 (.tmp 39) (.tmp 42) rfl (s + 1) (.slice vA i vc) (i) (xs) rfl O2.out gb 1 1 ([.int .i64 q.r, .slice (some ⟨g2, 0, none⟩) 1 c2]) rfl rfl C2.out (one_p q.r g2 c2) (by omega) (by decide) (by have := K12.out.size; have := HBW1.out; omega) ?_
              intro v3 V3 o3 g3 w3
              obtain ⟨g3', c3', rfl, hg3, hg3', hc3, hc3', _, _⟩ := Go.NR.own_at o3 (by omega)
              have HC3 := Lib.hid (And.intro hg3 (And.intro hc3 hc3'))
              obtain ⟨a1, a2, a3, a4⟩ := Go.NR.app_store (off := 2) K12.out OW1.out o3 g3 w3 HS1.out HNE.out
              have O4 := Lib.hid a1
              have S4 := Lib.hid a2
              have G4 := Lib.hid a3
              have N4 := Lib.hid a4
              have W3 := Lib.hid w3
              have G3 := Lib.hid g3
              have H3s := Lib.hid ((Go.NR.app_keep K12.out g3 s (Go.NR.heap_lt HS1.out) (fun e => HNE.out s e rfl)).trans HS1.out)
              clear a1 a2 a3 a4 o3 g3 w3 hg3 hg3' hc3 hc3'
              refine hK.out _ _ ?_ (fun hHeld => ?_)
              · trivial
              clear hK K
              try simp only [Act.put, List.setIfInBounds_toArray, List.set_cons_zero, List.set_cons_succ]
              refine wpAnyH_take (i := 6) (oi := { dst := some 44, op := Op.fieldAddr 48 (Operand.tmp 5) 2, type := 0, pos := "foot.go:106", after := #[{ on := 0, ground := Ground.phase }, { on := 1, ground := Ground.phase }, { on := 2, ground := Ground.phase }, { on := 3, ground := Ground.phase }, { on := 4, ground := Ground.phase }, { on := 5, ground := Ground.phase }], guard := none }) (v := ?_) rfl (by kernel_rfl) (by kernel_rfl) (by kernel_rfl) (fun _ _ _ h => h) (Or.inl ⟨by rfl, ?_⟩) (by assumption) ?_
              rotate_left
              · (intro w hSw; (try dsimp only at hSw); go_simp; try with_reducible rfl)
              try simp only [Act.put, List.setIfInBounds_toArray, List.set_cons_zero, List.set_cons_succ]
              refine wpAnyH_ready (rs := [7]) (by kernel_rfl) (by simp) ?_
              refine AllReadyH.cons (o := { dst := none, op := Op.store 46 (Operand.tmp 44) (Operand.tmp 43), type := 0, pos := "foot.go:106", after := #[{ on := 6, ground := Ground.data }, { on := 5, ground := Ground.data }, { on := 5, ground := Ground.chain }, { on := 0, ground := Ground.phase }, { on := 1, ground := Ground.phase }, { on := 2, ground := Ground.phase }, { on := 3, ground := Ground.phase }, { on := 4, ground := Ground.phase }, { on := 5, ground := Ground.phase }], guard := none }) rfl (fun K hK => ?_) ?_
              · skip
                have z3 := frozen_of_row V3 s 2 _ 48 H3s.out
                have c3 := cell_of_row V3 s 2 _ 48 _ H3s.out
                simp at c3
                go_simp
                refine hK.out _ _ ?_ (fun hHeld => ?_)
                · trivial
                clear hK K
                try simp only [Act.put, List.setIfInBounds_toArray, List.set_cons_zero, List.set_cons_succ]
                refine wpAnyH_done (by kernel_rfl) ?_ _
                refine NoPanic.normal ?_
                have HL4 : Hid (FL w w0 (V3.setCell ⟨s, 2, none⟩ (.slice (some ⟨g3', 0, none⟩) (i + 1) c3')) b s z A n c l (p + (groupB q).length) (i + 1) e g cv cs (some ⟨g3', 0, none⟩) c3' (gs.take (i + 1))) := Lib.hid (FL.push HL1.out HQI.out HTI.out HX.out HV1.out K12.out G3.out W3.out HG2.out HN2.out O4.out S4.out G4.out)
                have HD4 : Hid (l.drop (p + (groupB q).length) = gsB (gs.drop (i + 1))) := Lib.hid HFIT.out.2
                have HC4 : Hid ((V3.setCell ⟨s, 2, none⟩ (.slice (some ⟨g3', 0, none⟩) (i + 1) c3')).cell? ⟨s, 2, none⟩ = some (.slice (some ⟨g3', 0, none⟩) (i + 1) c3')) := Lib.hid (cell_of_row _ s 2 _ 48 _ HL4.out.fg.here)
                clear O4 S4 G4 N4 W3 G3 H3s z3 c3 hHeld HC3 K12 C2 O2
                go_wp2
                go_step3
                exact ⟨rfl, ⟨i + 1, p + (groupB q).length, b, s, g, cv, some ⟨g3', 0, none⟩, c3', hlt, HL4, HD4, _, _, _, _, _, _, _, _, _, _, _, _, _, _, _, _, _, _, _, _, _, _, _, _, _, _, _, _, _, _, _, _, _, _, _, _, _, _, _, _, _, _, _, _, _, _, _, _, _, _, _, rfl⟩, by
                  show lackG k _ (.pointer (some ⟨s, 0, none⟩)) < lackG k wr (.pointer (some ⟨s, 0, none⟩))
                  rw [lackG_ptr HC4.out, lackG_ptr HCL.out]
                  omega⟩
              exact AllReadyH.nil
            exact AllReadyH.nil
          exact AllReadyH.nil
        refine AllReadyH.cons (o := { dst := some 42, op := Op.buildSlice 46 1 #[(0, Operand.tmp 41)], type := 46, pos := "foot.go:106", after := #[{ on := 3, ground := Ground.data }], guard := none }) rfl (fun K hK => ?_) ?_
        · skip
          go_simp
          have K12 := Lib.hid ((Below.refl V1.heap.size V1).alloc (Nat.le_refl _) (.cells #[.int .i64 q.r, .slice (some ⟨g2, 0, none⟩) 1 c2] 79))
          have C2 := Lib.hid (Go.NR.at_alloc V1 #[.int .i64 q.r, .slice (some ⟨g2, 0, none⟩) 1 c2] 79)
          obtain ⟨gb, hgb⟩ : ∃ gb, V1.heap.size = gb := ⟨_, rfl⟩
          rw [hgb] at C2
          (try rw [hgb])
          obtain ⟨V2, hV2⟩ : ∃ V2, V1.alloc (.cells #[.int .i64 q.r, .slice (some ⟨g2, 0, none⟩) 1 c2] 79) = V2 := ⟨_, rfl⟩
          rw [hV2] at K12 C2
          (try rw [hV2])
          have O2 := Lib.hid (Go.NR.own_below OW1.out K12.out)
          clear hgb hV2
          refine hK.out _ _ ?_ (fun hHeld => ?_)
          · trivial
          clear hK K
          try simp only [Act.put, List.setIfInBounds_toArray, List.set_cons_zero, List.set_cons_succ]
          refine wpAnyH_ready (rs := [1]) (by kernel_rfl) (by simp) ?_
          refine AllReadyH.cons (o := { dst := some 39, op := Op.load 46 (Operand.tmp 38), type := 46, pos := "foot.go:106", after := #[{ on := 0, ground := Ground.data }], guard := none }) rfl (fun K hK => ?_) ?_
          · skip
            have p1 : V2.cell? ⟨s, 2, none⟩ = some (.slice vA i vc) := cellW HCL1.out K12.out
            go_simp
            clear p1
            refine hK.out _ _ ?_ (fun hHeld => ?_)
            · trivial
            clear hK K
            try simp only [Act.put, List.setIfInBounds_toArray, List.set_cons_zero, List.set_cons_succ]
            refine wpAnyH_ready (rs := [5]) (by kernel_rfl) (by simp) ?_
            refine AllReadyH.cons (o := { dst := some 43, op := Op.call { callee := Callee.builtin Builtin.append, args := #[Operand.tmp 39, Operand.tmp 42], argTypes := #[46, 46] }, type := 46, pos := "foot.go:106", after := #[{ on := 1, ground := Ground.data }, { on := 4, ground := Ground.data }, { on := 3, ground := Ground.chain }], guard := none }) rfl (fun K hK => ?_) ?_
            · skip
              refine Go.NR.oper_app Try.E46 (.tmp 39) (.tmp 42) rfl (s + 1) (.slice vA i vc) (i) (xs) rfl O2.out gb 1 1 ([.int .i64 q.r, .slice (some ⟨g2, 0, none⟩) 1 c2]) rfl rfl C2.out (one_p q.r g2 c2) (by omega) (by decide) (by have := K12.out.size; have := HBW1.out; omega) ?_
              intro v3 V3 o3 g3 w3
              obtain ⟨g3', c3', rfl, hg3, hg3', hc3, hc3', _, _⟩ := Go.NR.own_at o3 (by omega)
              have HC3 := Lib.hid (And.intro hg3 (And.intro hc3 hc3'))
              obtain ⟨a1, a2, a3, a4⟩ := Go.NR.app_store (off := 2) K12.out OW1.out o3 g3 w3 HS1.out HNE.out
              have O4 := Lib.hid a1
              have S4 := Lib.hid a2
              have G4 := Lib.hid a3
              have N4 := Lib.hid a4
              have W3 := Lib.hid w3
              have G3 := Lib.hid g3
              have H3s := Lib.hid ((Go.NR.app_keep K12.out g3 s (Go.NR.heap_lt HS1.out) (fun e => HNE.out s e rfl)).trans HS1.out)
              clear a1 a2 a3 a4 o3 g3 w3 hg3 hg3' hc3 hc3'
              refine hK.out _ _ ?_ (fun hHeld => ?_)
              · trivial
              clear hK K
              try simp only [Act.put, List.setIfInBounds_toArray, List.set_cons_zero, List.set_cons_succ]
              refine wpAnyH_take (i := 6) (oi := { dst := some 44, op := Op.fieldAddr 48 (Operand.tmp 5) 2, type := 0, pos := "foot.go:106", after := #[{ on := 0, ground := Ground.phase }, { on := 1, ground := Ground.phase }, { on := 2, ground := Ground.phase }, { on := 3, ground := Ground.phase }, { on := 4, ground := Ground.phase }, { on := 5, ground := Ground.phase }], guard := none }) (v := ?_) rfl (by kernel_rfl) (by kernel_rfl) (by kernel_rfl) (fun _ _ _ h => h) (Or.inl ⟨by rfl, ?_⟩) (by assumption) ?_
              rotate_left
              · (intro w hSw; (try dsimp only at hSw); go_simp; try with_reducible rfl)
              try simp only [Act.put, List.setIfInBounds_toArray, List.set_cons_zero, List.set_cons_succ]
              refine wpAnyH_ready (rs := [7]) (by kernel_rfl) (by simp) ?_
              refine AllReadyH.cons (o := { dst := none, op := Op.store 46 (Operand.tmp 44) (Operand.tmp 43), type := 0, pos := "foot.go:106", after := #[{ on := 6, ground := Ground.data }, { on := 5, ground := Ground.data }, { on := 5, ground := Ground.chain }, { on := 0, ground := Ground.phase }, { on := 1, ground := Ground.phase }, { on := 2, ground := Ground.phase }, { on := 3, ground := Ground.phase }, { on := 4, ground := Ground.phase }, { on := 5, ground := Ground.phase }], guard := none }) rfl (fun K hK => ?_) ?_
              · skip
                have z3 := frozen_of_row V3 s 2 _ 48 H3s.out
                have c3 := cell_of_row V3 s 2 _ 48 _ H3s.out
                simp at c3
                go_simp
                refine hK.out _ _ ?_ (fun hHeld => ?_)
                · trivial
                clear hK K
                try simp only [Act.put, List.setIfInBounds_toArray, List.set_cons_zero, List.set_cons_succ]
                refine wpAnyH_done (by kernel_rfl) ?_ _
                refine NoPanic.normal ?_
                have HL4 : Hid (FL w w0 (V3.setCell ⟨s, 2, none⟩ (.slice (some ⟨g3', 0, none⟩) (i + 1) c3')) b s z A n c l (p + (groupB q).length) (i + 1) e g cv cs (some ⟨g3', 0, none⟩) c3' (gs.take (i + 1))) := Lib.hid (FL.push HL1.out HQI.out HTI.out HX.out HV1.out K12.out G3.out W3.out HG2.out HN2.out O4.out S4.out G4.out)
                have HD4 : Hid (l.drop (p + (groupB q).length) = gsB (gs.drop (i + 1))) := Lib.hid HFIT.out.2
                have HC4 : Hid ((V3.setCell ⟨s, 2, none⟩ (.slice (some ⟨g3', 0, none⟩) (i + 1) c3')).cell? ⟨s, 2, none⟩ = some (.slice (some ⟨g3', 0, none⟩) (i + 1) c3')) := Lib.hid (cell_of_row _ s 2 _ 48 _ HL4.out.fg.here)
                clear O4 S4 G4 N4 W3 G3 H3s z3 c3 hHeld HC3 K12 C2 O2
                go_wp2
                go_step3
                exact ⟨rfl, ⟨i + 1, p + (groupB q).length, b, s, g, cv, some ⟨g3', 0, none⟩, c3', hlt, HL4, HD4, _, _, _, _, _, _, _, _, _, _, _, _, _, _, _, _, _, _, _, _, _, _, _, _, _, _, _, _, _, _, _, _, _, _, _, _, _, _, _, _, _, _, _, _, _, _, _, _, _, _, _, rfl⟩, by
                  show lackG k _ (.pointer (some ⟨s, 0, none⟩)) < lackG k wr (.pointer (some ⟨s, 0, none⟩))
                  rw [lackG_ptr HC4.out, lackG_ptr HCL.out]
                  omega⟩
              exact AllReadyH.nil
            exact AllReadyH.nil
          exact AllReadyH.nil
        exact AllReadyH.nil
      exact AllReadyH.nil
    · obtain rfl : i = k := by omega
      have d1 : decide ((i : Int) < (i : Int)) = false := by simp
      have d1' : decide (i < i) = false := by simp
      have s1 : IntKind.u64.wrap (i : Int) = (i : Int) := by rw [IntKind.wrap_u64]; omega
      have HPN : Hid (p = n) := Lib.hid (by
        have h := HDR.out
        have e0 : gs.drop i = [] := List.drop_eq_nil_of_le (by rw [HKK.out]; exact Nat.le_refl _)
        rw [e0] at h
        have h2 : (l.drop p).length = 0 := by rw [h]; rfl
        rw [List.length_drop, HLL.out] at h2
        have := HL.out.fg.rd.hp
        omega)
      go_wp2_with fail
      refine (Try.rerr HL.out.fg.rd.rb).mono ?_
      rintro x w1 ⟨rfl, hw1⟩
      rw [hw1]
      clear hw1 w1
      go_wp2_with fail
      refine (Try.leftI HL.out.fg.rd 0 (by rw [if_pos rfl, HPN.out]; omega)).mono ?_
      rintro x w1 ⟨rfl, h1⟩
      have HL1 := Lib.hid (HL.out.next h1 HL.out.fg.rd.hp)
      clear h1 HL c2 s1 d1 d1'
      go_wp2_with fail
      refine (Try.rneed HL1.out.fg.rd.rb true 4 0 (by simp)).mono ?_
      rintro x w2 ⟨rfl, h2⟩
      have HL2 := Lib.hid (HL1.out.next h2 HL1.out.fg.rd.hp)
      clear h2 HL1
      go_wp2_with fail
      refine (Try.rerr HL2.out.fg.rd.rb).mono ?_
      rintro x w3 ⟨rfl, hw3⟩
      rw [hw3]
      clear hw3 w3
      have HZ2 := Lib.hid HL2.out.fg.zh
      obtain ⟨C, hC⟩ : ∃ C : Array Value, #[.int .u64 e, .slice (some ⟨g, 0, none⟩) cs.length cv, .slice vA i vc] = C := ⟨_, rfl⟩
      have HS : Hid (some 3 = some C.size) := Lib.hid (by rw [← hC]; rfl)
      have HONE : Hid (∀ u ∈ C.toList, u.oneCell' = true) := Lib.hid (by
        rw [← hC]
        exact oneFG e (some ⟨g, 0, none⟩) cs.length cv vA i vc)
      have HNEW : Hid ((foot0.toList.take 0 ++ C.toList ++ foot0.toList.drop (0 + C.size)).toArray = C) := Lib.hid (by rw [← hC]; rfl)
      have HSZ : Hid (0 + C.size ≤ foot0.size) := Lib.hid (by rw [← hC]; exact Nat.le_refl 3)
      have hh2 := HL2.out.fg.here
      rw [hC] at hh2
      have HH2 := Lib.hid hh2
      have HC := Lib.hid hC
      clear hC hh2
      go_wp2_with (first
        | (refine wpList_load_row w2 rfl 48 (.tmp 5) rfl s 48 C _ rfl HH2.out (size48.trans HS.out) st48 ?_)
        | (refine wpList_store_at w2 rfl 48 (.tmp 2) (.tmp 56) rfl z 48 0 C foot0 C rfl rfl HZ2.out HSZ.out HNEW.out (size48.trans HS.out) HONE.out ?_))
      simp only [Exit.jump]
      refine bodyPost_ret (results_cell_tmp rfl _ _ z 48 C _ rfl (setRow_heap' _ z _ _ 48 HZ2.out) (size48.trans HS.out) st48) rfl ?_
      have hl := HL2.out
      have hzg : z ≠ g := by have h1 := hl.col.2.2.1; have h2 := hl.fg.zl; omega
      obtain ⟨A', c', eA, hgr⟩ := hl.own.gr
      rw [List.take_of_length_le (by rw [HKK.out]; exact Nat.le_refl _)] at hgr eA
      rw [HKK.out] at eA
      cases eA
      have hw0 := hl.fg.rd.bel.size
      have hs0 := hl.fg.s0
      have hz0 := hl.fg.z0
      have hzl := hl.fg.zl
      have hlt0 := hl.own.lt
      refine ⟨g, cv, vA, vc, by rw [← HC.out, HKK.out]; rfl, hl.cr.eq (Go.NR.setRow_else _ z _ g hzg.symm), (hgr.set (s := z) (by omega) (fun b' e' => by have h9 := (hlt0 b' (by rw [e']; rfl)).1; omega)).mono (by omega), Below.setRow hl.fg.be hz0 _⟩
end Go.Proofs.Ytfblhcphbcghpaa
end

section
namespace Go.Proofs.Ytfblhcphbcghpaa
open Go.RowKit
open Go.NR (At)
set_option maxRecDepth 100000
def ovl (a n b m : Nat) : Prop := a < b + m ∧ b < a + n
instance (a n b m : Nat) : Decidable (ovl a n b m) := by unfold ovl; infer_instance
set_option maxHeartbeats 4000000 in
theorem Try.overlap (w : World) (a n b m : Nat) (hn : 1 ≤ n) (hm : 1 ≤ m) (ha : a ≤ 5000) (hb : b ≤ 5000) (hn2 : n ≤ 5000) (hm2 : m ≤ 5000) : Calls Try.prog 60 #[.agg #[.int .i64 a, .int .i64 n], .agg #[.int .i64 b, .int .i64 m]] w fun x w' => x = .returned (.bool (decide (ovl a n b m))) ∧ Below w.heap.size w w' := by
  have d1 : decide ((n : Int) < 1) = false := decide_eq_false (by omega)
  have d1' : decide (n < 1) = false := decide_eq_false (by omega)
  have d2 : decide ((m : Int) < 1) = false := decide_eq_false (by omega)
  have d2' : decide (m < 1) = false := decide_eq_false (by omega)
  have hb1 := ((Below.refl _ w).alloc (Nat.le_refl _) (.cells #[.int .i64 a, .int .i64 n] 60)).alloc (by simp) (.cells #[.int .i64 b, .int .i64 m] 60)
  have HB1 := Lib.hid hb1
  clear hb1
  obtain ⟨R, hR⟩ : ∃ R, decide (ovl a n b m) = R := ⟨_, rfl⟩
  rw [hR]
  have HR := Lib.hid hR
  clear hR
  by_cases hab : b < a
  · have d3 : decide ((b : Int) < (a : Int)) = true := decide_eq_true (by omega)
    have d3' : decide (b < a) = true := decide_eq_true hab
    have s1 : IntKind.u64.wrap ((a : Int) - (b : Int)) = ((a - b : Nat) : Int) := by rw [IntKind.wrap_u64]; omega
    have HAB := Lib.hid hab
    clear hab
    go_enter Try.func60, Try.ntmps60
    go_wp2_with fail
    go_ret
    refine ⟨?_, ?_⟩
    · rw [← HR.out]
      have h := HAB.out
      exact congrArg (fun z => Ending.returned (.bool z)) (decide_eq_decide.2 (by unfold ovl; omega))
    · exact ((Below.refl _ w).alloc (Nat.le_refl _) _).alloc (by simp) _
  · have d3 : decide ((b : Int) < (a : Int)) = false := decide_eq_false (by omega)
    have d3' : decide (b < a) = false := decide_eq_false hab
    have s1 : IntKind.u64.wrap ((b : Int) - (a : Int)) = ((b - a : Nat) : Int) := by rw [IntKind.wrap_u64]; omega
    have HAB := Lib.hid hab
    clear hab
    go_enter Try.func60, Try.ntmps60
    go_wp2_with fail
    go_ret
    refine ⟨?_, ?_⟩
    · rw [← HR.out]
      have h := HAB.out
      exact congrArg (fun z => Ending.returned (.bool z)) (decide_eq_decide.2 (by unfold ovl; omega))
    · exact ((Below.refl _ w).alloc (Nat.le_refl _) _).alloc (by simp) _
theorem Try.extBad (w : World) (a n k : Nat) (h1 : 1 ≤ n) (h2 : 2 ≤ a) (h3 : a ≤ k) (h4 : k < a + n) (hk : k ≤ 1024) (hn : n ≤ 5000) : Calls Try.prog 77 #[.agg #[.int .i64 a, .int .i64 n], .int .i64 k] w fun x w' => x = .returned (.int .i64 1) ∧ Below w.heap.size w w' := by
  have hb := Lib.hid ((Below.refl _ w).alloc (Nat.le_refl _) (.cells #[.int .i64 a, .int .i64 n] 60))
  have d1 : decide ((n : Int) < 1) = false := decide_eq_false (by omega)
  have d2 : decide ((a : Int) < 2) = false := decide_eq_false (by omega)
  have d3 : decide ((k : Int) < (a : Int)) = false := decide_eq_false (by omega)
  have d4 : decide ((k : Int) - (a : Int) < (n : Int)) = true := decide_eq_true (by omega)
  have d5 : min (k : Int) 1024 = k := by omega
  go_enter Try.func77, Try.ntmps77
  go_wp2_with fail
  go_ret
  exact ⟨rfl, hb.out⟩
def exR (q : GQ) (k : Nat) : Int := if q.a + q.n ≤ k then 0 else 1
structure GQ.near (q : GQ) (k : Nat) : Prop where
  ok : q.ok
  n1 : 1 ≤ q.n
  a2 : 2 ≤ q.a
  ak : q.a ≤ k
  k : k ≤ 1024
theorem Try.extR (w : World) (q : GQ) (k : Nat) (h : q.near k) : Calls Try.prog 77 #[.agg #[.int .i64 q.a, .int .i64 q.n], .int .i64 k] w fun x w' => x = .returned (.int .i64 (exR q k)) ∧ Below w.heap.size w w' := by
  unfold exR
  by_cases hk : q.a + q.n ≤ k
  · rw [if_pos hk]
    exact Try.extCheck w q.a q.n k h.n1 h.a2 hk h.k
  · rw [if_neg hk]
    exact Try.extBad w q.a q.n k h.n1 h.a2 h.ak (by omega) h.k (by have := h.ok.n; omega)
end Go.Proofs.Ytfblhcphbcghpaa
end
