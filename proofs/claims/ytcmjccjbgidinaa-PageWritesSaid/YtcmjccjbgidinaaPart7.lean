/-
  Texts of a proof over the translated program: proved evaluators and walks, part 7 of 7.
-/
import Derived.Test.YtcmjccjbgidinaaPart6
import Derived.Below
import Derived.Deep.CutBlock
import Derived.Deep.Grids
import Derived.Deep.RegionHeld3
import Derived.Deep.RegionLaw
import Derived.Deep.RegionLawGrows
import Derived.Deep.RegionWith
import Derived.Deep.Slices
import Derived.Great.BuildSlice
import Derived.Handy
import Derived.IntWalk
import Derived.KernelRfl
import Derived.Laws.BytesArg
import Derived.Laws.CopyOwn
import Derived.Laws.IdiomStrings
import Derived.Laws.MakeOwn
import Derived.Lib.Hide
import Derived.Lib.SlBytesRow
import Derived.Lib.SmallJoins
import Derived.LoopTactic
import Derived.OpenShut
import Derived.Orders
import Derived.Outline
import Derived.OwnWalk
import Derived.ProofKit
import Derived.Scope
import Derived.ScopeJumps
import Derived.Test.YtcmjccjbgidinaaChecked
import Derived.Test.YtcmjccjbgidinaaProg
import Derived.WalkKit
import Derived.WalkSpells
set_option linter.unusedVariables false
set_option linter.unusedSimpArgs false
set_option linter.unusedSectionVars false
set_option linter.unnecessarySimpa false
section
namespace Go.Proofs
open Go.RowKit
set_option maxRecDepth 100000
theorem laid_told {k : Nat} {i : Int} {l L : List UInt8} (hL : L.length = 64 * k) (h8 : l.length ≤ 8192) (h : pcc k i l = 0) :
    prc k i (wpn l) (dset (fun _ => true) 0 (pqq k i l) L) = 0 ∧ prl k i (wpn l) (dset (fun _ => true) 0 (pqq k i l) L) = l := by
  unfold pcc at h
  by_cases hf : 0 ≤ i ∧ i + wpn l ≤ k
  · unfold pqq
    rw [if_pos hf]
    obtain ⟨x, rfl⟩ : ∃ x : Nat, i = x := ⟨i.toNat, by omega⟩
    have hp := (wpn_pos h8).1
    have la := wpg_len h8
    have e1 := dset_pgq [] x (wpg l) L k hL (wpn l) (by omega) (by omega)
    rw [List.take_of_length_le (by omega)] at e1
    have e2 := prc_in (T := dset (fun _ => true) 0 (pgq [] x (wpg l) (wpn l)) L) hp (show x + wpn l ≤ k by omega)
    have e3 : cat (dset (fun _ => true) 0 (pgq [] x (wpg l) (wpn l)) L) x (wpn l) = wpg l := by
      rw [e1]
      exact cat_spl hL la (by omega)
    rw [e3, (unc_wpg h8).1, (unc_wpg h8).2] at e2
    simpa using e2
  · rw [if_neg hf] at h
    exact absurd h (by decide)
theorem pcc_or (k : Nat) (i : Int) (l : List UInt8) : pcc k i l = 0 ∨ pcc k i l = 9 := by
  unfold pcc
  split
  · exact .inl rfl
  · exact .inr rfl
set_option maxHeartbeats 4000000 in
theorem Try.writes (w : World) (A : Option Addr) (n c : Nat) (l : List UInt8) (hl : l.length = n) (hn : n ≤ c) (hc : c ≤ maxLen) (hX : DataIn w A n l) (s : Nat) (i f m0 : Int) (h6 : n ≤ 600) :
    Calls Try.prog 8 #[.slice A n c, .int .u8 s, .int .i64 i, .int .i64 f, .int .i64 m0] w (YesO w) := by
  have HX := Lib.hid hX
  have HL := Lib.hid hl
  have d1 : decide (600 < (n : Int)) = false := by simp; omega
  have d1' : decide (600 < n) = false := by simp; omega
  have x1 : (s : Int) % 20 = ((s % 20 : Nat) : Int) := by omega
  obtain ⟨q, hq⟩ : ∃ q, s % 20 = q := ⟨_, rfl⟩
  obtain ⟨k, hk⟩ : ∃ k, 4 + q = k := ⟨_, rfl⟩
  have u1 : (4 : Int) + (q : Int) = (k : Int) := by omega
  have hk4 : 4 ≤ k := by omega
  have hk24 : k ≤ 24 := by omega
  have HK4 := Lib.hid hk4
  have HK24 := Lib.hid hk24
  have H8 := Lib.hid (show l.length ≤ 8192 by omega)
  rw [hq] at x1
  clear hX hl hq hk hk4 hk24
  go_enter Try.func8, Try.ntmps8
  go_wp2_with fail
  refine (Try.known13 _).mono ?_
  rintro e w1 ⟨rfl, hb1⟩
  have HB := Lib.hid hb1
  clear hb1
  go_wp2_with fail
  have hp := Try.new_good k HK4.out (by have := HK24.out; omega) w1
  with_reducible refine hp.mono ?_
  clear hp x1 u1
  rintro e w2 ⟨v, rfl, d, F, rfl, hd', hb2, hF⟩
  obtain ⟨L, hL⟩ : ∃ L, List.replicate (64 * k) (0 : UInt8) = L := ⟨_, rfl⟩
  have HLL : Hid (L.length = 64 * k) := Lib.hid (by rw [← hL]; exact List.length_replicate)
  rw [hL] at hd'
  have HD := Lib.hid hd'
  have HB2 := Lib.hid ((HB.out).trans (hb2.mono (HB.out).size))
  have HF : Hid (∀ b, F b → w.heap.size ≤ b) := Lib.hid (fun b q => Nat.le_trans (HB.out).size (hF b q))
  clear hd' hb2 hF HB
  go_wp2_with fail
  have hp := Try.rnew_good k HK4.out (by have := HK24.out; omega) w2
  with_reducible refine hp.mono ?_
  clear hp
  rintro e w3 ⟨v, rfl, m, G, rfl, hr', hb3, hG⟩
  rw [hL] at hr'
  have HR := Lib.hid hr'
  have HD3 := Lib.hid ((HD.out).stay (Chg.below hb3 (fun _ => False)) (fun _ _ => id))
  have HB3 := Lib.hid ((HB2.out).trans (hb3.mono (HB2.out).size))
  have HG : Hid (∀ b, G b → w.heap.size ≤ b) := Lib.hid (fun b q => Nat.le_trans (HB2.out).size (hG b q))
  have HDJ : Hid (Disj F G) := Lib.hid (fun b q1 q2 => by
    obtain ⟨lb, cl, tb, ct, vw, ds, hh⟩ := HD.out
    have := hh.lt b q1
    have := hG b q2
    omega)
  clear hr' hb3 hG HD HB2 hL
  go_wp2_with fail
  have hd5 := HD3.out
  have hx5 := (HX.out).bel HB3.out
  have hp := Try.pw_any hd5 (by have := HK24.out; omega) i A n c l HL.out hn hc (by omega) hx5
  with_reducible refine hp.mono ?_
  clear hp hd5 hx5
  rintro e w4 ⟨rfl, F4, z1, z2⟩
  obtain ⟨q1, q2⟩ := upd_bel HB3.out z2 HF.out
  obtain ⟨r1, r2⟩ := (HR.out).other z2 HDJ.out
  have HD4 := Lib.hid z1
  have HR4 := Lib.hid r1
  have HB4 := Lib.hid q1
  have HF4 := Lib.hid q2
  have HDJ4 := Lib.hid r2
  clear z1 z2 q1 q2 r1 r2 HR HD3 HB3 HF HDJ
  go_wp2_with fail
  have hr5 := HR4.out
  have hx5 := (HX.out).bel HB4.out
  have hp := Try.rpw_any hr5 (by have := HK24.out; omega) i A n c l HL.out hn hc (by omega) hx5
  with_reducible refine hp.mono ?_
  clear hp hr5 hx5
  rintro e w5 ⟨rfl, G5, z1, z2⟩
  have hdj5 : Disj G F4 := fun b p1 p2 => (HDJ4.out) b p2 p1
  obtain ⟨q1, q2⟩ := upd_bel HB4.out z2 HG.out
  obtain ⟨r1, r2⟩ := (HD4.out).other z2 hdj5
  have HD5 := Lib.hid r1
  have HR5 := Lib.hid z1
  have HB5 := Lib.hid q1
  clear z1 z2 q1 q2 r1 r2 hdj5 HR4 HD4 HB4 HF4 HDJ4 HG
  have HT8 := Lib.hid (fun h => laid_told (i := i) (L := L) HLL.out H8.out h)
  have HPC := Lib.hid (pcc_or k i l)
  have HQL := Lib.hid (pqq_len k i l H8.out)
  generalize pqq k i l = Q at HD5 HR5 HT8 HQL
  obtain ⟨T, hT⟩ : ∃ T, dset (fun _ => true) 0 Q L = T := ⟨_, rfl⟩
  rw [hT] at HD5 HT8
  have HT := Lib.hid hT
  clear hT
  generalize pcc k i l = pc at HT8 HPC ⊢
  go_upto_region 12 with fail
  obtain ⟨lb, cl, tb, ct, vw, ds, hdw⟩ := HD5.out
  obtain ⟨db, dc, Aw, wc, es, hrw⟩ := HR5.out
  obtain ⟨Ad, wd, rfl⟩ := own_slice hdw.ow
  have HDW := Lib.hid hdw
  have HRW := Lib.hid hrw
  have hml := hrw.lt m hrw.fm
  have hdl := hdw.lt d hdw.fd
  have hdc2 : w5.cell? ⟨d, 2, none⟩ = some (.slice Ad Q.length wd) := hdw.c2
  have hrc1 : w5.cell? ⟨m, 1, none⟩ = some (.slice Aw Q.length wc) := hrw.c1
  clear hdw hrw
  refine wp_region_noPanic ?_
  refine wp_region_held_drew (S := (fun W => W.cell? ⟨m, 1, none⟩ = some (.slice Aw Q.length wc))) (by kernel_rfl) ?_ (fun hHeld => ?_)
  · exact hrc1
  refine wpAnyH_take (i := 0) (oi := { dst := some 53, op := Op.move (Operand.tmp 16), type := 25, pos := "law.go:88", after := #[], guard := none }) (v := ?_) rfl (by kernel_rfl) (by kernel_rfl) (by kernel_rfl) (fun _ _ _ h => h) (Or.inl ⟨by rfl, ?_⟩) (by assumption) ?_
  rotate_left
  · (intro w hSw; (try dsimp only at hSw); go_simp; try with_reducible rfl)
  try simp only [Act.put, List.setIfInBounds_toArray, List.set_cons_zero, List.set_cons_succ]
  refine wpAnyH_take (i := 1) (oi := { dst := some 54, op := Op.move (Operand.tmp 17), type := 3, pos := "law.go:88", after := #[], guard := none }) (v := ?_) rfl (by kernel_rfl) (by kernel_rfl) (by kernel_rfl) (fun _ _ _ h => h) (Or.inl ⟨by rfl, ?_⟩) (by assumption) ?_
  rotate_left
  · (intro w hSw; (try dsimp only at hSw); go_simp; try with_reducible rfl)
  try simp only [Act.put, List.setIfInBounds_toArray, List.set_cons_zero, List.set_cons_succ]
  refine wpAnyH_take (i := 2) (oi := { dst := some 55, op := Op.binOp BinOp.neq 3 (Operand.tmp 53) (Operand.tmp 54) 3, type := 4, pos := "law.go:88", after := #[{ on := 0, ground := Ground.data }, { on := 1, ground := Ground.data }], guard := none }) (v := ?_) rfl (by kernel_rfl) (by kernel_rfl) (by kernel_rfl) (fun _ _ _ h => h) (Or.inl ⟨by rfl, ?_⟩) (by assumption) ?_
  rotate_left
  · (intro w hSw; (try dsimp only at hSw); go_simp; try with_reducible rfl)
  try simp only [Act.put, List.setIfInBounds_toArray, List.set_cons_zero, List.set_cons_succ]
  refine wpAnyH_take (i := 3) (oi := { dst := some 56, op := Op.move (Operand.tmp 55), type := 4, pos := "law.go:88", after := #[{ on := 2, ground := Ground.data }], guard := none }) (v := ?_) rfl (by kernel_rfl) (by kernel_rfl) (by kernel_rfl) (fun _ _ _ h => h) (Or.inl ⟨by rfl, ?_⟩) (by assumption) ?_
  rotate_left
  · (intro w hSw; (try dsimp only at hSw); go_simp; try with_reducible rfl)
  try simp only [Act.put, List.setIfInBounds_toArray, List.set_cons_zero, List.set_cons_succ]
  refine wpAnyH_take (i := 4) (oi := { dst := some 57, op := Op.move (Operand.tmp 12), type := 24, pos := "law.go:88", after := #[{ on := 3, ground := Ground.guard }], guard := some (3, false) }) (v := ?_) rfl (by kernel_rfl) (by kernel_rfl) (by kernel_rfl) (fun _ _ _ h => h) (Or.inl ⟨by rfl, ?_⟩) (by assumption) ?_
  rotate_left
  · (intro w hSw; (try dsimp only at hSw); go_simp; try with_reducible rfl)
  try simp only [Act.put, List.setIfInBounds_toArray, List.set_cons_zero, List.set_cons_succ]
  refine wpAnyH_take (i := 7) (oi := { dst := some 60, op := Op.move (Operand.tmp 14), type := 28, pos := "law.go:88", after := #[{ on := 3, ground := Ground.guard }], guard := some (3, false) }) (v := ?_) rfl (by kernel_rfl) (by kernel_rfl) (by kernel_rfl) (fun _ _ _ h => h) (Or.inl ⟨by rfl, ?_⟩) (by assumption) ?_
  rotate_left
  · (intro w hSw; (try dsimp only at hSw); go_simp; try with_reducible rfl)
  try simp only [Act.put, List.setIfInBounds_toArray, List.set_cons_zero, List.set_cons_succ]
  refine wpAnyH_ready (rs := [5]) (by kernel_rfl) (by simp) ?_
  refine AllReadyH.cons (o := { dst := some 58, op := Op.call { callee := Callee.value (Operand.func 26), args := #[Operand.tmp 57], argTypes := #[24] }, type := 31, pos := "law.go:88", after := #[{ on := 4, ground := Ground.data }, { on := 3, ground := Ground.chain }, { on := 3, ground := Ground.guard }], guard := some (3, false) }) rfl (fun K hK => ?_) ?_
  · skip
    refine step_want (by rfl) ?_
    go_simp
    refine (Try.bytes ((HDW.out).keep (Chg.refl w5 (fun _ => False)).drew (fun _ _ => id))).mono ?_
    rintro e w6 ⟨b1, q1, rfl, s1, s2, s3, s4⟩
    dsimp only
    have k1 : Chg w5 w6 (fun _ => False) := (Chg.below s4 _).ofDrew
    have y1 : w6.cell? ⟨m, 1, none⟩ = some (.slice Aw Q.length wc) := (World.cell?_of_block (w := w5) (a := ⟨m, 1, none⟩) (k1.block m hml id)).trans hrc1
    have x1 := s3.str (64 * k) (HDW.out).Tl q1
    have B1 := Lib.hid s3
    have K1 := Lib.hid k1
    clear s1 s2 s3 s4 k1
    refine hK.out _ _ ?_ (fun hHeld => ?_)
    · exact y1
    clear hK K
    try simp only [Act.put, List.setIfInBounds_toArray, List.set_cons_zero, List.set_cons_succ]
    refine wpAnyH_ready (rs := [6, 8]) (by kernel_rfl) (by simp) ?_
    refine AllReadyH.cons (o := { dst := some 59, op := Op.convert 31 9 (Operand.tmp 58), type := 9, pos := "law.go:88", after := #[{ on := 5, ground := Ground.data }, { on := 3, ground := Ground.guard }], guard := some (3, false) }) rfl (fun K hK => ?_) ?_
    · skip
      go_simp
      refine hK.out _ _ ?_ (fun hHeld => ?_)
      · exact y1
      clear hK K
      try simp only [Act.put, List.setIfInBounds_toArray, List.set_cons_zero, List.set_cons_succ]
      refine wpAnyH_ready (rs := [8]) (by kernel_rfl) (by simp) ?_
      refine AllReadyH.cons (o := { dst := some 61, op := Op.call { callee := Callee.value (Operand.func 32), args := #[Operand.tmp 60], argTypes := #[28] }, type := 31, pos := "law.go:88", after := #[{ on := 7, ground := Ground.data }, { on := 5, ground := Ground.chain }, { on := 3, ground := Ground.guard }], guard := some (3, false) }) rfl (fun K hK => ?_) ?_
      · skip
        refine step_want (by rfl) ?_
        go_simp
        refine (Try.rbytes ((HRW.out).keep (K1.out) (fun _ _ => id)) (by have := HQL.out; omega)).mono ?_
        rw [HT.out]
        rintro e w7 ⟨b2, q2, rfl, s1, s2, s3, s4⟩
        dsimp only
        have k2 : Chg w5 w7 (fun _ => False) := (K1.out).trans (Chg.below s4 _)
        have y2 : w7.cell? ⟨m, 1, none⟩ = some (.slice Aw Q.length wc) := (World.cell?_of_block (w := w5) (a := ⟨m, 1, none⟩) (k2.block m hml id)).trans hrc1
        have z2 : w7.cell? ⟨d, 2, none⟩ = some (.slice Ad Q.length wd) := (World.cell?_of_block (w := w5) (a := ⟨d, 2, none⟩) (k2.block d hdl id)).trans hdc2
        have x12 := ((B1.out).congr (s4.block b1 (B1.out).lt)).str (64 * k) (HDW.out).Tl q1
        have x2 := s3.str (64 * k) (HDW.out).Tl q2
        have K2 : Hid (Chg w5 w7 (fun _ => False)) := Lib.hid k2
        clear s1 s2 s3 s4 k2
        refine hK.out _ _ ?_ (fun hHeld => ?_)
        · exact y2
        clear hK K
        try simp only [Act.put, List.setIfInBounds_toArray, List.set_cons_zero, List.set_cons_succ]
        refine wpAnyH_ready (rs := [9]) (by kernel_rfl) (by simp) ?_
        refine AllReadyH.cons (o := { dst := some 62, op := Op.convert 31 9 (Operand.tmp 61), type := 9, pos := "law.go:88", after := #[{ on := 8, ground := Ground.data }, { on := 3, ground := Ground.guard }], guard := some (3, false) }) rfl (fun K hK => ?_) ?_
        · skip
          go_simp
          refine hK.out _ _ ?_ (fun hHeld => ?_)
          · exact y2
          clear hK K
          try simp only [Act.put, List.setIfInBounds_toArray, List.set_cons_zero, List.set_cons_succ]
          refine wpAnyH_take (i := 10) (oi := { dst := some 63, op := Op.binOp BinOp.neq 9 (Operand.tmp 59) (Operand.tmp 62) 9, type := 4, pos := "law.go:88", after := #[{ on := 6, ground := Ground.data }, { on := 9, ground := Ground.data }, { on := 3, ground := Ground.guard }], guard := some (3, false) }) (v := ?_) rfl (by kernel_rfl) (by kernel_rfl) (by kernel_rfl) (fun _ _ _ h => h) (Or.inl ⟨by rfl, ?_⟩) (by assumption) ?_
          rotate_left
          · (intro w hSw; (try dsimp only at hSw); go_simp; try with_reducible rfl)
          try simp only [Act.put, List.setIfInBounds_toArray, List.set_cons_zero, List.set_cons_succ]
          refine wpAnyH_take (i := 11) (oi := { dst := some 64, op := Op.pick (Operand.tmp 56) (Operand.const (Value.bool true)) (Operand.tmp 63), type := 4, pos := "law.go:88", after := #[{ on := 3, ground := Ground.data }, { on := 10, ground := Ground.data }], guard := none }) (v := ?_) rfl (by kernel_rfl) (by kernel_rfl) (by kernel_rfl) (fun _ _ _ h => h) (Or.inl ⟨by rfl, ?_⟩) (by assumption) ?_
          rotate_left
          · (intro w hSw; (try dsimp only at hSw); go_simp; try with_reducible rfl)
          try simp only [Act.put, List.setIfInBounds_toArray, List.set_cons_zero, List.set_cons_succ]
          refine wpAnyH_take (i := 12) (oi := { dst := some 65, op := Op.move (Operand.tmp 64), type := 4, pos := "law.go:88", after := #[{ on := 11, ground := Ground.data }, { on := 8, ground := Ground.chain }], guard := none }) (v := ?_) rfl (by kernel_rfl) (by kernel_rfl) (by kernel_rfl) (fun _ _ _ h => h) (Or.inl ⟨by rfl, ?_⟩) (by assumption) ?_
          rotate_left
          · (intro w hSw; (try dsimp only at hSw); go_simp; try with_reducible rfl)
          try simp only [Act.put, List.setIfInBounds_toArray, List.set_cons_zero, List.set_cons_succ]
          refine wpAnyH_take (i := 13) (oi := { dst := some 66, op := Op.move (Operand.tmp 12), type := 24, pos := "law.go:88", after := #[{ on := 12, ground := Ground.guard }], guard := some (12, false) }) (v := ?_) rfl (by kernel_rfl) (by kernel_rfl) (by kernel_rfl) (fun _ _ _ h => h) (Or.inl ⟨by rfl, ?_⟩) (by assumption) ?_
          rotate_left
          · (intro w hSw; (try dsimp only at hSw); go_simp; try with_reducible rfl)
          try simp only [Act.put, List.setIfInBounds_toArray, List.set_cons_zero, List.set_cons_succ]
          refine wpAnyH_take (i := 15) (oi := { dst := some 68, op := Op.move (Operand.tmp 14), type := 28, pos := "law.go:88", after := #[{ on := 12, ground := Ground.guard }], guard := some (12, false) }) (v := ?_) rfl (by kernel_rfl) (by kernel_rfl) (by kernel_rfl) (fun _ _ _ h => h) (Or.inl ⟨by rfl, ?_⟩) (by assumption) ?_
          rotate_left
          · (intro w hSw; (try dsimp only at hSw); go_simp; try with_reducible rfl)
          try simp only [Act.put, List.setIfInBounds_toArray, List.set_cons_zero, List.set_cons_succ]
          refine wpAnyH_take (i := 16) (oi := { dst := some 69, op := Op.nilCheck (Operand.tmp 68), type := 0, pos := "law.go:88", after := #[{ on := 15, ground := Ground.data }, { on := 12, ground := Ground.guard }], guard := some (12, false) }) (v := ?_) rfl (by kernel_rfl) (by kernel_rfl) (by kernel_rfl) (fun _ _ _ h => h) (Or.inl ⟨by rfl, ?_⟩) (by assumption) ?_
          rotate_left
          · (intro w hSw; (try dsimp only at hSw); go_simp; try with_reducible rfl)
          try simp only [Act.put, List.setIfInBounds_toArray, List.set_cons_zero, List.set_cons_succ]
          refine wpAnyH_take (i := 17) (oi := { dst := some 70, op := Op.fieldAddr 60 (Operand.tmp 69) 1, type := 0, pos := "law.go:88", after := #[{ on := 16, ground := Ground.data }, { on := 12, ground := Ground.guard }], guard := some (12, false) }) (v := ?_) rfl (by kernel_rfl) (by kernel_rfl) (by kernel_rfl) (fun _ _ _ h => h) (Or.inl ⟨by rfl, ?_⟩) (by assumption) ?_
          rotate_left
          · (intro w hSw; (try dsimp only at hSw); go_simp; try with_reducible rfl)
          try simp only [Act.put, List.setIfInBounds_toArray, List.set_cons_zero, List.set_cons_succ]
          refine wpAnyH_take (i := 18) (oi := { dst := some 71, op := Op.load 58 (Operand.tmp 70), type := 58, pos := "law.go:88", after := #[{ on := 17, ground := Ground.data }, { on := 12, ground := Ground.guard }], guard := some (12, false) }) (v := ?_) rfl (by kernel_rfl) (by kernel_rfl) (by kernel_rfl) (fun _ _ _ h => h) (Or.inl ⟨by rfl, ?_⟩) (by assumption) ?_
          rotate_left
          · (intro w hSw; (try dsimp only at hSw); go_simp; try with_reducible rfl)
          try simp only [Act.put, List.setIfInBounds_toArray, List.set_cons_zero, List.set_cons_succ]
          refine wpAnyH_take (i := 19) (oi := { dst := some 72, op := Op.call { callee := Callee.builtin Builtin.len, args := #[Operand.tmp 71], argTypes := #[58] }, type := 3, pos := "law.go:88", after := #[{ on := 18, ground := Ground.data }, { on := 12, ground := Ground.guard }], guard := some (12, false) }) (v := ?_) rfl (by kernel_rfl) (by kernel_rfl) (by kernel_rfl) (fun _ _ _ h => h) (Or.inl ⟨by rfl, ?_⟩) (by assumption) ?_
          rotate_left
          · (intro w hSw; (try dsimp only at hSw); go_simp; try with_reducible rfl)
          try simp only [Act.put, List.setIfInBounds_toArray, List.set_cons_zero, List.set_cons_succ]
          refine wpAnyH_ready (rs := [14]) (by kernel_rfl) (by simp) ?_
          refine AllReadyH.cons (o := { dst := some 67, op := Op.call { callee := Callee.value (Operand.func 27), args := #[Operand.tmp 66], argTypes := #[24] }, type := 3, pos := "law.go:88", after := #[{ on := 13, ground := Ground.data }, { on := 12, ground := Ground.chain }, { on := 12, ground := Ground.guard }], guard := some (12, false) }) rfl (fun K hK => ?_) ?_
          · skip
            refine step_want (by rfl) ?_
            go_simp
            refine (Try.waits _ _ _ _ _ z2).mono ?_
            rintro e w' ⟨rfl, rfl⟩
            dsimp only
            refine hK.out _ _ ?_ (fun hHeld => ?_)
            · exact y2
            clear hK K
            try simp only [Act.put, List.setIfInBounds_toArray, List.set_cons_zero, List.set_cons_succ]
            refine wpAnyH_take (i := 20) (oi := { dst := some 73, op := Op.binOp BinOp.neq 3 (Operand.tmp 67) (Operand.tmp 72) 3, type := 4, pos := "law.go:88", after := #[{ on := 14, ground := Ground.data }, { on := 19, ground := Ground.data }, { on := 12, ground := Ground.guard }], guard := some (12, false) }) (v := ?_) rfl (by kernel_rfl) (by kernel_rfl) (by kernel_rfl) (fun _ _ _ h => h) (Or.inl ⟨by rfl, ?_⟩) (by assumption) ?_
            rotate_left
            · (intro w hSw; (try dsimp only at hSw); go_simp; try with_reducible rfl)
            try simp only [Act.put, List.setIfInBounds_toArray, List.set_cons_zero, List.set_cons_succ]
            refine wpAnyH_take (i := 21) (oi := { dst := some 74, op := Op.pick (Operand.tmp 65) (Operand.const (Value.bool true)) (Operand.tmp 73), type := 4, pos := "law.go:88", after := #[{ on := 12, ground := Ground.data }, { on := 20, ground := Ground.data }], guard := none }) (v := ?_) rfl (by kernel_rfl) (by kernel_rfl) (by kernel_rfl) (fun _ _ _ h => h) (Or.inl ⟨by rfl, ?_⟩) (by assumption) ?_
            rotate_left
            · (intro w hSw; (try dsimp only at hSw); go_simp; try with_reducible rfl)
            try simp only [Act.put, List.setIfInBounds_toArray, List.set_cons_zero, List.set_cons_succ]
            refine wpAnyH_done (by kernel_rfl) ?_ _
            refine NoPanic.normal ?_
            clear x1 x12 x2 y1 y2 z2
            have HB7 : Hid (Below w.heap.size w w7) := Lib.hid ((HB5.out).trans ((show Below w5.heap.size w5 w7 from ⟨(K2.out).os, (K2.out).tape, (K2.out).output, (K2.out).size, fun b hb => (K2.out).block b hb id⟩).mono (HB5.out).size))
            have HD7 := Lib.hid ((HD5.out).stay K2.out (fun _ _ => id))
            have HR7 := Lib.hid ((HR5.out).stay K2.out (fun _ _ => id))
            clear K1 K2 B1 HDW HRW HD5 HR5 hml hdl hdc2 hrc1 HB5
            go_wp2_with fail
            have h8 := HD7.out
            have hp := Try.pr_any h8 (by have := HK24.out; omega) f m0
            with_reducible refine hp.mono ?_
            clear hp h8
            rintro e w8 ⟨v1, rfl, b1, ⟨X1, m1, rfl⟩, y1⟩
            have HD8 := Lib.hid ((HD7.out).stay (Chg.below b1 (fun _ => False)) (fun _ _ => id))
            have HR8 := Lib.hid ((HR7.out).stay (Chg.below b1 (fun _ => False)) (fun _ _ => id))
            have HB8 := Lib.hid ((HB7.out).trans (b1.mono (HB7.out).size))
            have Y1 := Lib.hid y1
            clear b1 y1 HD7 HR7 HB7
            go_wp2_with fail
            have h8 := HR8.out
            have hp := Try.rpr_any h8 (by have := HK24.out; omega) (by have := HQL.out; omega) f m0 HT.out
            with_reducible refine hp.mono ?_
            clear hp h8
            rintro e w9 ⟨v2, rfl, b2, ⟨X2, m2, rfl⟩, y2⟩
            have HD9 := Lib.hid ((HD8.out).stay (Chg.below b2 (fun _ => False)) (fun _ _ => id))
            have HB9 := Lib.hid ((HB8.out).trans (b2.mono (HB8.out).size))
            have y1 := (Y1.out) w9 b2
            replace y2 := y2 w9 (Below.refl _ _)
            generalize prc k f m0 T = cr
            generalize prl k f m0 T = lr at y1 y2 ⊢
            generalize lr.length = N1 at y1 y2 ⊢
            clear b2 Y1 HD8 HR8 HB8
            rcases HPC.out with rfl | rfl
            · go_wp2_with fail
              clear y1 y2
              refine (Try.size n HL.out (by have := HL.out; have := H8.out; omega) _).mono ?_
              rintro e w10 ⟨rfl, hb⟩
              have HD10 := Lib.hid ((HD9.out).stay (Chg.below hb (fun _ => False)) (fun _ _ => id))
              have HB10 := Lib.hid ((HB9.out).trans (hb.mono (HB9.out).size))
              clear hb HD9 HB9
              go_wp2_with fail
              have h8 := HD10.out
              have hp := Try.pr_any h8 (by have := HK24.out; omega) i (wpn l)
              with_reducible refine hp.mono ?_
              clear hp h8
              rintro e w11 ⟨v3, rfl, b3, ⟨X3, m3, rfl⟩, y3⟩
              obtain ⟨t1, t2⟩ := HT8.out (by simp)
              rw [t1]
              rw [t2] at y3 ⊢
              have HB11 := Lib.hid ((HB10.out).trans (b3.mono (HB10.out).size))
              replace y3 := y3 w11 (Below.refl _ _)
              have y4 := DataIn.str (c := c) ((HX.out).bel HB11.out) HL.out
              generalize l.length = N3 at y3 ⊢
              clear b3 HB10 HD10 t1 t2 hn hc h6 d1 d1'
              go_wp2_with fail
              go_ret
              exact ⟨rfl, HB11.out⟩
            · go_wp2_with fail
              go_ret
              exact ⟨rfl, HB9.out⟩
          exact AllReadyH.nil
        exact AllReadyH.nil
      exact AllReadyH.nil
    refine AllReadyH.cons (o := { dst := some 61, op := Op.call { callee := Callee.value (Operand.func 32), args := #[Operand.tmp 60], argTypes := #[28] }, type := 31, pos := "law.go:88", after := #[{ on := 7, ground := Ground.data }, { on := 5, ground := Ground.chain }, { on := 3, ground := Ground.guard }], guard := some (3, false) }) rfl (fun K hK => ?_) ?_
    · skip
      refine step_want (by rfl) ?_
      go_simp
      refine (Try.rbytes ((HRW.out).keep (K1.out) (fun _ _ => id)) (by have := HQL.out; omega)).mono ?_
      rw [HT.out]
      rintro e w7 ⟨b2, q2, rfl, s1, s2, s3, s4⟩
      dsimp only
      have k2 : Chg w5 w7 (fun _ => False) := (K1.out).trans (Chg.below s4 _)
      have y2 : w7.cell? ⟨m, 1, none⟩ = some (.slice Aw Q.length wc) := (World.cell?_of_block (w := w5) (a := ⟨m, 1, none⟩) (k2.block m hml id)).trans hrc1
      have z2 : w7.cell? ⟨d, 2, none⟩ = some (.slice Ad Q.length wd) := (World.cell?_of_block (w := w5) (a := ⟨d, 2, none⟩) (k2.block d hdl id)).trans hdc2
      have x12 := ((B1.out).congr (s4.block b1 (B1.out).lt)).str (64 * k) (HDW.out).Tl q1
      have x2 := s3.str (64 * k) (HDW.out).Tl q2
      have K2 : Hid (Chg w5 w7 (fun _ => False)) := Lib.hid k2
      clear s1 s2 s3 s4 k2
      refine hK.out _ _ ?_ (fun hHeld => ?_)
      · exact y2
      clear hK K
      try simp only [Act.put, List.setIfInBounds_toArray, List.set_cons_zero, List.set_cons_succ]
      refine wpAnyH_ready (rs := [6, 9]) (by kernel_rfl) (by simp) ?_
      refine AllReadyH.cons (o := { dst := some 59, op := Op.convert 31 9 (Operand.tmp 58), type := 9, pos := "law.go:88", after := #[{ on := 5, ground := Ground.data }, { on := 3, ground := Ground.guard }], guard := some (3, false) }) rfl (fun K hK => ?_) ?_
      · skip
        go_simp
        refine hK.out _ _ ?_ (fun hHeld => ?_)
        · exact y2
        clear hK K
        try simp only [Act.put, List.setIfInBounds_toArray, List.set_cons_zero, List.set_cons_succ]
        refine wpAnyH_ready (rs := [9]) (by kernel_rfl) (by simp) ?_
        refine AllReadyH.cons (o := { dst := some 62, op := Op.convert 31 9 (Operand.tmp 61), type := 9, pos := "law.go:88", after := #[{ on := 8, ground := Ground.data }, { on := 3, ground := Ground.guard }], guard := some (3, false) }) rfl (fun K hK => ?_) ?_
        · skip
          go_simp
          refine hK.out _ _ ?_ (fun hHeld => ?_)
          · exact y2
          clear hK K
          try simp only [Act.put, List.setIfInBounds_toArray, List.set_cons_zero, List.set_cons_succ]
          refine wpAnyH_take (i := 10) (oi := { dst := some 63, op := Op.binOp BinOp.neq 9 (Operand.tmp 59) (Operand.tmp 62) 9, type := 4, pos := "law.go:88", after := #[{ on := 6, ground := Ground.data }, { on := 9, ground := Ground.data }, { on := 3, ground := Ground.guard }], guard := some (3, false) }) (v := ?_) rfl (by kernel_rfl) (by kernel_rfl) (by kernel_rfl) (fun _ _ _ h => h) (Or.inl ⟨by rfl, ?_⟩) (by assumption) ?_
          rotate_left
          · (intro w hSw; (try dsimp only at hSw); go_simp; try with_reducible rfl)
          try simp only [Act.put, List.setIfInBounds_toArray, List.set_cons_zero, List.set_cons_succ]
          refine wpAnyH_take (i := 11) (oi := { dst := some 64, op := Op.pick (Operand.tmp 56) (Operand.const (Value.bool true)) (Operand.tmp 63), type := 4, pos := "law.go:88", after := #[{ on := 3, ground := Ground.data }, { on := 10, ground := Ground.data }], guard := none }) (v := ?_) rfl (by kernel_rfl) (by kernel_rfl) (by kernel_rfl) (fun _ _ _ h => h) (Or.inl ⟨by rfl, ?_⟩) (by assumption) ?_
          rotate_left
          · (intro w hSw; (try dsimp only at hSw); go_simp; try with_reducible rfl)
          try simp only [Act.put, List.setIfInBounds_toArray, List.set_cons_zero, List.set_cons_succ]
          refine wpAnyH_take (i := 12) (oi := { dst := some 65, op := Op.move (Operand.tmp 64), type := 4, pos := "law.go:88", after := #[{ on := 11, ground := Ground.data }, { on := 8, ground := Ground.chain }], guard := none }) (v := ?_) rfl (by kernel_rfl) (by kernel_rfl) (by kernel_rfl) (fun _ _ _ h => h) (Or.inl ⟨by rfl, ?_⟩) (by assumption) ?_
          rotate_left
          · (intro w hSw; (try dsimp only at hSw); go_simp; try with_reducible rfl)
          try simp only [Act.put, List.setIfInBounds_toArray, List.set_cons_zero, List.set_cons_succ]
          refine wpAnyH_take (i := 13) (oi := { dst := some 66, op := Op.move (Operand.tmp 12), type := 24, pos := "law.go:88", after := #[{ on := 12, ground := Ground.guard }], guard := some (12, false) }) (v := ?_) rfl (by kernel_rfl) (by kernel_rfl) (by kernel_rfl) (fun _ _ _ h => h) (Or.inl ⟨by rfl, ?_⟩) (by assumption) ?_
          rotate_left
          · (intro w hSw; (try dsimp only at hSw); go_simp; try with_reducible rfl)
          try simp only [Act.put, List.setIfInBounds_toArray, List.set_cons_zero, List.set_cons_succ]
          refine wpAnyH_take (i := 15) (oi := { dst := some 68, op := Op.move (Operand.tmp 14), type := 28, pos := "law.go:88", after := #[{ on := 12, ground := Ground.guard }], guard := some (12, false) }) (v := ?_) rfl (by kernel_rfl) (by kernel_rfl) (by kernel_rfl) (fun _ _ _ h => h) (Or.inl ⟨by rfl, ?_⟩) (by assumption) ?_
          rotate_left
          · (intro w hSw; (try dsimp only at hSw); go_simp; try with_reducible rfl)
          try simp only [Act.put, List.setIfInBounds_toArray, List.set_cons_zero, List.set_cons_succ]
          refine wpAnyH_take (i := 16) (oi := { dst := some 69, op := Op.nilCheck (Operand.tmp 68), type := 0, pos := "law.go:88", after := #[{ on := 15, ground := Ground.data }, { on := 12, ground := Ground.guard }], guard := some (12, false) }) (v := ?_) rfl (by kernel_rfl) (by kernel_rfl) (by kernel_rfl) (fun _ _ _ h => h) (Or.inl ⟨by rfl, ?_⟩) (by assumption) ?_
          rotate_left
          · (intro w hSw; (try dsimp only at hSw); go_simp; try with_reducible rfl)
          try simp only [Act.put, List.setIfInBounds_toArray, List.set_cons_zero, List.set_cons_succ]
          refine wpAnyH_take (i := 17) (oi := { dst := some 70, op := Op.fieldAddr 60 (Operand.tmp 69) 1, type := 0, pos := "law.go:88", after := #[{ on := 16, ground := Ground.data }, { on := 12, ground := Ground.guard }], guard := some (12, false) }) (v := ?_) rfl (by kernel_rfl) (by kernel_rfl) (by kernel_rfl) (fun _ _ _ h => h) (Or.inl ⟨by rfl, ?_⟩) (by assumption) ?_
          rotate_left
          · (intro w hSw; (try dsimp only at hSw); go_simp; try with_reducible rfl)
          try simp only [Act.put, List.setIfInBounds_toArray, List.set_cons_zero, List.set_cons_succ]
          refine wpAnyH_take (i := 18) (oi := { dst := some 71, op := Op.load 58 (Operand.tmp 70), type := 58, pos := "law.go:88", after := #[{ on := 17, ground := Ground.data }, { on := 12, ground := Ground.guard }], guard := some (12, false) }) (v := ?_) rfl (by kernel_rfl) (by kernel_rfl) (by kernel_rfl) (fun _ _ _ h => h) (Or.inl ⟨by rfl, ?_⟩) (by assumption) ?_
          rotate_left
          · (intro w hSw; (try dsimp only at hSw); go_simp; try with_reducible rfl)
          try simp only [Act.put, List.setIfInBounds_toArray, List.set_cons_zero, List.set_cons_succ]
          refine wpAnyH_take (i := 19) (oi := { dst := some 72, op := Op.call { callee := Callee.builtin Builtin.len, args := #[Operand.tmp 71], argTypes := #[58] }, type := 3, pos := "law.go:88", after := #[{ on := 18, ground := Ground.data }, { on := 12, ground := Ground.guard }], guard := some (12, false) }) (v := ?_) rfl (by kernel_rfl) (by kernel_rfl) (by kernel_rfl) (fun _ _ _ h => h) (Or.inl ⟨by rfl, ?_⟩) (by assumption) ?_
          rotate_left
          · (intro w hSw; (try dsimp only at hSw); go_simp; try with_reducible rfl)
          try simp only [Act.put, List.setIfInBounds_toArray, List.set_cons_zero, List.set_cons_succ]
          refine wpAnyH_ready (rs := [14]) (by kernel_rfl) (by simp) ?_
          refine AllReadyH.cons (o := { dst := some 67, op := Op.call { callee := Callee.value (Operand.func 27), args := #[Operand.tmp 66], argTypes := #[24] }, type := 3, pos := "law.go:88", after := #[{ on := 13, ground := Ground.data }, { on := 12, ground := Ground.chain }, { on := 12, ground := Ground.guard }], guard := some (12, false) }) rfl (fun K hK => ?_) ?_
          · skip
            refine step_want (by rfl) ?_
            go_simp
            refine (Try.waits _ _ _ _ _ z2).mono ?_
            rintro e w' ⟨rfl, rfl⟩
            dsimp only
            refine hK.out _ _ ?_ (fun hHeld => ?_)
            · exact y2
            clear hK K
            try simp only [Act.put, List.setIfInBounds_toArray, List.set_cons_zero, List.set_cons_succ]
            refine wpAnyH_take (i := 20) (oi := { dst := some 73, op := Op.binOp BinOp.neq 3 (Operand.tmp 67) (Operand.tmp 72) 3, type := 4, pos := "law.go:88", after := #[{ on := 14, ground := Ground.data }, { on := 19, ground := Ground.data }, { on := 12, ground := Ground.guard }], guard := some (12, false) }) (v := ?_) rfl (by kernel_rfl) (by kernel_rfl) (by kernel_rfl) (fun _ _ _ h => h) (Or.inl ⟨by rfl, ?_⟩) (by assumption) ?_
            rotate_left
            · (intro w hSw; (try dsimp only at hSw); go_simp; try with_reducible rfl)
            try simp only [Act.put, List.setIfInBounds_toArray, List.set_cons_zero, List.set_cons_succ]
            refine wpAnyH_take (i := 21) (oi := { dst := some 74, op := Op.pick (Operand.tmp 65) (Operand.const (Value.bool true)) (Operand.tmp 73), type := 4, pos := "law.go:88", after := #[{ on := 12, ground := Ground.data }, { on := 20, ground := Ground.data }], guard := none }) (v := ?_) rfl (by kernel_rfl) (by kernel_rfl) (by kernel_rfl) (fun _ _ _ h => h) (Or.inl ⟨by rfl, ?_⟩) (by assumption) ?_
            rotate_left
            · (intro w hSw; (try dsimp only at hSw); go_simp; try with_reducible rfl)
            try simp only [Act.put, List.setIfInBounds_toArray, List.set_cons_zero, List.set_cons_succ]
            refine wpAnyH_done (by kernel_rfl) ?_ _
            refine NoPanic.normal ?_
            clear x1 x12 x2 y1 y2 z2
            have HB7 : Hid (Below w.heap.size w w7) := Lib.hid ((HB5.out).trans ((show Below w5.heap.size w5 w7 from ⟨(K2.out).os, (K2.out).tape, (K2.out).output, (K2.out).size, fun b hb => (K2.out).block b hb id⟩).mono (HB5.out).size))
            have HD7 := Lib.hid ((HD5.out).stay K2.out (fun _ _ => id))
            have HR7 := Lib.hid ((HR5.out).stay K2.out (fun _ _ => id))
            clear K1 K2 B1 HDW HRW HD5 HR5 hml hdl hdc2 hrc1 HB5
            go_wp2_with fail
            have h8 := HD7.out
            have hp := Try.pr_any h8 (by have := HK24.out; omega) f m0
            with_reducible refine hp.mono ?_
            clear hp h8
            rintro e w8 ⟨v1, rfl, b1, ⟨X1, m1, rfl⟩, y1⟩
            have HD8 := Lib.hid ((HD7.out).stay (Chg.below b1 (fun _ => False)) (fun _ _ => id))
            have HR8 := Lib.hid ((HR7.out).stay (Chg.below b1 (fun _ => False)) (fun _ _ => id))
            have HB8 := Lib.hid ((HB7.out).trans (b1.mono (HB7.out).size))
            have Y1 := Lib.hid y1
            clear b1 y1 HD7 HR7 HB7
            go_wp2_with fail
            have h8 := HR8.out
            have hp := Try.rpr_any h8 (by have := HK24.out; omega) (by have := HQL.out; omega) f m0 HT.out
            with_reducible refine hp.mono ?_
            clear hp h8
            rintro e w9 ⟨v2, rfl, b2, ⟨X2, m2, rfl⟩, y2⟩
            have HD9 := Lib.hid ((HD8.out).stay (Chg.below b2 (fun _ => False)) (fun _ _ => id))
            have HB9 := Lib.hid ((HB8.out).trans (b2.mono (HB8.out).size))
            have y1 := (Y1.out) w9 b2
            replace y2 := y2 w9 (Below.refl _ _)
            generalize prc k f m0 T = cr
            generalize prl k f m0 T = lr at y1 y2 ⊢
            generalize lr.length = N1 at y1 y2 ⊢
            clear b2 Y1 HD8 HR8 HB8
            rcases HPC.out with rfl | rfl
            · go_wp2_with fail
              clear y1 y2
              refine (Try.size n HL.out (by have := HL.out; have := H8.out; omega) _).mono ?_
              rintro e w10 ⟨rfl, hb⟩
              have HD10 := Lib.hid ((HD9.out).stay (Chg.below hb (fun _ => False)) (fun _ _ => id))
              have HB10 := Lib.hid ((HB9.out).trans (hb.mono (HB9.out).size))
              clear hb HD9 HB9
              go_wp2_with fail
              have h8 := HD10.out
              have hp := Try.pr_any h8 (by have := HK24.out; omega) i (wpn l)
              with_reducible refine hp.mono ?_
              clear hp h8
              rintro e w11 ⟨v3, rfl, b3, ⟨X3, m3, rfl⟩, y3⟩
              obtain ⟨t1, t2⟩ := HT8.out (by simp)
              rw [t1]
              rw [t2] at y3 ⊢
              have HB11 := Lib.hid ((HB10.out).trans (b3.mono (HB10.out).size))
              replace y3 := y3 w11 (Below.refl _ _)
              have y4 := DataIn.str (c := c) ((HX.out).bel HB11.out) HL.out
              generalize l.length = N3 at y3 ⊢
              clear b3 HB10 HD10 t1 t2 hn hc h6 d1 d1'
              go_wp2_with fail
              go_ret
              exact ⟨rfl, HB11.out⟩
            · go_wp2_with fail
              go_ret
              exact ⟨rfl, HB9.out⟩
          exact AllReadyH.nil
        exact AllReadyH.nil
      refine AllReadyH.cons (o := { dst := some 62, op := Op.convert 31 9 (Operand.tmp 61), type := 9, pos := "law.go:88", after := #[{ on := 8, ground := Ground.data }, { on := 3, ground := Ground.guard }], guard := some (3, false) }) rfl (fun K hK => ?_) ?_
      · skip
        go_simp
        refine hK.out _ _ ?_ (fun hHeld => ?_)
        · exact y2
        clear hK K
        try simp only [Act.put, List.setIfInBounds_toArray, List.set_cons_zero, List.set_cons_succ]
        refine wpAnyH_ready (rs := [6]) (by kernel_rfl) (by simp) ?_
        refine AllReadyH.cons (o := { dst := some 59, op := Op.convert 31 9 (Operand.tmp 58), type := 9, pos := "law.go:88", after := #[{ on := 5, ground := Ground.data }, { on := 3, ground := Ground.guard }], guard := some (3, false) }) rfl (fun K hK => ?_) ?_
        · skip
          go_simp
          refine hK.out _ _ ?_ (fun hHeld => ?_)
          · exact y2
          clear hK K
          try simp only [Act.put, List.setIfInBounds_toArray, List.set_cons_zero, List.set_cons_succ]
          refine wpAnyH_take (i := 10) (oi := { dst := some 63, op := Op.binOp BinOp.neq 9 (Operand.tmp 59) (Operand.tmp 62) 9, type := 4, pos := "law.go:88", after := #[{ on := 6, ground := Ground.data }, { on := 9, ground := Ground.data }, { on := 3, ground := Ground.guard }], guard := some (3, false) }) (v := ?_) rfl (by kernel_rfl) (by kernel_rfl) (by kernel_rfl) (fun _ _ _ h => h) (Or.inl ⟨by rfl, ?_⟩) (by assumption) ?_
          rotate_left
          · (intro w hSw; (try dsimp only at hSw); go_simp; try with_reducible rfl)
          try simp only [Act.put, List.setIfInBounds_toArray, List.set_cons_zero, List.set_cons_succ]
          refine wpAnyH_take (i := 11) (oi := { dst := some 64, op := Op.pick (Operand.tmp 56) (Operand.const (Value.bool true)) (Operand.tmp 63), type := 4, pos := "law.go:88", after := #[{ on := 3, ground := Ground.data }, { on := 10, ground := Ground.data }], guard := none }) (v := ?_) rfl (by kernel_rfl) (by kernel_rfl) (by kernel_rfl) (fun _ _ _ h => h) (Or.inl ⟨by rfl, ?_⟩) (by assumption) ?_
          rotate_left
          · (intro w hSw; (try dsimp only at hSw); go_simp; try with_reducible rfl)
          try simp only [Act.put, List.setIfInBounds_toArray, List.set_cons_zero, List.set_cons_succ]
          refine wpAnyH_take (i := 12) (oi := { dst := some 65, op := Op.move (Operand.tmp 64), type := 4, pos := "law.go:88", after := #[{ on := 11, ground := Ground.data }, { on := 8, ground := Ground.chain }], guard := none }) (v := ?_) rfl (by kernel_rfl) (by kernel_rfl) (by kernel_rfl) (fun _ _ _ h => h) (Or.inl ⟨by rfl, ?_⟩) (by assumption) ?_
          rotate_left
          · (intro w hSw; (try dsimp only at hSw); go_simp; try with_reducible rfl)
          try simp only [Act.put, List.setIfInBounds_toArray, List.set_cons_zero, List.set_cons_succ]
          refine wpAnyH_take (i := 13) (oi := { dst := some 66, op := Op.move (Operand.tmp 12), type := 24, pos := "law.go:88", after := #[{ on := 12, ground := Ground.guard }], guard := some (12, false) }) (v := ?_) rfl (by kernel_rfl) (by kernel_rfl) (by kernel_rfl) (fun _ _ _ h => h) (Or.inl ⟨by rfl, ?_⟩) (by assumption) ?_
          rotate_left
          · (intro w hSw; (try dsimp only at hSw); go_simp; try with_reducible rfl)
          try simp only [Act.put, List.setIfInBounds_toArray, List.set_cons_zero, List.set_cons_succ]
          refine wpAnyH_take (i := 15) (oi := { dst := some 68, op := Op.move (Operand.tmp 14), type := 28, pos := "law.go:88", after := #[{ on := 12, ground := Ground.guard }], guard := some (12, false) }) (v := ?_) rfl (by kernel_rfl) (by kernel_rfl) (by kernel_rfl) (fun _ _ _ h => h) (Or.inl ⟨by rfl, ?_⟩) (by assumption) ?_
          rotate_left
          · (intro w hSw; (try dsimp only at hSw); go_simp; try with_reducible rfl)
          try simp only [Act.put, List.setIfInBounds_toArray, List.set_cons_zero, List.set_cons_succ]
          refine wpAnyH_take (i := 16) (oi := { dst := some 69, op := Op.nilCheck (Operand.tmp 68), type := 0, pos := "law.go:88", after := #[{ on := 15, ground := Ground.data }, { on := 12, ground := Ground.guard }], guard := some (12, false) }) (v := ?_) rfl (by kernel_rfl) (by kernel_rfl) (by kernel_rfl) (fun _ _ _ h => h) (Or.inl ⟨by rfl, ?_⟩) (by assumption) ?_
          rotate_left
          · (intro w hSw; (try dsimp only at hSw); go_simp; try with_reducible rfl)
          try simp only [Act.put, List.setIfInBounds_toArray, List.set_cons_zero, List.set_cons_succ]
          refine wpAnyH_take (i := 17) (oi := { dst := some 70, op := Op.fieldAddr 60 (Operand.tmp 69) 1, type := 0, pos := "law.go:88", after := #[{ on := 16, ground := Ground.data }, { on := 12, ground := Ground.guard }], guard := some (12, false) }) (v := ?_) rfl (by kernel_rfl) (by kernel_rfl) (by kernel_rfl) (fun _ _ _ h => h) (Or.inl ⟨by rfl, ?_⟩) (by assumption) ?_
          rotate_left
          · (intro w hSw; (try dsimp only at hSw); go_simp; try with_reducible rfl)
          try simp only [Act.put, List.setIfInBounds_toArray, List.set_cons_zero, List.set_cons_succ]
          refine wpAnyH_take (i := 18) (oi := { dst := some 71, op := Op.load 58 (Operand.tmp 70), type := 58, pos := "law.go:88", after := #[{ on := 17, ground := Ground.data }, { on := 12, ground := Ground.guard }], guard := some (12, false) }) (v := ?_) rfl (by kernel_rfl) (by kernel_rfl) (by kernel_rfl) (fun _ _ _ h => h) (Or.inl ⟨by rfl, ?_⟩) (by assumption) ?_
          rotate_left
          · (intro w hSw; (try dsimp only at hSw); go_simp; try with_reducible rfl)
          try simp only [Act.put, List.setIfInBounds_toArray, List.set_cons_zero, List.set_cons_succ]
          refine wpAnyH_take (i := 19) (oi := { dst := some 72, op := Op.call { callee := Callee.builtin Builtin.len, args := #[Operand.tmp 71], argTypes := #[58] }, type := 3, pos := "law.go:88", after := #[{ on := 18, ground := Ground.data }, { on := 12, ground := Ground.guard }], guard := some (12, false) }) (v := ?_) rfl (by kernel_rfl) (by kernel_rfl) (by kernel_rfl) (fun _ _ _ h => h) (Or.inl ⟨by rfl, ?_⟩) (by assumption) ?_
          rotate_left
          · (intro w hSw; (try dsimp only at hSw); go_simp; try with_reducible rfl)
          try simp only [Act.put, List.setIfInBounds_toArray, List.set_cons_zero, List.set_cons_succ]
          refine wpAnyH_ready (rs := [14]) (by kernel_rfl) (by simp) ?_
          refine AllReadyH.cons (o := { dst := some 67, op := Op.call { callee := Callee.value (Operand.func 27), args := #[Operand.tmp 66], argTypes := #[24] }, type := 3, pos := "law.go:88", after := #[{ on := 13, ground := Ground.data }, { on := 12, ground := Ground.chain }, { on := 12, ground := Ground.guard }], guard := some (12, false) }) rfl (fun K hK => ?_) ?_
          · skip
            refine step_want (by rfl) ?_
            go_simp
            refine (Try.waits _ _ _ _ _ z2).mono ?_
            rintro e w' ⟨rfl, rfl⟩
            dsimp only
            refine hK.out _ _ ?_ (fun hHeld => ?_)
            · exact y2
            clear hK K
            try simp only [Act.put, List.setIfInBounds_toArray, List.set_cons_zero, List.set_cons_succ]
            refine wpAnyH_take (i := 20) (oi := { dst := some 73, op := Op.binOp BinOp.neq 3 (Operand.tmp 67) (Operand.tmp 72) 3, type := 4, pos := "law.go:88", after := #[{ on := 14, ground := Ground.data }, { on := 19, ground := Ground.data }, { on := 12, ground := Ground.guard }], guard := some (12, false) }) (v := ?_) rfl (by kernel_rfl) (by kernel_rfl) (by kernel_rfl) (fun _ _ _ h => h) (Or.inl ⟨by rfl, ?_⟩) (by assumption) ?_
            rotate_left
            · (intro w hSw; (try dsimp only at hSw); go_simp; try with_reducible rfl)
            try simp only [Act.put, List.setIfInBounds_toArray, List.set_cons_zero, List.set_cons_succ]
            refine wpAnyH_take (i := 21) (oi := { dst := some 74, op := Op.pick (Operand.tmp 65) (Operand.const (Value.bool true)) (Operand.tmp 73), type := 4, pos := "law.go:88", after := #[{ on := 12, ground := Ground.data }, { on := 20, ground := Ground.data }], guard := none }) (v := ?_) rfl (by kernel_rfl) (by kernel_rfl) (by kernel_rfl) (fun _ _ _ h => h) (Or.inl ⟨by rfl, ?_⟩) (by assumption) ?_
            rotate_left
            · (intro w hSw; (try dsimp only at hSw); go_simp; try with_reducible rfl)
            try simp only [Act.put, List.setIfInBounds_toArray, List.set_cons_zero, List.set_cons_succ]
            refine wpAnyH_done (by kernel_rfl) ?_ _
            refine NoPanic.normal ?_
            clear x1 x12 x2 y1 y2 z2
            have HB7 : Hid (Below w.heap.size w w7) := Lib.hid ((HB5.out).trans ((show Below w5.heap.size w5 w7 from ⟨(K2.out).os, (K2.out).tape, (K2.out).output, (K2.out).size, fun b hb => (K2.out).block b hb id⟩).mono (HB5.out).size))
            have HD7 := Lib.hid ((HD5.out).stay K2.out (fun _ _ => id))
            have HR7 := Lib.hid ((HR5.out).stay K2.out (fun _ _ => id))
            clear K1 K2 B1 HDW HRW HD5 HR5 hml hdl hdc2 hrc1 HB5
            go_wp2_with fail
            have h8 := HD7.out
            have hp := Try.pr_any h8 (by have := HK24.out; omega) f m0
            with_reducible refine hp.mono ?_
            clear hp h8
            rintro e w8 ⟨v1, rfl, b1, ⟨X1, m1, rfl⟩, y1⟩
            have HD8 := Lib.hid ((HD7.out).stay (Chg.below b1 (fun _ => False)) (fun _ _ => id))
            have HR8 := Lib.hid ((HR7.out).stay (Chg.below b1 (fun _ => False)) (fun _ _ => id))
            have HB8 := Lib.hid ((HB7.out).trans (b1.mono (HB7.out).size))
            have Y1 := Lib.hid y1
            clear b1 y1 HD7 HR7 HB7
            go_wp2_with fail
            have h8 := HR8.out
            have hp := Try.rpr_any h8 (by have := HK24.out; omega) (by have := HQL.out; omega) f m0 HT.out
            with_reducible refine hp.mono ?_
            clear hp h8
            rintro e w9 ⟨v2, rfl, b2, ⟨X2, m2, rfl⟩, y2⟩
            have HD9 := Lib.hid ((HD8.out).stay (Chg.below b2 (fun _ => False)) (fun _ _ => id))
            have HB9 := Lib.hid ((HB8.out).trans (b2.mono (HB8.out).size))
            have y1 := (Y1.out) w9 b2
            replace y2 := y2 w9 (Below.refl _ _)
            generalize prc k f m0 T = cr
            generalize prl k f m0 T = lr at y1 y2 ⊢
            generalize lr.length = N1 at y1 y2 ⊢
            clear b2 Y1 HD8 HR8 HB8
            rcases HPC.out with rfl | rfl
            · go_wp2_with fail
              clear y1 y2
              refine (Try.size n HL.out (by have := HL.out; have := H8.out; omega) _).mono ?_
              rintro e w10 ⟨rfl, hb⟩
              have HD10 := Lib.hid ((HD9.out).stay (Chg.below hb (fun _ => False)) (fun _ _ => id))
              have HB10 := Lib.hid ((HB9.out).trans (hb.mono (HB9.out).size))
              clear hb HD9 HB9
              go_wp2_with fail
              have h8 := HD10.out
              have hp := Try.pr_any h8 (by have := HK24.out; omega) i (wpn l)
              with_reducible refine hp.mono ?_
              clear hp h8
              rintro e w11 ⟨v3, rfl, b3, ⟨X3, m3, rfl⟩, y3⟩
              obtain ⟨t1, t2⟩ := HT8.out (by simp)
              rw [t1]
              rw [t2] at y3 ⊢
              have HB11 := Lib.hid ((HB10.out).trans (b3.mono (HB10.out).size))
              replace y3 := y3 w11 (Below.refl _ _)
              have y4 := DataIn.str (c := c) ((HX.out).bel HB11.out) HL.out
              generalize l.length = N3 at y3 ⊢
              clear b3 HB10 HD10 t1 t2 hn hc h6 d1 d1'
              go_wp2_with fail
              go_ret
              exact ⟨rfl, HB11.out⟩
            · go_wp2_with fail
              go_ret
              exact ⟨rfl, HB9.out⟩
          exact AllReadyH.nil
        exact AllReadyH.nil
      exact AllReadyH.nil
    exact AllReadyH.nil
  exact AllReadyH.nil
end Go.Proofs
end

section
namespace Go.Proofs
open Go.RowKit
set_option maxRecDepth 100000
theorem Try.writes_long (w : World) (A : Option Addr) (n c : Nat) (a b d e : Value) (h : 600 < n) : Calls Try.prog 8 #[.slice A n c, a, b, d, e] w (YesO w) := by
  have hd : decide (600 < (n : Int)) = true := by simp; omega
  have hd' : decide (600 < n) = true := by simp; omega
  clear h
  go_enter Try.func8, Try.ntmps8
  go_wp2_with fail
  refine (Try.known13 _).mono ?_
  rintro e w1 ⟨rfl, hb1⟩
  have HB := Lib.hid hb1
  clear hb1
  go_wp2_with fail
  go_ret
  exact ⟨rfl, HB.out⟩
theorem Try.apart_long (w : World) (A B : Option Addr) (n c n2 c2 : Nat) (a b : Value) (h : 120 < n ∨ 120 < n2) : Calls Try.prog 9 #[.slice A n c, .slice B n2 c2, a, b] w (YesO w) := by
  by_cases h1 : 120 < n
  · have hd : decide (120 < (n : Int)) = true := by simp; omega
    have hd' : decide (120 < n) = true := by simp; omega
    clear h
    go_enter Try.func9, Try.ntmps9
    go_wp2_with fail
    refine (Try.known13 _).mono ?_
    rintro e w1 ⟨rfl, hb1⟩
    have HB := Lib.hid hb1
    clear hb1
    go_wp2_with fail
    go_ret
    exact ⟨rfl, HB.out⟩
  · have hd : decide (120 < (n : Int)) = false := by simp; omega
    have hd' : decide (120 < n) = false := by simp; omega
    have hd2 : decide (120 < (n2 : Int)) = true := by simp; omega
    have hd2' : decide (120 < n2) = true := by simp; omega
    clear h
    go_enter Try.func9, Try.ntmps9
    go_wp2_with fail
    refine (Try.known13 _).mono ?_
    rintro e w1 ⟨rfl, hb1⟩
    have HB := Lib.hid hb1
    clear hb1
    go_wp2_with fail
    go_ret
    exact ⟨rfl, HB.out⟩
theorem row_data {w : World} {a : Option Addr} {len cap : Nat} {zs : List Int} (h : IsRow .u8 w a len cap zs) : len ≤ cap ∧ cap ≤ maxLen ∧ ∃ bb : List UInt8, bb.length = len ∧ DataIn w a len bb := by
  obtain ⟨bb, h1, h2, h3⟩ := data_at h
  rcases h with ⟨_, rfl, rfl, _⟩ | ⟨x, rfl, p1, p2, _⟩
  · exact ⟨Nat.le_refl _, by decide, bb, h1, h3⟩
  · exact ⟨p1, p2, bb, h1, h3⟩
theorem u8_nat {n : Int} (h : (Lit.int .u8 n).wf = true) : ∃ s : Nat, n = s := by
  simp [Lit.wf, IntKind.min, IntKind.max, IntKind.bits, IntKind.signed] at h
  exact ⟨n.toNat, by omega⟩
theorem Try.writes_all (w : World) (A : Option Addr) (n c : Nat) (z : List Int) (s i f m : Int) (w0 : IsRow .u8 w A n c z) (w1 : (Lit.int .u8 s).wf = true) :
    Calls Try.prog 8 #[.slice A n c, .int .u8 s, .int .i64 i, .int .i64 f, .int .i64 m] w (YesO w) := by
  obtain ⟨s, rfl⟩ := u8_nat w1
  obtain ⟨h1, h2, bb, h3, h4⟩ := row_data w0
  by_cases h : 600 < n
  · exact Try.writes_long w A n c _ _ _ _ h
  · exact Try.writes w A n c bb h3 h1 h2 h4 s i f m (by omega)
theorem Try.apart_all (w : World) (A : Option Addr) (n c : Nat) (z : List Int) (B : Option Addr) (n2 c2 : Nat) (z2 : List Int) (s t : Int) (w0 : IsRow .u8 w A n c z) (w1 : IsRow .u8 w B n2 c2 z2) (w2 : (Lit.int .u8 s).wf = true) (w3 : (Lit.int .u8 t).wf = true) :
    Calls Try.prog 9 #[.slice A n c, .slice B n2 c2, .int .u8 s, .int .u8 t] w (YesO w) := by
  obtain ⟨s, rfl⟩ := u8_nat w2
  obtain ⟨t, rfl⟩ := u8_nat w3
  obtain ⟨h1, h2, bb, h3, h4⟩ := row_data w0
  obtain ⟨g1, g2, bb2, g3, g4⟩ := row_data w1
  by_cases h : 120 < n ∨ 120 < n2
  · exact Try.apart_long w A B n c n2 c2 _ _ h
  · exact Try.apart w A B n c n2 c2 bb bb2 h3 g3 h1 h2 g1 g2 h4 g4 s t (by omega) (by omega)
end Go.Proofs
end
