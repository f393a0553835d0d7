/-
  Texts of a proof over the translated program: NdPl.
-/
import Derived.Test.YtcmjccjbgidinaaNdPl0
import Derived.Test.YtcmjccjbgidinaaNdP3
set_option linter.unusedVariables false
set_option linter.unnecessarySimpa false
set_option linter.unusedSimpArgs false
namespace Go.Proofs
open Go.RowKit
set_option maxRecDepth 100000
theorem twin_far {w0 wr w1 w2 w3 w4 : World} {k d d2 m j B : Nat} {p1 p2 p3 : Value} {F F2 F3 G : Nat → Prop} {L T L' : List UInt8} {Q Q' : List (Nat × List UInt8)} (h : LY w0 k d m j B p1 p2 p3 wr F G L T L' Q Q') (hd : DV w1 F2 d2 k L T Q) (hc : Chg wr w1 (fun _ => False)) (hF : ∀ b, F2 b → wr.heap.size ≤ b)
    (h2 : Below w1.heap.size w1 w2) (h3 : Upd w2 w3 F F3) (h4 : Upd w3 w4 F3 F3) : LY w0 k d2 m j B p1 p2 p3 w4 F2 G L T L' Q Q' := by
  have s1 := hc.size
  have s2 := h2.size
  have s3 := h3.size
  have hlt := h.dv.lt
  have hF3 : ∀ b, F3 b → F b ∨ w2.heap.size ≤ b := h3.grow
  have b3 : ∀ b, b < w1.heap.size → ¬ F b → w4.heap[b]? = w1.heap[b]? := fun b hb hn => by
    rw [h4.block b (by omega) (fun q => by rcases hF3 b q with q | q; exact hn q; omega), h3.block b (by omega) hn, h2.block b hb]
  have hn2 : ∀ b, F2 b → ¬ F b := fun b q1 q2 => by have := hF b q1; have := hlt b q2; omega
  have hc14 : Chg w1 w4 F := ⟨h4.os.trans (h3.os.trans h2.os), h4.tape.trans (h3.tape.trans h2.tape), h4.output.trans (h3.output.trans h2.output), by have := h4.size; omega, b3⟩
  exact h.swap (hd.stay hc14 hn2) ⟨hc14.os.trans hc.os, hc14.tape.trans hc.tape, hc14.output.trans hc.output, by have := hc14.size; omega, fun b hb hn => by rw [b3 b (by omega) hn, hc.block b hb id]⟩ hF
set_option maxHeartbeats 4000000 in
theorem Try.plays (w : World) (k : Nat) (h4 : 4 ≤ k) (hk : k ≤ 64) (a : Option Addr) (n m : Nat) (hn : n ≤ 40) (hacts : ∀ i, i < n → ∃ p, a = some p ∧ ActAt w (p.add (i * 4))) : Calls Try.prog 3 #[.int .i64 k, .slice a n m] w (YesP w) := by
  have HA := Lib.hid hacts
  have hd : decide (40 < (n : Int)) = false := by simp; omega
  have hd2 : decide (64 < (k : Int)) = false := by simp; omega
  have hd3 : ¬ 64 < k := by omega
  clear hacts
  go_enter Try.func3, Try.ntmps3
  go_wp2_with fail
  refine (Try.known10 _).mono ?_
  rintro e w1 ⟨rfl, hb1⟩
  have HB := Lib.hid hb1
  clear hb1
  go_wp2_with fail
  refine (Try.new_good k h4 (by omega) _).mono ?_
  rintro e w2 ⟨v, rfl, d, F, rfl, hd', hb2, hF⟩
  have HD := Lib.hid hd'
  have HB2 := Lib.hid hb2
  have HF := Lib.hid hF
  clear hd' hb2 hF
  go_wp2_with fail
  refine (Try.rnew_good k h4 (by omega) _).mono ?_
  rintro e w3 ⟨v, rfl, rm, G, rfl, hr, hb3, hG⟩
  have H0 := Lib.hid (lr_start HB.out HD.out HB2.out HF.out hr hb3 hG)
  clear hr hb3 hG HD HB2 HF HB
  go_wp2
  go_loopw [5, 9] (fun v t wr => ∃ j d : Nat, j ≤ n ∧ v = .pointer (some ⟨d, 0, none⟩) ∧ t = .int .i64 j ∧ LR w k d rm j wr) (fun _ t _ => n - (intOf t).toNat)
  case atStart => exact ⟨0, d, Nat.zero_le _, rfl, rfl, H0.out⟩
  case round =>
    skip
    skip
    obtain ⟨j, d, hj, rfl, rfl, hR⟩ := hrel
    by_cases hlt : j < n
    · have hD : decide ((j : Int) < n) = true := by simpa using hlt
      obtain ⟨p, rfl, hp⟩ := (HA.out) j hlt
      obtain ⟨op, I, XA, xn, xm, KA, kn, km, bb, kb, z0, z1, z2, z3, hbl, hX, hkl, hkb, hxb, hK⟩ := hp
      have e0 := cellW z0 hR.bel
      have e1 := cellW z1 hR.bel
      have e2 := cellW z2 hR.bel
      have e3 := cellW z3 hR.bel
      subst hbl
      subst hkl
      have HR := Lib.hid hR
      have HX := Lib.hid hX
      have HK : Hid (KeepAt w KA kb) := Lib.hid hK
      clear z0 z1 z2 z3 hR hX hK
      obtain ⟨⟨pb, po, ps⟩, hP⟩ : ∃ P, p.add (j * 4) = P := ⟨_, rfl⟩
      rw [hP] at e0 e1 e2 e3
      replace e1 : wr.cell? ⟨pb, po + 1, none⟩ = some (.int .i64 I) := e1
      replace e2 : wr.cell? ⟨pb, po + 2, none⟩ = some (.slice XA bb.length xm) := e2
      replace e3 : wr.cell? ⟨pb, po + 3, none⟩ = some (.slice KA kb.length km) := e3
      by_cases h200 : bb.length ≤ 200
      · by_cases h100 : kb.length ≤ 100
        · have hq1 : decide (200 < (bb.length : Int)) = false := by simp; omega
          have hq2 : decide (100 < (kb.length : Int)) = false := by simp; omega
          go_upto_block 2 with fail
          obtain ⟨F, G, L, Q, hY⟩ := LY.start (op := op) (p1 := .int .i64 I) (p2 := .slice XA bb.length xm) (p3 := .slice KA kb.length km) HR.out
          have HY := Lib.hid hY
          have c1 := hY.c1
          have c2 := hY.c2
          have c3 := hY.c3
          clear hY e0 e1 e2 e3
          have hj40 : j ≤ 40 := by omega
          have hQ : Q.length ≤ 1000000 := Nat.le_trans (HY.out).q (by omega)
          generalize wr.alloc (.cells #[.int .i64 op, .int .i64 I, .slice XA bb.length xm, .slice KA kb.length km] 34) = wa at HY c1 c2 c3 ⊢
          generalize wr.heap.size = B at HY c1 c2 c3 ⊢
          go_cut [5] from 73 to 115 (fun s5 wx => LQ w k rm (j + 1) B (.int .i64 I) s5 wx)
          case first =>
            by_cases o1 : op = 1
            · subst o1
              go_upto_region 19 with fail
              have HYd := Lib.hid ((HY.out).below ((Below.refl _ wa).drew))
              have hqj := (HY.out).q
              clear HY c1 c2 c3
              refine wp_region_noPanic ?_
              refine wp_region_held_drew (S := (fun w => w.cell? ⟨B, 1, none⟩ = some (.int .i64 I) ∧ w.cell? ⟨B, 2, none⟩ = some (.slice XA bb.length xm))) (by kernel_rfl) ?_ (fun hHeld => ?_)
              · exact ⟨(HYd.out).c1, (HYd.out).c2⟩
              refine wpAnyH_take (i := 0) (oi := { dst := some 75, op := Op.move (Operand.tmp 5), type := 24, pos := "law.go:79", after := #[], guard := none }) (v := ?_) rfl (by kernel_rfl) (by kernel_rfl) (by kernel_rfl) (fun _ _ _ h => h) (Or.inl ⟨by rfl, ?_⟩) (by assumption) ?_
              rotate_left
              · (intro w hSw; (try dsimp only at hSw); go_simp; try with_reducible rfl)
              try simp only [Act.put, List.setIfInBounds_toArray, List.set_cons_zero, List.set_cons_succ]
              refine wpAnyH_take (i := 1) (oi := { dst := some 76, op := Op.fieldAddr 34 (Operand.tmp 10) 1, type := 0, pos := "law.go:79", after := #[], guard := none }) (v := ?_) rfl (by kernel_rfl) (by kernel_rfl) (by kernel_rfl) (fun _ _ _ h => h) (Or.inl ⟨by rfl, ?_⟩) (by assumption) ?_
              rotate_left
              · (intro w hSw; (try dsimp only at hSw); go_simp; try with_reducible rfl)
              try simp only [Act.put, List.setIfInBounds_toArray, List.set_cons_zero, List.set_cons_succ]
              refine wpAnyH_take (i := 2) (oi := { dst := some 77, op := Op.load 3 (Operand.tmp 76), type := 3, pos := "law.go:79", after := #[{ on := 1, ground := Ground.data }], guard := none }) (v := ?_) rfl (by kernel_rfl) (by kernel_rfl) (by kernel_rfl) (fun _ _ _ h => h) (Or.inl ⟨by rfl, ?_⟩) (by assumption) ?_
              rotate_left
              · (intro w hSw; (try dsimp only at hSw); go_simp; try with_reducible rfl)
              try simp only [Act.put, List.setIfInBounds_toArray, List.set_cons_zero, List.set_cons_succ]
              refine wpAnyH_take (i := 3) (oi := { dst := some 78, op := Op.fieldAddr 34 (Operand.tmp 10) 2, type := 0, pos := "law.go:79", after := #[], guard := none }) (v := ?_) rfl (by kernel_rfl) (by kernel_rfl) (by kernel_rfl) (fun _ _ _ h => h) (Or.inl ⟨by rfl, ?_⟩) (by assumption) ?_
              rotate_left
              · (intro w hSw; (try dsimp only at hSw); go_simp; try with_reducible rfl)
              try simp only [Act.put, List.setIfInBounds_toArray, List.set_cons_zero, List.set_cons_succ]
              refine wpAnyH_take (i := 4) (oi := { dst := some 79, op := Op.load 31 (Operand.tmp 78), type := 31, pos := "law.go:79", after := #[{ on := 3, ground := Ground.data }], guard := none }) (v := ?_) rfl (by kernel_rfl) (by kernel_rfl) (by kernel_rfl) (fun _ _ _ h => h) (Or.inl ⟨by rfl, ?_⟩) (by assumption) ?_
              rotate_left
              · (intro w hSw; (try dsimp only at hSw); go_simp; try with_reducible rfl)
              try simp only [Act.put, List.setIfInBounds_toArray, List.set_cons_zero, List.set_cons_succ]
              refine wpAnyH_take (i := 6) (oi := { dst := some 81, op := Op.move (Operand.tmp 7), type := 28, pos := "law.go:79", after := #[], guard := none }) (v := ?_) rfl (by kernel_rfl) (by kernel_rfl) (by kernel_rfl) (fun _ _ _ h => h) (Or.inl ⟨by rfl, ?_⟩) (by assumption) ?_
              rotate_left
              · (intro w hSw; (try dsimp only at hSw); go_simp; try with_reducible rfl)
              try simp only [Act.put, List.setIfInBounds_toArray, List.set_cons_zero, List.set_cons_succ]
              refine wpAnyH_take (i := 7) (oi := { dst := some 82, op := Op.fieldAddr 34 (Operand.tmp 10) 1, type := 0, pos := "law.go:79", after := #[], guard := none }) (v := ?_) rfl (by kernel_rfl) (by kernel_rfl) (by kernel_rfl) (fun _ _ _ h => h) (Or.inl ⟨by rfl, ?_⟩) (by assumption) ?_
              rotate_left
              · (intro w hSw; (try dsimp only at hSw); go_simp; try with_reducible rfl)
              try simp only [Act.put, List.setIfInBounds_toArray, List.set_cons_zero, List.set_cons_succ]
              refine wpAnyH_take (i := 8) (oi := { dst := some 83, op := Op.load 3 (Operand.tmp 82), type := 3, pos := "law.go:79", after := #[{ on := 7, ground := Ground.data }], guard := none }) (v := ?_) rfl (by kernel_rfl) (by kernel_rfl) (by kernel_rfl) (fun _ _ _ h => h) (Or.inl ⟨by rfl, ?_⟩) (by assumption) ?_
              rotate_left
              · (intro w hSw; (try dsimp only at hSw); go_simp; try with_reducible rfl)
              try simp only [Act.put, List.setIfInBounds_toArray, List.set_cons_zero, List.set_cons_succ]
              refine wpAnyH_take (i := 9) (oi := { dst := some 84, op := Op.fieldAddr 34 (Operand.tmp 10) 2, type := 0, pos := "law.go:79", after := #[], guard := none }) (v := ?_) rfl (by kernel_rfl) (by kernel_rfl) (by kernel_rfl) (fun _ _ _ h => h) (Or.inl ⟨by rfl, ?_⟩) (by assumption) ?_
              rotate_left
              · (intro w hSw; (try dsimp only at hSw); go_simp; try with_reducible rfl)
              try simp only [Act.put, List.setIfInBounds_toArray, List.set_cons_zero, List.set_cons_succ]
              refine wpAnyH_take (i := 10) (oi := { dst := some 85, op := Op.load 31 (Operand.tmp 84), type := 31, pos := "law.go:79", after := #[{ on := 9, ground := Ground.data }], guard := none }) (v := ?_) rfl (by kernel_rfl) (by kernel_rfl) (by kernel_rfl) (fun _ _ _ h => h) (Or.inl ⟨by rfl, ?_⟩) (by assumption) ?_
              rotate_left
              · (intro w hSw; (try dsimp only at hSw); go_simp; try with_reducible rfl)
              try simp only [Act.put, List.setIfInBounds_toArray, List.set_cons_zero, List.set_cons_succ]
              refine wpAnyH_ready (rs := [5]) (by kernel_rfl) (by simp) ?_
              refine AllReadyH.cons (o := { dst := some 80, op := Op.call { callee := Callee.value (Operand.func 13), args := #[Operand.tmp 75, Operand.tmp 77, Operand.tmp 79], argTypes := #[24, 3, 31] }, type := 25, pos := "law.go:79", after := #[{ on := 0, ground := Ground.data }, { on := 2, ground := Ground.data }, { on := 4, ground := Ground.data }], guard := none }) rfl (fun K hK => ?_) AllReadyH.nil
              go_simp
              refine (Try.dw_any (HYd.out).dv I XA bb xm (DataAt.of HX.out (HYd.out).bel (HYd.out).f) (by omega) hQ).mono ?_
              rintro e w1 ⟨rfl, F', h1, h2⟩
              dsimp only
              have HY1 := Lib.hid ((HYd.out).left (j' := j + 1) h1 h2 (Nat.le_trans (wqq_len _ _ _ _) (Nat.succ_le_succ (HYd.out).q)) (Nat.le_succ _))
              clear h1 h2 HYd
              refine hK.out _ _ ?_ (fun hHeld => ?_)
              · exact ⟨(HY1.out).c1, (HY1.out).c2⟩
              clear hK K
              try simp only [Act.put, List.setIfInBounds_toArray, List.set_cons_zero, List.set_cons_succ]
              refine wpAnyH_ready (rs := [11]) (by kernel_rfl) (by simp) ?_
              refine AllReadyH.cons (o := { dst := some 86, op := Op.call { callee := Callee.value (Operand.func 14), args := #[Operand.tmp 81, Operand.tmp 83, Operand.tmp 85], argTypes := #[28, 3, 31] }, type := 3, pos := "law.go:79", after := #[{ on := 6, ground := Ground.data }, { on := 8, ground := Ground.data }, { on := 10, ground := Ground.data }, { on := 5, ground := Ground.chain }], guard := none }) rfl (fun K hK => ?_) AllReadyH.nil
              go_simp
              refine (Try.rw_any (HY1.out).rv I XA bb xm (DataAt.of HX.out (HY1.out).bel (HY1.out).g) (by omega) hQ).mono ?_
              rintro e w2 ⟨rfl, G', h1, h2⟩
              dsimp only
              have HY2 := Lib.hid ((HY1.out).right (j' := j + 1) h1 h2 (Nat.le_trans (wqq_len _ _ _ _) (Nat.succ_le_succ hqj)) (Nat.le_refl _))
              clear h1 h2 HY1
              refine hK.out _ _ ?_ (fun hHeld => ?_)
              · exact ⟨(HY2.out).c1, (HY2.out).c2⟩
              clear hK K
              try simp only [Act.put, List.setIfInBounds_toArray, List.set_cons_zero, List.set_cons_succ]
              refine wpAnyH_take (i := 12) (oi := { dst := some 87, op := Op.binOp BinOp.neq 3 (Operand.tmp 80) (Operand.tmp 86) 3, type := 4, pos := "law.go:79", after := #[{ on := 5, ground := Ground.data }, { on := 11, ground := Ground.data }], guard := none }) (v := ?_) rfl (by kernel_rfl) (by kernel_rfl) (by kernel_rfl) (fun _ _ _ h => h) (Or.inl ⟨by rfl, ?_⟩) (by assumption) ?_
              rotate_left
              · (intro w hSw; (try dsimp only at hSw); go_simp; try with_reducible rfl)
              try simp only [Act.put, List.setIfInBounds_toArray, List.set_cons_zero, List.set_cons_succ]
              refine wpAnyH_done (by kernel_rfl) ?_ _
              refine NoPanic.normal ?_
              clear hqj
              go_wp2_with fail
              go_meet
              exact (HY2.out).done (wtt_dset _ _ _ _ _) (Nat.le_refl _)
            · by_cases o2 : op = 2
              · subst o2
                go_wp2_with fail
                obtain ⟨lb, cl, tb, ct, vw, ds, hdw⟩ := (HY.out).dv
                refine (Try.sync hdw hQ).mono ?_
                rintro e w1 hs
                have hu := hs.upd
                obtain ⟨rfl, hdw', _⟩ := hs
                have HY1 := Lib.hid ((HY.out).left ⟨_, _, _, _, _, _, hdw'⟩ hu (Nat.zero_le _) (Nat.le_refl _))
                clear hu hdw' hdw c1 c2 c3
                go_wp2_with fail
                obtain ⟨db, dc, A, wc, es, hrw⟩ := (HY1.out).rv
                refine (Try.rsync hrw hQ).mono ?_
                rintro e w2 ⟨rfl, G', h1, h2, _⟩
                have HY2 := Lib.hid ((HY1.out).right h1 h2 (Nat.zero_le _) (Nat.le_refl _))
                clear h1 h2 hrw
                go_wp2_with fail
                go_meet
                exact (HY2.out).done rfl (Nat.le_succ _)
              · by_cases o3 : op = 3
                · subst o3
                  go_wp2_with fail
                  obtain ⟨lb, cl, tb, ct, vw, ds, hdw⟩ := (HY.out).dv
                  refine (Try.crash hdw hQ KA kb km hkb ((HK.out).bel (HY.out).bel) ((HK.out).out (HY.out).f)).mono ?_
                  rintro e w1 ⟨rfl, F', h1, h2⟩
                  have HY1 := Lib.hid ((HY.out).left h1 h2 (Nat.zero_le _) (Nat.le_refl _))
                  clear h1 h2 hdw c1 c2 c3
                  have c3 := (HY1.out).c3
                  go_wp2_with fail
                  obtain ⟨db, dc, A, wc, es, hrw⟩ := (HY1.out).rv
                  refine (Try.rcrash hrw hQ KA kb km hkb ((HK.out).bel (HY1.out).bel)).mono ?_
                  rintro e w2 ⟨rfl, G', h1, h2, _⟩
                  have HY2 := Lib.hid ((HY1.out).right h1 h2 (Nat.zero_le _) (Nat.le_refl _))
                  clear h1 h2 hrw c3
                  go_wp2_with fail
                  go_meet
                  exact (HY2.out).done rfl (Nat.le_succ _)
                · by_cases o4 : op = 4
                  · subst o4
                    clear c1 c2 c3
                    go_wp2_with fail
                    obtain ⟨lb, cl, tb, ct, vw, ds, hdw⟩ := (HY.out).dv
                    refine (Try.twin hdw hQ).mono ?_
                    rintro e w1 ⟨d', rfl, F2, hd2, hc2, hF2⟩
                    have OLD := Lib.hid ((HY.out).dv.stay hc2 (fun _ _ => id))
                    have D2 := Lib.hid hd2
                    have C2 := Lib.hid hc2
                    have F2H := Lib.hid hF2
                    clear hd2 hc2 hF2 hdw
                    go_wp2_with fail
                    refine (Try.full 9 _).mono ?_
                    rintro e w2 ⟨fb, fc, rfl, z1, z2, z3, z4⟩
                    have OLD2 := Lib.hid ((OLD.out).stay (Chg.below z4 (fun _ => False)) (fun _ _ => id))
                    have FB := Lib.hid z3
                    have Z4 := Lib.hid z4
                    have FN : Hid (¬ F fb) := Lib.hid (fun q => by have := (OLD.out).lt _ q; omega)
                    clear z1 z2 z3 z4 OLD
                    go_wp2_with fail
                    refine (Try.dw_any (OLD2.out) 0 (some ⟨fb, 0, none⟩) (List.replicate 64 9) fc (fun _ => ⟨_, rfl, (FB.out).all, FN.out⟩) (by simp) hQ).mono ?_
                    rintro e w3 ⟨rfl, F3, h1, h2⟩
                    have U3 := Lib.hid h2
                    have OLD3 := Lib.hid h1
                    have hQ3 : (wqq k 0 (List.replicate 64 9) Q).length ≤ 1000000 := by have := wqq_len k 0 (List.replicate 64 9) Q; have := (HY.out).q; omega
                    clear h1 h2 OLD2 FB FN
                    go_wp2_with fail
                    obtain ⟨lb, cl, tb, ct, vw, ds, hdw⟩ := (OLD3.out)
                    refine (Try.sync hdw hQ3).mono ?_
                    rintro e w4 hs
                    have hu := hs.upd
                    obtain ⟨rfl, _, _⟩ := hs
                    have HYn := Lib.hid (twin_far (HY.out) (D2.out) (C2.out) (F2H.out) (Z4.out) (U3.out) hu)
                    clear hu hdw
                    go_wp2_with fail
                    go_meet
                    exact (HYn.out).done rfl (Nat.le_succ _)
                  · have q1 : (op == 1) = false := by simpa using o1
                    have q2 : (op == 2) = false := by simpa using o2
                    have q3 : (op == 3) = false := by simpa using o3
                    have q4 : (op == 4) = false := by simpa using o4
                    clear o1 o2 o3 o4 c2 c3
                    go_wp2_with fail
                    go_meet
                    exact (HY.out).done rfl (Nat.le_succ _)
          case rest =>
            obtain ⟨d', rfl, hr', c1⟩ := hcut
            have HR' := Lib.hid hr'
            clear hr' HY c2 c3
            have hj41 : j + 1 ≤ 100 := by omega
            obtain ⟨⟨F', G', L', Q', s1, s2, s3, s4⟩, s5⟩ := HR'.out
            have hq1' : Q'.length ≤ 1000000 := by omega
            have S1 := Lib.hid s1
            have S2 := Lib.hid s2
            have C1 := Lib.hid c1
            clear s1 s2 s3 s4 s5
            go_wp2_with fail
            refine (Try.rd_any (S1.out) I).mono ?_
            rintro e w1 ⟨v1, rfl, b1, x1⟩
            have B1 := Lib.hid b1
            have X1 := Lib.hid x1
            have R1 := Lib.hid ((HR'.out).below b1)
            have c1' : w1.cell? ⟨B, 1, none⟩ = some (.int .i64 I) := cellW c1 b1
            have S2' := Lib.hid ((S2.out).stay (Chg.below b1 (fun _ => False)) (fun _ _ => id))
            clear b1 x1 c1 HR' S1 S2 C1
            go_wp2_with fail
            refine (Try.rrd_any (S2'.out) hq1' I).mono ?_
            rintro e w2 ⟨v2, rfl, b2, x2⟩
            have y1 := (X1.out) w2 b2
            have y2 := x2 w2 (Below.refl _ _)
            have R2 := Lib.hid ((R1.out).below b2)
            clear b2 x2 c1' S2' B1 X1 R1
            go_wp2_with fail
            refine (Try.same' (R2.out) hj41).mono ?_
            rintro e w3 ⟨rfl, b3⟩
            have R3 := Lib.hid ((R2.out).below b3)
            clear b3 y1 y2 R2
            go_wp2_with fail
            go_roundw
            case rel => exact ⟨j + 1, d', by omega, rfl, rfl, R3.out⟩
            case measure => simp [intOf]; omega
        · have hq1 : decide (200 < (bb.length : Int)) = false := by simp; omega
          have hq2 : decide (100 < (kb.length : Int)) = true := by simp; omega
          go_wp2_with fail
          obtain ⟨F, G, L, Q, hY⟩ := LY.start (op := op) (p1 := .int .i64 I) (p2 := .slice XA bb.length xm) (p3 := .slice KA kb.length km) HR.out
          have HB := Lib.hid hY.bel
          clear hY
          go_ret
          exact ⟨rfl, HB.out⟩
      · have hq1 : decide (200 < (bb.length : Int)) = true := by simp; omega
        go_wp2_with fail
        obtain ⟨F, G, L, Q, hY⟩ := LY.start (op := op) (p1 := .int .i64 I) (p2 := .slice XA bb.length xm) (p3 := .slice KA kb.length km) HR.out
        have HB := Lib.hid hY.bel
        clear hY
        go_ret
        exact ⟨rfl, HB.out⟩
    · obtain rfl : j = n := by omega
      have hD : decide ((j : Int) < j) = false := by simp
      have HE := Lib.hid hR.bel
      clear hR
      go_wp2
      go_ret
      exact ⟨rfl, HE.out⟩
end Go.Proofs
