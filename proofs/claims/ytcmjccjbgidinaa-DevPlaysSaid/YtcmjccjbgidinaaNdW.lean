/-
  Texts of a proof over the translated program: NdW.
-/
import Derived.Test.YtcmjccjbgidinaaNdF
import Derived.Test.YtcmjccjbgidinaaNdG
import Derived.Test.YtcmjccjbgidinaaNdK
import Derived.Test.YtcmjccjbgidinaaNdS
import Derived.Deep.RegionHeld3
set_option linter.unusedVariables false
set_option linter.unnecessarySimpa false
set_option linter.unusedSimpArgs false
namespace Go.Proofs
open Go.RowKit
set_option maxRecDepth 100000
def YesW (w : World) (e : Ending) (w' : World) : Prop := e = .returned (.bool true) ∧ Below w.heap.size w w'
def Disj (F G : Nat → Prop) : Prop := ∀ b, F b → G b → False
theorem DV.lt {w : World} {F : Nat → Prop} {d k : Nat} {L T : List UInt8} {Q : List (Nat × List UInt8)} (h : DV w F d k L T Q) : ∀ b, F b → b < w.heap.size := by
  obtain ⟨lb, cl, tb, ct, vw, ds, h⟩ := h
  exact h.lt
theorem DV.other {w w' : World} {F F1 F1' : Nat → Prop} {d k : Nat} {L T : List UInt8} {Q : List (Nat × List UInt8)} (h : DV w F d k L T Q) (hu : Upd w w' F1 F1') (hx : Disj F1 F) : DV w' F d k L T Q ∧ Disj F1' F := by
  refine ⟨h.stay (S := F1) ⟨hu.os, hu.tape, hu.output, hu.size, hu.block⟩ (fun b hb q => hx b q hb), fun b h1 h2 => ?_⟩
  rcases hu.grow b h1 with q | q
  · exact hx b q h2
  · have := h.lt b h2
    omega
theorem cellW {w W : World} {p : Addr} {v : Value} (h : w.cell? p = some v) (hb : Below w.heap.size w W) : W.cell? p = some v := (hb.cell (block_lt_of_cell h)).trans h
theorem Upd.belowW {w w' : World} {F F' : Nat → Prop} (h : Upd w w' F F') {B : Nat} (hF : ∀ b, F b → B ≤ b) (hB : B ≤ w.heap.size) : Below B w w' :=
  ⟨h.os, h.tape, h.output, h.size, fun b hb => h.block b (by omega) (fun q => by have := hF b q; omega)⟩
theorem Upd.lowW {w w' : World} {F F' : Nat → Prop} (h : Upd w w' F F') {B : Nat} (hF : ∀ b, F b → B ≤ b) (hB : B ≤ w.heap.size) : ∀ b, F' b → B ≤ b := fun b hb => by
  rcases h.grow b hb with q | q
  · exact hF b q
  · omega
theorem fullW (z : Int) (x : UInt8) (hz : z = (x.toNat : Int)) (w : World) : Calls Try.prog 20 #[.int .u8 z] w (Cloned w 64 (List.replicate 64 x)) := by
  subst hz; exact Try.full x w
/-- One device after so many writes. -/
structure RA (w0 : World) (d : Nat) (L0 : List UInt8) (j : Nat) (wr : World) : Prop where
  ex : ∃ F T Q, DV wr F d 6 L0 T Q ∧ Q.length = j ∧ ∀ b, F b → w0.heap.size ≤ b
  bel : Below w0.heap.size w0 wr
/-- Three devices, the second one written to. -/
structure RB (w0 : World) (d t u : Nat) (L0 T : List UInt8) (Q : List (Nat × List UInt8)) (j : Nat) (wr : World) : Prop where
  ex : ∃ Fd Ft Fu Tt Qt, DV wr Fd d 6 L0 T Q ∧ DV wr Ft t 6 L0 Tt Qt ∧ DV wr Fu u 6 L0 T Q ∧ Qt.length = j ∧ Disj Ft Fd ∧ Disj Ft Fu ∧ Disj Fd Fu ∧ (∀ b, Fd b → w0.heap.size ≤ b) ∧ (∀ b, Ft b → w0.heap.size ≤ b) ∧ (∀ b, Fu b → w0.heap.size ≤ b)
  bel : Below w0.heap.size w0 wr
theorem TwinAt.below {w w' : World} {k d : Nat} {L T : List UInt8} {Q : List (Nat × List UInt8)} (h : TwinAt w k L T Q d w') : Below w.heap.size w w' := by
  obtain ⟨F, _, h, _⟩ := h
  exact ⟨h.os, h.tape, h.output, h.size, fun b hb => h.block b hb id⟩
theorem rb_start {w wr w1 w2 : World} {d t u : Nat} {F : Nat → Prop} {L0 T : List UInt8} {Q : List (Nat × List UInt8)} (hd : DV wr F d 6 L0 T Q) (hF : ∀ b, F b → w.heap.size ≤ b) (hbel : Below w.heap.size w wr) (h1 : TwinAt wr 6 L0 T Q t w1) (h2 : TwinAt w1 6 L0 T Q u w2) :
    RB w d t u L0 T Q Q.length w2 := by
  have hb1 := h1.below
  have hb2 := h2.below
  obtain ⟨Ft, ht, c1, f1⟩ := h1
  obtain ⟨Fu, hu, c2, f2⟩ := h2
  have s1 := hbel.size
  have s2 := c1.size
  refine ⟨⟨F, Ft, Fu, T, Q, (hd.stay c1 (fun _ _ => id)).stay c2 (fun _ _ => id), ht.stay c2 (fun _ _ => id), hu, rfl, fun b q1 q2 => ?_, fun b q1 q2 => ?_, fun b q1 q2 => ?_, hF, fun b q => ?_, fun b q => ?_⟩, (hbel.trans (hb1.mono s1)).trans (hb2.mono (Nat.le_trans s1 s2))⟩
  · have := hd.lt b q2; have := f1 b q1; omega
  · have := ht.lt b q1; have := f2 b q2; omega
  · have := hd.lt b q1; have := f2 b q2; omega
  · have := f1 b q; omega
  · have := f2 b q; omega
/-- Three devices, each for itself. -/
structure R3 (w0 wr : World) (d t u : Nat) (Ld Td : List UInt8) (Qd : List (Nat × List UInt8)) (Lt Tt : List UInt8) (Qt : List (Nat × List UInt8)) (Lu Tu : List UInt8) (Qu : List (Nat × List UInt8)) (Fd Ft Fu : Nat → Prop) : Prop where
  d : DV wr Fd d 6 Ld Td Qd
  t : DV wr Ft t 6 Lt Tt Qt
  u : DV wr Fu u 6 Lu Tu Qu
  x1 : Disj Ft Fd
  x2 : Disj Ft Fu
  x3 : Disj Fd Fu
  y1 : ∀ b, Fd b → w0.heap.size ≤ b
  y2 : ∀ b, Ft b → w0.heap.size ≤ b
  y3 : ∀ b, Fu b → w0.heap.size ≤ b
  bel : Below w0.heap.size w0 wr
section
variable {w0 wr w' : World} {d t u : Nat} {Ld Td Lt Tt Lu Tu L' T' : List UInt8} {Qd Qt Qu Q' : List (Nat × List UInt8)} {Fd Ft Fu F' : Nat → Prop}
theorem Disj.symm {F G : Nat → Prop} (h : Disj F G) : Disj G F := fun b x y => h b y x
theorem R3.below (h : R3 w0 wr d t u Ld Td Qd Lt Tt Qt Lu Tu Qu Fd Ft Fu) (hb : Below wr.heap.size wr w') : R3 w0 w' d t u Ld Td Qd Lt Tt Qt Lu Tu Qu Fd Ft Fu :=
  ⟨h.d.stay (Chg.below hb (fun _ => False)) (fun _ _ => id), h.t.stay (Chg.below hb (fun _ => False)) (fun _ _ => id), h.u.stay (Chg.below hb (fun _ => False)) (fun _ _ => id), h.x1, h.x2, h.x3, h.y1, h.y2, h.y3, h.bel.trans (hb.mono h.bel.size)⟩
theorem R3.onT (h : R3 w0 wr d t u Ld Td Qd Lt Tt Qt Lu Tu Qu Fd Ft Fu) (hd : DV w' F' t 6 L' T' Q') (hu : Upd wr w' Ft F') : R3 w0 w' d t u Ld Td Qd L' T' Q' Lu Tu Qu Fd F' Fu := by
  obtain ⟨a1, a2⟩ := h.d.other hu h.x1
  obtain ⟨b1, b2⟩ := h.u.other hu h.x2
  exact ⟨a1, hd, b1, a2, b2, h.x3, h.y1, hu.lowW h.y2 h.bel.size, h.y3, h.bel.trans (hu.belowW h.y2 h.bel.size)⟩
theorem R3.onU (h : R3 w0 wr d t u Ld Td Qd Lt Tt Qt Lu Tu Qu Fd Ft Fu) (hd : DV w' F' u 6 L' T' Q') (hu : Upd wr w' Fu F') : R3 w0 w' d t u Ld Td Qd Lt Tt Qt L' T' Q' Fd Ft F' := by
  obtain ⟨a1, a2⟩ := h.d.other hu h.x3.symm
  obtain ⟨b1, b2⟩ := h.t.other hu h.x2.symm
  exact ⟨a1, b1, hd, h.x1, b2.symm, a2.symm, h.y1, h.y2, hu.lowW h.y3 h.bel.size, h.bel.trans (hu.belowW h.y3 h.bel.size)⟩
theorem R3.onD (h : R3 w0 wr d t u Ld Td Qd Lt Tt Qt Lu Tu Qu Fd Ft Fu) (hd : DV w' F' d 6 L' T' Q') (hu : Upd wr w' Fd F') : R3 w0 w' d t u L' T' Q' Lt Tt Qt Lu Tu Qu F' Ft Fu := by
  obtain ⟨a1, a2⟩ := h.t.other hu h.x1.symm
  obtain ⟨b1, b2⟩ := h.u.other hu h.x3
  exact ⟨hd, a1, b1, a2.symm, h.x2, b2, hu.lowW h.y1 h.bel.size, h.y2, h.y3, h.bel.trans (hu.belowW h.y1 h.bel.size)⟩
end
theorem ra_next {w wr w4 w5 : World} {d j bi : Nat} {F F5 : Nat → Prop} {L0 T' : List UInt8} {Q : List (Nat × List UInt8)} {bb : List UInt8} (hQ : Q.length = j) (hF : ∀ b, F b → w.heap.size ≤ b) (hbel : Below w.heap.size w wr) (h4 : Below wr.heap.size wr w4) (hd : DV w5 F5 d 6 L0 T' (Q ++ [(bi, bb)])) (hu : Upd w4 w5 F F5) : RA w d L0 (j + 1) w5 := by
  have b4 := hbel.trans (h4.mono hbel.size)
  exact ⟨⟨F5, T', Q ++ [(bi, bb)], hd, by simp [hQ], hu.lowW hF b4.size⟩, b4.trans (hu.belowW hF b4.size)⟩
theorem rb_next {w wr w4 w5 : World} {d t u j bi : Nat} {Fd Ft Fu F5 : Nat → Prop} {L0 T T' : List UInt8} {Q Qt : List (Nat × List UInt8)} {bb : List UInt8} (hQ : Qt.length = j) (hd : DV wr Fd d 6 L0 T Q) (hu' : DV wr Fu u 6 L0 T Q) (x1 : Disj Ft Fd) (x2 : Disj Ft Fu) (x3 : Disj Fd Fu)
    (y1 : ∀ b, Fd b → w.heap.size ≤ b) (y2 : ∀ b, Ft b → w.heap.size ≤ b) (y3 : ∀ b, Fu b → w.heap.size ≤ b) (hbel : Below w.heap.size w wr) (h4 : Below wr.heap.size wr w4) (ht : DV w5 F5 t 6 L0 T' (Qt ++ [(bi, bb)])) (hu : Upd w4 w5 Ft F5) : RB w d t u L0 T Q (j + 1) w5 := by
  have b4 := hbel.trans (h4.mono hbel.size)
  have d4 := hd.stay (Chg.below h4 (fun _ => False)) (fun _ _ => id)
  have u4 := hu'.stay (Chg.below h4 (fun _ => False)) (fun _ _ => id)
  obtain ⟨d5, q1⟩ := d4.other hu x1
  obtain ⟨u5, q2⟩ := u4.other hu x2
  exact ⟨⟨Fd, F5, Fu, T', Qt ++ [(bi, bb)], d5, ht, u5, by simp [hQ], q1, q2, x3, y1, hu.lowW y2 b4.size, y3⟩, b4.trans (hu.belowW y2 b4.size)⟩
set_option maxHeartbeats 2000000 in
theorem Try.twins (w : World) (xa xb : Option Addr) (n1 m1 n2 m2 : Nat) (la lb8 : Nat → UInt8) (hn1 : n1 ≤ 40) (hn2 : n2 ≤ 40) (hl1 : ∀ i, i < n1 → ∃ a, xa = some a ∧ w.cell? (a.add i) = some (u8v (la i))) (hl2 : ∀ i, i < n2 → ∃ a, xb = some a ∧ w.cell? (a.add i) = some (u8v (lb8 i)))
    (A : Option Addr) (keep : List Bool) (mk : Nat) (hk : keep.length ≤ 9223372036854775807) (hkc : ∀ i, i < keep.length → ∃ a, A = some a ∧ w.cell? (a.add i) = some (.bool (keep.getD i false))) :
    Calls Try.prog 6 #[.slice xa n1 m1, .slice xb n2 m2, .slice A keep.length mk] w (YesW w) := by
  have HL1 := Lib.hid hl1
  have HL2 := Lib.hid hl2
  have HKC := Lib.hid hkc
  clear hl1 hl2 hkc
  have hq1 : decide (40 < (n1 : Int)) = false := by simp; omega
  have hq2 : decide (40 < (n2 : Int)) = false := by simp; omega
  go_enter Try.func6, Try.ntmps6
  go_wp2_with fail
  refine (Try.known10 _).mono ?_
  rintro e w1 ⟨rfl, hb1⟩
  have HB := Lib.hid hb1
  clear hb1
  go_wp2_with fail
  refine (Try.new_good 6 (by omega) (by omega) _).mono ?_
  rintro e w2 ⟨v, rfl, d, F, rfl, hd, hb2, hF⟩
  have H0 : Hid (RA w d (List.replicate (64 * 6) 0) 0 w2) := Lib.hid ⟨⟨F, _, [], hd, rfl, fun b q => Nat.le_trans (HB.out).size (hF b q)⟩, (HB.out).trans (hb2.mono (HB.out).size)⟩
  clear hd hb2 hF
  go_wp2
  go_loopw [9] (fun t wr => ∃ j : Nat, j ≤ n1 ∧ t = .int .i64 j ∧ RA w d (List.replicate (64 * 6) 0) j wr) (fun t _ => n1 - (intOf t).toNat)
  case atStart => exact ⟨0, Nat.zero_le _, rfl, H0.out⟩
  case round =>
    obtain ⟨j, hj, rfl, hR⟩ := hrel
    by_cases hlt : j < n1
    · have hD : decide ((j : Int) < n1) = true := by simpa using hlt
      obtain ⟨⟨F, T, Q, ⟨lb, cl, tb, ct, vw, ds, hd⟩, hQ, hF⟩, hbel⟩ := hR
      obtain ⟨a, rfl, ha⟩ := (HL1.out) j hlt
      have hcl := cellW ha hbel
      unfold u8v at hcl ha
      have HA := Lib.hid ha
      obtain ⟨bi, hbi⟩ : ∃ bi : Nat, ((la j).toNat : Int) % 6 = (bi : Int) := ⟨(la j).toNat % 6, by omega⟩
      have hbi8 : bi < 6 := by omega
      have hz0 : 0 ≤ ((la j).toNat : Int) := by omega
      have hz1 : ((la j).toNat : Int) ≤ 255 := by have := (la j).toNat_lt; omega
      have HD := Lib.hid hd
      have HQ := Lib.hid hQ
      have HQ6 : Hid (Q.length ≤ 1000000) := Lib.hid (by rw [hQ]; omega)
      have HF := Lib.hid hF
      have HBL := Lib.hid hbel
      clear hd hQ hF hbel ha
      generalize hzz : (la j).toNat = zn at *
      generalize hzq : (zn : Int) = z at *
      have HZ : Hid (z = ((la j).toNat : Int)) := Lib.hid (by rw [hzz, hzq])
      clear hzz hzq
      go_wp2
      have hcd : Hid (wr.drew.cell? (a.add j) = some (.int .u8 z)) := Lib.hid hcl
      have htm : z.tmod 6 = (bi : Int) := by rw [Int.tmod_eq_emod_of_nonneg hz0]; exact hbi
      have hwb : IntKind.i64.wrap (bi : Int) = (bi : Int) := by rw [IntKind.wrap_i64]; omega
      go_region_held3 (fun W => W.cell? (a.add j) = some (.int .u8 z)) (first | exact hcd.out | exact h5c.out | exact h4c.out) (first
        | (refine step_open rfl ?_; go_simp; go_at_call 20; (with_reducible refine (fullW z (la j) HZ.out _).mono ?_); rintro e w4 ⟨fb, fc, rfl, f1, f2, f3, f4⟩; dsimp only
           have k4 : Below wr.heap.size wr w4 := ⟨f4.os, f4.tape, f4.output, f4.size, f4.block⟩
           have HD4 := Lib.hid ((HD.out).keep (Chg.below k4 (fun _ => False)) (fun _ _ => id))
           have hFa := f3.all
           have hfF : ¬ F fb := fun q => by have := (HD.out).lt fb q; have : wr.heap.size ≤ fb := f1; omega
           have K4 := Lib.hid k4
           have h4c : Hid (w4.cell? (a.add j) = some (.int .u8 z)) := Lib.hid (cellW HA.out ((HBL.out).trans (k4.mono (HBL.out).size)))
           clear f1 f3 f4 k4)
        | (refine step_open rfl ?_; go_simp; go_at_call 13; refine (Try.dwrite w4 F d 6 lb cl tb ct vw ds (List.replicate (64 * 6) 0) _ _ HD4.out bi hbi8 ⟨fb, 0, none⟩ fc (List.replicate 64 (la j)) List.length_replicate hFa hfF HQ6.out).mono ?_; rintro e w5 ⟨rfl, F5, hd5, hu5⟩; dsimp only
           have HD5 := Lib.hid hd5
           have HU5 := Lib.hid hu5
           have b5 : Below w.heap.size w w5 := ((HBL.out).trans ((K4.out).mono (HBL.out).size)).trans (hu5.belowW HF.out (Nat.le_trans (HBL.out).size (K4.out).size))
           have h5c : Hid (w5.cell? (a.add j) = some (.int .u8 z)) := Lib.hid (cellW HA.out b5)
           clear b5 hd5 hu5))
      clear htm hwb
      have HN := Lib.hid (ra_next HQ.out HF.out HBL.out K4.out HD5.out HU5.out)
      go_wp2
      go_roundw
      case rel => exact ⟨j + 1, by omega, by go_num, HN.out⟩
      case measure => simp [intOf]; omega
    · obtain rfl : j = n1 := by omega
      have hD : decide ((j : Int) < j) = false := by simp
      obtain ⟨⟨F, T, Q, ⟨lb, cl, tb, ct, vw, ds, hd⟩, hQ, hF⟩, hbel⟩ := hR
      have HD := Lib.hid hd
      have HQ := Lib.hid hQ
      have HQ6 : Hid (Q.length ≤ 1000000) := Lib.hid (by rw [hQ]; omega)
      have HF := Lib.hid hF
      have HBL := Lib.hid hbel
      clear hd hQ hF hbel
      go_wp2_with fail
      refine (Try.twin HD.out HQ6.out).mono ?_
      rintro e w3 ⟨t, rfl, h3⟩
      have HT3 := Lib.hid h3
      have HD3 : Hid (DW w3 F d 6 lb cl tb ct vw ds (List.replicate (64 * 6) 0) T Q) := Lib.hid ((HD.out).stay (Chg.below h3.below (fun _ => False)) (fun _ _ => id))
      clear h3
      go_wp2_with fail
      refine (Try.twin HD3.out HQ6.out).mono ?_
      rintro e w4 ⟨u, rfl, h4⟩
      have HR4 : Hid (RB w d t u (List.replicate (64 * 6) 0) T Q Q.length w4) := Lib.hid (rb_start ⟨lb, cl, tb, ct, vw, ds, HD.out⟩ HF.out HBL.out HT3.out h4)
      clear h4 HD HT3 HD3 HF
      go_wp2_with fail
      obtain ⟨⟨Fd, Ft, Fu, Tt, Qt, ⟨lb1, cl1, tb1, ct1, vw1, ds1, hd1⟩, ht1, hu1, r1, r2, r3, r4, r5, r6, r7⟩, hbel4⟩ := HR4.out
      refine (Try.bytes hd1).mono ?_
      rintro e w5 ⟨b5, c5, rfl, s1, s2, s3, s4⟩
      have HTl := Lib.hid hd1.Tl
      have HR5 : Hid (RB w d t u (List.replicate (64 * 6) 0) T Q Q.length w5) := Lib.hid ⟨⟨Fd, Ft, Fu, Tt, Qt, DV.stay ⟨lb1, cl1, tb1, ct1, vw1, ds1, hd1⟩ (Chg.below s4 (fun _ => False)) (fun _ _ => id), ht1.stay (Chg.below s4 (fun _ => False)) (fun _ _ => id), hu1.stay (Chg.below s4 (fun _ => False)) (fun _ _ => id), r1, r2, r3, r4, r5, r6, r7⟩, hbel4.trans (s4.mono hbel4.size)⟩
      have x5 := s3.str (64 * 6) hd1.Tl c5
      have x5' : (convert 31 9 (.slice (some ⟨b5, 0, none⟩) 384 c5)).run Try.prog w5 = .ok (.string (strOf T)) w5 := x5
      clear s1 s2 s3 s4 hd1 ht1 hu1 r1 r2 r3 r4 r5 r6 r7 hbel4 HR4 x5 Fd Ft Fu
      go_wp2
      clear x5'
      go_loopw [13] (fun tv wr => ∃ j2 : Nat, j2 ≤ n2 ∧ tv = .int .i64 j2 ∧ RB w d t u (List.replicate (64 * 6) 0) T Q (Q.length + j2) wr) (fun t _ => n2 - (intOf t).toNat)
      case atStart => exact ⟨0, Nat.zero_le _, rfl, HR5.out⟩
      case round =>
        obtain ⟨i, hi, rfl, hR⟩ := hrel
        by_cases hlt2 : i < n2
        · have hD2 : decide ((i : Int) < n2) = true := by simpa using hlt2
          obtain ⟨⟨Fd, F, Fu, Tt, Qt, hd1, ⟨lb, cl, tb, ct, vw, ds, hd⟩, hu1, r1, r2, r3, r4, r5, hF, r7⟩, hbel⟩ := hR
          obtain ⟨a, rfl, ha⟩ := (HL2.out) i hlt2
          have hcl := cellW ha hbel
          unfold u8v at hcl ha
          have HA := Lib.hid ha
          obtain ⟨bi, hbi⟩ : ∃ bi : Nat, ((lb8 i).toNat : Int) % 6 = (bi : Int) := ⟨(lb8 i).toNat % 6, by omega⟩
          have hbi8 : bi < 6 := by omega
          have hz0 : 0 ≤ ((lb8 i).toNat : Int) := by omega
          have hz1 : ((lb8 i).toNat : Int) ≤ 255 := by have := (lb8 i).toNat_lt; omega
          have HD := Lib.hid hd
          have HQ6 : Hid (Qt.length ≤ 1000000) := Lib.hid (by rw [r1]; have := HQ6.out; have := hn2; have := HQ.out; omega)
          have HF := Lib.hid hF
          have HBL := Lib.hid hbel
          have HX := Lib.hid (And.intro hd1 (And.intro hu1 (And.intro r2 (And.intro r3 (And.intro r4 (And.intro r5 r7))))))
          have HR1 := Lib.hid r1
          clear hd hF hbel ha hd1 hu1 r2 r3 r4 r5 r7 r1
          generalize hzz : (lb8 i).toNat = zn at *
          generalize hzq : (zn : Int) = z at *
          have HZ : Hid (z = ((lb8 i).toNat : Int)) := Lib.hid (by rw [hzz, hzq])
          clear hzz hzq
          go_wp2
          have hcd : Hid (wr.drew.cell? (a.add i) = some (.int .u8 z)) := Lib.hid hcl
          have htm : z.tmod 6 = (bi : Int) := by rw [Int.tmod_eq_emod_of_nonneg hz0]; exact hbi
          have hwb : IntKind.i64.wrap (bi : Int) = (bi : Int) := by rw [IntKind.wrap_i64]; omega
          go_region_held3 (fun W => W.cell? (a.add i) = some (.int .u8 z)) (first | exact hcd.out | exact h5c.out | exact h4c.out) (first
            | (refine step_open rfl ?_; go_simp; go_at_call 20; (with_reducible refine (fullW z (lb8 i) HZ.out _).mono ?_); rintro e w4 ⟨fb, fc, rfl, f1, f2, f3, f4⟩; dsimp only
               have k4 : Below wr.heap.size wr w4 := ⟨f4.os, f4.tape, f4.output, f4.size, f4.block⟩
               have HD4 := Lib.hid ((HD.out).keep (Chg.below k4 (fun _ => False)) (fun _ _ => id))
               have hFa := f3.all
               have hfF : ¬ F fb := fun q => by have := (HD.out).lt fb q; have : wr.heap.size ≤ fb := f1; omega
               have K4 := Lib.hid k4
               have h4c : Hid (w4.cell? (a.add i) = some (.int .u8 z)) := Lib.hid (cellW HA.out ((HBL.out).trans (k4.mono (HBL.out).size)))
               clear f1 f3 f4 k4)
            | (refine step_open rfl ?_; go_simp; go_at_call 13; refine (Try.dwrite w4 F t 6 lb cl tb ct vw ds (List.replicate (64 * 6) 0) _ _ HD4.out bi hbi8 ⟨fb, 0, none⟩ fc (List.replicate 64 (lb8 i)) List.length_replicate hFa hfF HQ6.out).mono ?_; rintro e w5 ⟨rfl, F5, hd5, hu5⟩; dsimp only
               have HD5 := Lib.hid hd5
               have HU5 := Lib.hid hu5
               have b5 : Below w.heap.size w w5 := ((HBL.out).trans ((K4.out).mono (HBL.out).size)).trans (hu5.belowW HF.out (Nat.le_trans (HBL.out).size (K4.out).size))
               have h5c : Hid (w5.cell? (a.add i) = some (.int .u8 z)) := Lib.hid (cellW HA.out b5)
               clear b5 hd5 hu5))
          clear htm hwb
          have HN := Lib.hid (rb_next HR1.out (HX.out).1 (HX.out).2.1 (HX.out).2.2.1 (HX.out).2.2.2.1 (HX.out).2.2.2.2.1 (HX.out).2.2.2.2.2.1 HF.out (HX.out).2.2.2.2.2.2 HBL.out K4.out HD5.out HU5.out)
          go_wp2
          go_roundw
          case rel => exact ⟨i + 1, by omega, by go_num, HN.out⟩
          case measure => simp [intOf]; omega
        · obtain rfl : i = n2 := by omega
          have hD2 : decide ((i : Int) < i) = false := by simp
          obtain ⟨⟨Fd, F, Fu, Tt, Qt, hd1, hd, hu1, r1, r2, r3, r4, r5, hF, r7⟩, hbel⟩ := hR
          have hR3 : R3 w wr d t u (List.replicate (64 * 6) 0) T Q (List.replicate (64 * 6) 0) Tt Qt (List.replicate (64 * 6) 0) T Q Fd F Fu := ⟨hd1, hd, hu1, r2, r3, r4, r5, hF, r7, hbel⟩
          have G0 := Lib.hid hR3
          have HQT : Hid (Qt.length ≤ 1000000) := Lib.hid (by rw [r1]; have := HQ.out; omega)
          have HKA : Hid (∀ a, A = some a → 0 < keep.length → a.block < w.heap.size) := Lib.hid (fun a ha hne => by
            obtain ⟨a', ha', hc'⟩ := (HKC.out) 0 (by omega)
            obtain rfl : a = a' := by rw [ha] at ha'; exact Option.some.inj ha'
            have := block_lt_of_cell hc'
            have e : (a.add 0).block = a.block := by unfold Addr.add; split <;> rfl
            rwa [e] at this)
          clear hd1 hd hu1 r1 r2 r3 r4 r5 hF r7 hbel hR3
          go_wp2_with fail
          obtain ⟨lbt, clt, tbt, ctt, vwt, dst, hdt⟩ := (G0.out).t
          refine (Try.sync hdt HQT.out).mono ?_
          intro e w6 h6
          have hu6 := h6.upd
          obtain ⟨rfl, hd6, hc6⟩ := h6
          have G1 := Lib.hid ((G0.out).onT ⟨_, _, _, _, _, _, hd6⟩ hu6)
          clear hd6 hc6 hu6 hdt
          go_wp2_with fail
          obtain ⟨lbu, clu, tbu, ctu, vwu, dsu, hdu⟩ := (G1.out).u
          refine (Try.crash hdu HQ6.out A keep mk hk (fun i hi => by obtain ⟨a, h1, h2⟩ := (HKC.out) i hi; exact ⟨a, h1, cellW h2 (G1.out).bel⟩) (fun a ha h0 q => by have := HKA.out a ha h0; have := (G1.out).y3 _ q; omega)).mono ?_
          rintro e w7 ⟨rfl, F7, hd7, hu7⟩
          have G2 := Lib.hid ((G1.out).onU hd7 hu7)
          clear hd7 hu7 hdu G0 G1
          obtain ⟨M, hM⟩ : ∃ M, dset (kpOf keep) 0 Q (List.replicate (64 * 6) 0) = M := ⟨_, rfl⟩
          rw [hM] at G2
          have HM := Lib.hid hM
          clear hM
          generalize dset (fun _ => true) 0 Qt (List.replicate (64 * 6) 0) = L3 at G2
          go_wp2_with fail
          obtain ⟨lbd, cld, tbd, ctd, vwd, dsd, hdd⟩ := (G2.out).d
          refine (Try.bytes hdd).mono ?_
          rintro e w8 ⟨b8, c8, rfl, s1, s2, s3, s4⟩
          have x8 := s3.str (64 * 6) HTl.out c8
          have x8' : (convert 31 9 (.slice (some ⟨b8, 0, none⟩) 384 c8)).run Try.prog w8 = .ok (.string (strOf T)) w8 := x8
          have G3 := Lib.hid ((G2.out).below s4)
          clear s1 s2 s3 s4 hdd x8 G2
          obtain ⟨lbd, cld, tbd, ctd, vwd, dsd, hdd⟩ := (G3.out).d
          obtain ⟨lbt, clt, tbt, ctt, vwt, dst, hdt⟩ := (G3.out).t
          obtain ⟨lbu, clu, tbu, ctu, vwu, dsu, hdu⟩ := (G3.out).u
          obtain ⟨Ad, wcd, rfl⟩ := own_slice hdd.ow
          obtain ⟨At, wct, rfl⟩ := own_slice hdt.ow
          obtain ⟨Au, wcu, rfl⟩ := own_slice hdu.ow
          have k2d := hdd.c2
          have k2t := hdt.c2
          have k2u := hdu.c2
          rw [HQ.out] at k2d
          have HDT := Lib.hid hdt
          clear hdd hdu hdt
          go_wp2_with (first
            | (go_at_call_of 27 (Value.pointer (some (⟨d, 0, none⟩ : Addr))); refine (Try.waits d _ _ _ _ k2d).mono ?_; rintro e w' ⟨rfl, rfl⟩)
            | (go_at_call_of 27 (Value.pointer (some (⟨t, 0, none⟩ : Addr))); refine (Try.waits t _ _ _ _ k2t).mono ?_; rintro e w' ⟨rfl, rfl⟩)
            | (go_at_call_of 27 (Value.pointer (some (⟨u, 0, none⟩ : Addr))); refine (Try.waits u _ _ _ _ k2u).mono ?_; rintro e w' ⟨rfl, rfl⟩))
          refine (Try.bytes HDT.out).mono ?_
          rintro e w9 ⟨b9, c9, rfl, s1, s2, s3, s4⟩
          have HTT := Lib.hid (HDT.out).Tl
          have x9 : (convert 31 9 (.slice (some ⟨b9, 0, none⟩) 384 c9)).run Try.prog w9 = .ok (.string (strOf Tt)) w9 := s3.str (64 * 6) HTT.out c9
          have G4 := Lib.hid ((G3.out).below s4)
          clear s1 s2 s3 s4 HDT G3 x8' k2d k2t k2u
          go_wp2_with fail
          obtain ⟨lbd, cld, tbd, ctd, vwd, dsd, hdd⟩ := (G4.out).d
          refine (Try.crash hdd HQ6.out A keep mk hk (fun i hi => by obtain ⟨a, h1, h2⟩ := (HKC.out) i hi; exact ⟨a, h1, cellW h2 (G4.out).bel⟩) (fun a ha h0 q => by have := HKA.out a ha h0; have := (G4.out).y1 _ q; omega)).mono ?_
          rintro e wa ⟨rfl, Fa, hda, hua⟩
          rw [HM.out] at hda
          have G5 := Lib.hid ((G4.out).onD hda hua)
          clear hda hua hdd G4 x9
          go_wp2
          have G6 := Lib.hid ((G5.out).below ((Below.refl _ wa).drew))
          have hsz : (strOf Tt).size = 384 := by rw [strOf_size]; exact HTT.out
          clear G5
          refine wp_region_noPanic ?_
          refine wp_region_held_drew (S := (fun _ => True)) (by kernel_rfl) trivial (fun hHeld => ?_)
          refine wpAnyH_take (i := 0) (oi := { dst := some 119, op := Op.move (Operand.tmp 7), type := 24, pos := "more.go:38", after := #[], guard := none }) (v := ?_) rfl (by kernel_rfl) (by kernel_rfl) (by kernel_rfl) (fun _ _ _ h => h) (Or.inl ⟨by rfl, ?_⟩) trivial ?_
          rotate_left
          · (intro w hSw; go_simp; try with_reducible rfl)
          try simp only [Act.put, List.setIfInBounds_toArray, List.set_cons_zero, List.set_cons_succ]
          refine wpAnyH_take (i := 3) (oi := { dst := some 122, op := Op.move (Operand.tmp 11), type := 24, pos := "more.go:38", after := #[], guard := none }) (v := ?_) rfl (by kernel_rfl) (by kernel_rfl) (by kernel_rfl) (fun _ _ _ h => h) (Or.inl ⟨by rfl, ?_⟩) trivial ?_
          rotate_left
          · (intro w hSw; go_simp; try with_reducible rfl)
          try simp only [Act.put, List.setIfInBounds_toArray, List.set_cons_zero, List.set_cons_succ]
          refine wpAnyH_ready (rs := [1]) (by kernel_rfl) (by simp) ?_
          refine AllReadyH.cons (o := { dst := some 120, op := Op.call { callee := Callee.value (Operand.func 26), args := #[Operand.tmp 119], argTypes := #[24] }, type := 31, pos := "more.go:38", after := #[{ on := 0, ground := Ground.data }], guard := none }) rfl (fun K hK => ?_) ?_
          · skip
            refine step_want (by rfl) ?_
            go_simp
            obtain ⟨lb1, cl1, tb1, ct1, vw1, ds1, h1⟩ := (G6.out).d
            refine (Try.bytes h1).mono ?_
            rintro e wb ⟨bd, cd, rfl, s1, s2, s3, s4⟩
            dsimp only
            have G7 := Lib.hid ((G6.out).below s4)
            have BYd := Lib.hid s3
            have xd : (convert 31 9 (.slice (some ⟨bd, 0, none⟩) 384 cd)).run Try.prog wb = .ok (.string (strOf M)) wb := s3.str (64 * 6) h1.Tl cd
            have HMl := Lib.hid h1.Tl
            clear s1 s2 s3 s4 h1
            refine hK.out _ _ trivial (fun hHeld => ?_)
            clear hK K
            try simp only [Act.put, List.setIfInBounds_toArray, List.set_cons_zero, List.set_cons_succ]
            refine wpAnyH_ready (rs := [2, 4]) (by kernel_rfl) (by simp) ?_
            refine AllReadyH.cons (o := { dst := some 121, op := Op.convert 31 9 (Operand.tmp 120), type := 9, pos := "more.go:38", after := #[{ on := 1, ground := Ground.data }], guard := none }) rfl (fun K hK => ?_) ?_
            · skip
              go_simp
              refine hK.out _ _ trivial (fun hHeld => ?_)
              clear hK K
              try simp only [Act.put, List.setIfInBounds_toArray, List.set_cons_zero, List.set_cons_succ]
              refine wpAnyH_ready (rs := [4]) (by kernel_rfl) (by simp) ?_
              refine AllReadyH.cons (o := { dst := some 123, op := Op.call { callee := Callee.value (Operand.func 26), args := #[Operand.tmp 122], argTypes := #[24] }, type := 31, pos := "more.go:38", after := #[{ on := 3, ground := Ground.data }, { on := 1, ground := Ground.chain }], guard := none }) rfl (fun K hK => ?_) ?_
              · skip
                refine step_want (by rfl) ?_
                go_simp
                obtain ⟨lb1, cl1, tb1, ct1, vw1, ds1, h1⟩ := (G7.out).u
                refine (Try.bytes h1).mono ?_
                rintro e wc ⟨bu, cu, rfl, s1, s2, s3, s4⟩
                dsimp only
                have G8 := Lib.hid ((G7.out).below s4)
                have xd2 : (convert 31 9 (.slice (some ⟨bd, 0, none⟩) 384 cd)).run Try.prog wc = .ok (.string (strOf M)) wc := ((BYd.out).congr (s4.block bd (BYd.out).lt)).str (64 * 6) HMl.out cd
                have xu : (convert 31 9 (.slice (some ⟨bu, 0, none⟩) 384 cu)).run Try.prog wc = .ok (.string (strOf M)) wc := s3.str (64 * 6) h1.Tl cu
                clear s1 s2 s3 s4 h1
                refine hK.out _ _ trivial (fun hHeld => ?_)
                clear hK K
                try simp only [Act.put, List.setIfInBounds_toArray, List.set_cons_zero, List.set_cons_succ]
                refine wpAnyH_ready (rs := [5]) (by kernel_rfl) (by simp) ?_
                refine AllReadyH.cons (o := { dst := some 124, op := Op.convert 31 9 (Operand.tmp 123), type := 9, pos := "more.go:38", after := #[{ on := 4, ground := Ground.data }], guard := none }) rfl (fun K hK => ?_) ?_
                · skip
                  go_simp
                  refine hK.out _ _ trivial (fun hHeld => ?_)
                  clear hK K
                  try simp only [Act.put, List.setIfInBounds_toArray, List.set_cons_zero, List.set_cons_succ]
                  refine wpAnyH_take (i := 6) (oi := { dst := some 125, op := Op.binOp BinOp.eql 9 (Operand.tmp 121) (Operand.tmp 124) 9, type := 4, pos := "more.go:38", after := #[{ on := 2, ground := Ground.data }, { on := 5, ground := Ground.data }], guard := none }) (v := ?_) rfl (by kernel_rfl) (by kernel_rfl) (by kernel_rfl) (fun _ _ _ h => h) (Or.inl ⟨by rfl, ?_⟩) trivial ?_
                  rotate_left
                  · (intro w hSw; go_simp; try with_reducible rfl)
                  try simp only [Act.put, List.setIfInBounds_toArray, List.set_cons_zero, List.set_cons_succ]
                  refine wpAnyH_take (i := 7) (oi := { dst := some 126, op := Op.move (Operand.tmp 125), type := 4, pos := "more.go:38", after := #[{ on := 6, ground := Ground.data }, { on := 4, ground := Ground.chain }], guard := none }) (v := ?_) rfl (by kernel_rfl) (by kernel_rfl) (by kernel_rfl) (fun _ _ _ h => h) (Or.inl ⟨by rfl, ?_⟩) trivial ?_
                  rotate_left
                  · (intro w hSw; go_simp; try with_reducible rfl)
                  try simp only [Act.put, List.setIfInBounds_toArray, List.set_cons_zero, List.set_cons_succ]
                  refine wpAnyH_take (i := 8) (oi := { dst := some 127, op := Op.move (Operand.tmp 10), type := 24, pos := "more.go:38", after := #[{ on := 7, ground := Ground.guard }], guard := some (7, true) }) (v := ?_) rfl (by kernel_rfl) (by kernel_rfl) (by kernel_rfl) (fun _ _ _ h => h) (Or.inl ⟨by rfl, ?_⟩) trivial ?_
                  rotate_left
                  · (intro w hSw; go_simp; try with_reducible rfl)
                  try simp only [Act.put, List.setIfInBounds_toArray, List.set_cons_zero, List.set_cons_succ]
                  refine wpAnyH_take (i := 11) (oi := { dst := some 130, op := Op.move (Operand.tmp 14), type := 9, pos := "more.go:38", after := #[{ on := 7, ground := Ground.guard }], guard := some (7, true) }) (v := ?_) rfl (by kernel_rfl) (by kernel_rfl) (by kernel_rfl) (fun _ _ _ h => h) (Or.inl ⟨by rfl, ?_⟩) trivial ?_
                  rotate_left
                  · (intro w hSw; go_simp; try with_reducible rfl)
                  try simp only [Act.put, List.setIfInBounds_toArray, List.set_cons_zero, List.set_cons_succ]
                  refine wpAnyH_ready (rs := [9]) (by kernel_rfl) (by simp) ?_
                  refine AllReadyH.cons (o := { dst := some 128, op := Op.call { callee := Callee.value (Operand.func 26), args := #[Operand.tmp 127], argTypes := #[24] }, type := 31, pos := "more.go:38", after := #[{ on := 8, ground := Ground.data }, { on := 7, ground := Ground.chain }, { on := 7, ground := Ground.guard }], guard := some (7, true) }) rfl (fun K hK => ?_) ?_
                  · skip
                    refine step_want (by rfl) ?_
                    go_simp
                    obtain ⟨lb1, cl1, tb1, ct1, vw1, ds1, h1⟩ := (G8.out).t
                    refine (Try.bytes h1).mono ?_
                    rintro e wd ⟨bt, ctt, rfl, s1, s2, s3, s4⟩
                    dsimp only
                    have G9 := Lib.hid ((G8.out).below s4)
                    have xt : (convert 31 9 (.slice (some ⟨bt, 0, none⟩) 384 ctt)).run Try.prog wd = .ok (.string (strOf Tt)) wd := s3.str (64 * 6) h1.Tl ctt
                    clear s1 s2 s3 s4 h1
                    refine hK.out _ _ trivial (fun hHeld => ?_)
                    clear hK K
                    try simp only [Act.put, List.setIfInBounds_toArray, List.set_cons_zero, List.set_cons_succ]
                    refine wpAnyH_ready (rs := [10]) (by kernel_rfl) (by simp) ?_
                    refine AllReadyH.cons (o := { dst := some 129, op := Op.convert 31 9 (Operand.tmp 128), type := 9, pos := "more.go:38", after := #[{ on := 9, ground := Ground.data }, { on := 7, ground := Ground.guard }], guard := some (7, true) }) rfl (fun K hK => ?_) ?_
                    · skip
                      go_simp
                      refine hK.out _ _ trivial (fun hHeld => ?_)
                      clear hK K
                      try simp only [Act.put, List.setIfInBounds_toArray, List.set_cons_zero, List.set_cons_succ]
                      refine wpAnyH_take (i := 12) (oi := { dst := some 131, op := Op.binOp BinOp.eql 9 (Operand.tmp 129) (Operand.tmp 130) 9, type := 4, pos := "more.go:38", after := #[{ on := 10, ground := Ground.data }, { on := 11, ground := Ground.data }, { on := 7, ground := Ground.guard }], guard := some (7, true) }) (v := ?_) rfl (by kernel_rfl) (by kernel_rfl) (by kernel_rfl) (fun _ _ _ h => h) (Or.inl ⟨by rfl, ?_⟩) trivial ?_
                      rotate_left
                      · (intro w hSw; go_simp; try with_reducible rfl)
                      try simp only [Act.put, List.setIfInBounds_toArray, List.set_cons_zero, List.set_cons_succ]
                      refine wpAnyH_take (i := 13) (oi := { dst := some 132, op := Op.pick (Operand.tmp 126) (Operand.tmp 131) (Operand.const (Value.bool false)), type := 4, pos := "more.go:38", after := #[{ on := 7, ground := Ground.data }, { on := 12, ground := Ground.data }], guard := none }) (v := ?_) rfl (by kernel_rfl) (by kernel_rfl) (by kernel_rfl) (fun _ _ _ h => h) (Or.inl ⟨by rfl, ?_⟩) trivial ?_
                      rotate_left
                      · (intro w hSw; go_simp; try with_reducible rfl)
                      try simp only [Act.put, List.setIfInBounds_toArray, List.set_cons_zero, List.set_cons_succ]
                      refine wpAnyH_take (i := 14) (oi := { dst := some 133, op := Op.move (Operand.tmp 132), type := 4, pos := "more.go:38", after := #[{ on := 13, ground := Ground.data }, { on := 9, ground := Ground.chain }], guard := none }) (v := ?_) rfl (by kernel_rfl) (by kernel_rfl) (by kernel_rfl) (fun _ _ _ h => h) (Or.inl ⟨by rfl, ?_⟩) trivial ?_
                      rotate_left
                      · (intro w hSw; go_simp; try with_reducible rfl)
                      try simp only [Act.put, List.setIfInBounds_toArray, List.set_cons_zero, List.set_cons_succ]
                      refine wpAnyH_take (i := 15) (oi := { dst := some 134, op := Op.move (Operand.tmp 14), type := 9, pos := "more.go:38", after := #[{ on := 14, ground := Ground.guard }], guard := some (14, true) }) (v := ?_) rfl (by kernel_rfl) (by kernel_rfl) (by kernel_rfl) (fun _ _ _ h => h) (Or.inl ⟨by rfl, ?_⟩) trivial ?_
                      rotate_left
                      · (intro w hSw; go_simp; try with_reducible rfl)
                      try simp only [Act.put, List.setIfInBounds_toArray, List.set_cons_zero, List.set_cons_succ]
                      refine wpAnyH_take (i := 16) (oi := { dst := some 135, op := Op.call { callee := Callee.builtin Builtin.len, args := #[Operand.tmp 134], argTypes := #[9] }, type := 3, pos := "more.go:38", after := #[{ on := 15, ground := Ground.data }, { on := 14, ground := Ground.guard }], guard := some (14, true) }) (v := ?_) rfl (by kernel_rfl) (by kernel_rfl) (by kernel_rfl) (fun _ _ _ h => h) (Or.inl ⟨by rfl, ?_⟩) trivial ?_
                      rotate_left
                      · (intro w hSw; go_simp; try with_reducible rfl)
                      try simp only [Act.put, List.setIfInBounds_toArray, List.set_cons_zero, List.set_cons_succ]
                      refine wpAnyH_take (i := 17) (oi := { dst := some 136, op := Op.binOp BinOp.eql 3 (Operand.tmp 135) (Operand.const (Value.int IntKind.i64 384)) 3, type := 4, pos := "more.go:38", after := #[{ on := 16, ground := Ground.data }, { on := 14, ground := Ground.guard }], guard := some (14, true) }) (v := ?_) rfl (by kernel_rfl) (by kernel_rfl) (by kernel_rfl) (fun _ _ _ h => h) (Or.inl ⟨by rfl, ?_⟩) trivial ?_
                      rotate_left
                      · (intro w hSw; go_simp; try with_reducible rfl)
                      try simp only [Act.put, List.setIfInBounds_toArray, List.set_cons_zero, List.set_cons_succ]
                      refine wpAnyH_take (i := 18) (oi := { dst := some 137, op := Op.pick (Operand.tmp 133) (Operand.tmp 136) (Operand.const (Value.bool false)), type := 4, pos := "more.go:38", after := #[{ on := 14, ground := Ground.data }, { on := 17, ground := Ground.data }], guard := none }) (v := ?_) rfl (by kernel_rfl) (by kernel_rfl) (by kernel_rfl) (fun _ _ _ h => h) (Or.inl ⟨by rfl, ?_⟩) trivial ?_
                      rotate_left
                      · (intro w hSw; go_simp; try with_reducible rfl)
                      try simp only [Act.put, List.setIfInBounds_toArray, List.set_cons_zero, List.set_cons_succ]
                      refine wpAnyH_take (i := 19) (oi := { dst := some 6, op := Op.assign (Operand.tmp 137), type := 4, pos := "more.go:38", after := #[{ on := 18, ground := Ground.data }, { on := 14, ground := Ground.chain }, { on := 0, ground := Ground.phase }, { on := 1, ground := Ground.phase }, { on := 2, ground := Ground.phase }, { on := 3, ground := Ground.phase }, { on := 4, ground := Ground.phase }, { on := 5, ground := Ground.phase }, { on := 6, ground := Ground.phase }, { on := 7, ground := Ground.phase }, { on := 8, ground := Ground.phase }, { on := 9, ground := Ground.phase }, { on := 10, ground := Ground.phase }, { on := 11, ground := Ground.phase }, { on := 12, ground := Ground.phase }, { on := 13, ground := Ground.phase }, { on := 14, ground := Ground.phase }, { on := 15, ground := Ground.phase }, { on := 16, ground := Ground.phase }, { on := 17, ground := Ground.phase }, { on := 18, ground := Ground.phase }], guard := none }) (v := ?_) rfl (by kernel_rfl) (by kernel_rfl) (by kernel_rfl) (fun _ _ _ h => h) (Or.inl ⟨by rfl, ?_⟩) trivial ?_
                      rotate_left
                      · (intro w hSw; go_simp; try with_reducible rfl)
                      try simp only [Act.put, List.setIfInBounds_toArray, List.set_cons_zero, List.set_cons_succ]
                      refine wpAnyH_done (by kernel_rfl) ?_ _
                      refine NoPanic.normal ?_
                      clear xd xd2 xu xt
                      go_wp2
                      go_ret
                      exact ⟨rfl, (G9.out).bel⟩
                    exact AllReadyH.nil
                  exact AllReadyH.nil
                exact AllReadyH.nil
              exact AllReadyH.nil
            refine AllReadyH.cons (o := { dst := some 123, op := Op.call { callee := Callee.value (Operand.func 26), args := #[Operand.tmp 122], argTypes := #[24] }, type := 31, pos := "more.go:38", after := #[{ on := 3, ground := Ground.data }, { on := 1, ground := Ground.chain }], guard := none }) rfl (fun K hK => ?_) ?_
            · skip
              refine step_want (by rfl) ?_
              go_simp
              obtain ⟨lb1, cl1, tb1, ct1, vw1, ds1, h1⟩ := (G7.out).u
              refine (Try.bytes h1).mono ?_
              rintro e wc ⟨bu, cu, rfl, s1, s2, s3, s4⟩
              dsimp only
              have G8 := Lib.hid ((G7.out).below s4)
              have xd2 : (convert 31 9 (.slice (some ⟨bd, 0, none⟩) 384 cd)).run Try.prog wc = .ok (.string (strOf M)) wc := ((BYd.out).congr (s4.block bd (BYd.out).lt)).str (64 * 6) HMl.out cd
              have xu : (convert 31 9 (.slice (some ⟨bu, 0, none⟩) 384 cu)).run Try.prog wc = .ok (.string (strOf M)) wc := s3.str (64 * 6) h1.Tl cu
              clear s1 s2 s3 s4 h1
              refine hK.out _ _ trivial (fun hHeld => ?_)
              clear hK K
              try simp only [Act.put, List.setIfInBounds_toArray, List.set_cons_zero, List.set_cons_succ]
              refine wpAnyH_ready (rs := [2, 5]) (by kernel_rfl) (by simp) ?_
              refine AllReadyH.cons (o := { dst := some 121, op := Op.convert 31 9 (Operand.tmp 120), type := 9, pos := "more.go:38", after := #[{ on := 1, ground := Ground.data }], guard := none }) rfl (fun K hK => ?_) ?_
              · skip
                go_simp
                refine hK.out _ _ trivial (fun hHeld => ?_)
                clear hK K
                try simp only [Act.put, List.setIfInBounds_toArray, List.set_cons_zero, List.set_cons_succ]
                refine wpAnyH_ready (rs := [5]) (by kernel_rfl) (by simp) ?_
                refine AllReadyH.cons (o := { dst := some 124, op := Op.convert 31 9 (Operand.tmp 123), type := 9, pos := "more.go:38", after := #[{ on := 4, ground := Ground.data }], guard := none }) rfl (fun K hK => ?_) ?_
                · skip
                  go_simp
                  refine hK.out _ _ trivial (fun hHeld => ?_)
                  clear hK K
                  try simp only [Act.put, List.setIfInBounds_toArray, List.set_cons_zero, List.set_cons_succ]
                  refine wpAnyH_take (i := 6) (oi := { dst := some 125, op := Op.binOp BinOp.eql 9 (Operand.tmp 121) (Operand.tmp 124) 9, type := 4, pos := "more.go:38", after := #[{ on := 2, ground := Ground.data }, { on := 5, ground := Ground.data }], guard := none }) (v := ?_) rfl (by kernel_rfl) (by kernel_rfl) (by kernel_rfl) (fun _ _ _ h => h) (Or.inl ⟨by rfl, ?_⟩) trivial ?_
                  rotate_left
                  · (intro w hSw; go_simp; try with_reducible rfl)
                  try simp only [Act.put, List.setIfInBounds_toArray, List.set_cons_zero, List.set_cons_succ]
                  refine wpAnyH_take (i := 7) (oi := { dst := some 126, op := Op.move (Operand.tmp 125), type := 4, pos := "more.go:38", after := #[{ on := 6, ground := Ground.data }, { on := 4, ground := Ground.chain }], guard := none }) (v := ?_) rfl (by kernel_rfl) (by kernel_rfl) (by kernel_rfl) (fun _ _ _ h => h) (Or.inl ⟨by rfl, ?_⟩) trivial ?_
                  rotate_left
                  · (intro w hSw; go_simp; try with_reducible rfl)
                  try simp only [Act.put, List.setIfInBounds_toArray, List.set_cons_zero, List.set_cons_succ]
                  refine wpAnyH_take (i := 8) (oi := { dst := some 127, op := Op.move (Operand.tmp 10), type := 24, pos := "more.go:38", after := #[{ on := 7, ground := Ground.guard }], guard := some (7, true) }) (v := ?_) rfl (by kernel_rfl) (by kernel_rfl) (by kernel_rfl) (fun _ _ _ h => h) (Or.inl ⟨by rfl, ?_⟩) trivial ?_
                  rotate_left
                  · (intro w hSw; go_simp; try with_reducible rfl)
                  try simp only [Act.put, List.setIfInBounds_toArray, List.set_cons_zero, List.set_cons_succ]
                  refine wpAnyH_take (i := 11) (oi := { dst := some 130, op := Op.move (Operand.tmp 14), type := 9, pos := "more.go:38", after := #[{ on := 7, ground := Ground.guard }], guard := some (7, true) }) (v := ?_) rfl (by kernel_rfl) (by kernel_rfl) (by kernel_rfl) (fun _ _ _ h => h) (Or.inl ⟨by rfl, ?_⟩) trivial ?_
                  rotate_left
                  · (intro w hSw; go_simp; try with_reducible rfl)
                  try simp only [Act.put, List.setIfInBounds_toArray, List.set_cons_zero, List.set_cons_succ]
                  refine wpAnyH_ready (rs := [9]) (by kernel_rfl) (by simp) ?_
                  refine AllReadyH.cons (o := { dst := some 128, op := Op.call { callee := Callee.value (Operand.func 26), args := #[Operand.tmp 127], argTypes := #[24] }, type := 31, pos := "more.go:38", after := #[{ on := 8, ground := Ground.data }, { on := 7, ground := Ground.chain }, { on := 7, ground := Ground.guard }], guard := some (7, true) }) rfl (fun K hK => ?_) ?_
                  · skip
                    refine step_want (by rfl) ?_
                    go_simp
                    obtain ⟨lb1, cl1, tb1, ct1, vw1, ds1, h1⟩ := (G8.out).t
                    refine (Try.bytes h1).mono ?_
                    rintro e wd ⟨bt, ctt, rfl, s1, s2, s3, s4⟩
                    dsimp only
                    have G9 := Lib.hid ((G8.out).below s4)
                    have xt : (convert 31 9 (.slice (some ⟨bt, 0, none⟩) 384 ctt)).run Try.prog wd = .ok (.string (strOf Tt)) wd := s3.str (64 * 6) h1.Tl ctt
                    clear s1 s2 s3 s4 h1
                    refine hK.out _ _ trivial (fun hHeld => ?_)
                    clear hK K
                    try simp only [Act.put, List.setIfInBounds_toArray, List.set_cons_zero, List.set_cons_succ]
                    refine wpAnyH_ready (rs := [10]) (by kernel_rfl) (by simp) ?_
                    refine AllReadyH.cons (o := { dst := some 129, op := Op.convert 31 9 (Operand.tmp 128), type := 9, pos := "more.go:38", after := #[{ on := 9, ground := Ground.data }, { on := 7, ground := Ground.guard }], guard := some (7, true) }) rfl (fun K hK => ?_) ?_
                    · skip
                      go_simp
                      refine hK.out _ _ trivial (fun hHeld => ?_)
                      clear hK K
                      try simp only [Act.put, List.setIfInBounds_toArray, List.set_cons_zero, List.set_cons_succ]
                      refine wpAnyH_take (i := 12) (oi := { dst := some 131, op := Op.binOp BinOp.eql 9 (Operand.tmp 129) (Operand.tmp 130) 9, type := 4, pos := "more.go:38", after := #[{ on := 10, ground := Ground.data }, { on := 11, ground := Ground.data }, { on := 7, ground := Ground.guard }], guard := some (7, true) }) (v := ?_) rfl (by kernel_rfl) (by kernel_rfl) (by kernel_rfl) (fun _ _ _ h => h) (Or.inl ⟨by rfl, ?_⟩) trivial ?_
                      rotate_left
                      · (intro w hSw; go_simp; try with_reducible rfl)
                      try simp only [Act.put, List.setIfInBounds_toArray, List.set_cons_zero, List.set_cons_succ]
                      refine wpAnyH_take (i := 13) (oi := { dst := some 132, op := Op.pick (Operand.tmp 126) (Operand.tmp 131) (Operand.const (Value.bool false)), type := 4, pos := "more.go:38", after := #[{ on := 7, ground := Ground.data }, { on := 12, ground := Ground.data }], guard := none }) (v := ?_) rfl (by kernel_rfl) (by kernel_rfl) (by kernel_rfl) (fun _ _ _ h => h) (Or.inl ⟨by rfl, ?_⟩) trivial ?_
                      rotate_left
                      · (intro w hSw; go_simp; try with_reducible rfl)
                      try simp only [Act.put, List.setIfInBounds_toArray, List.set_cons_zero, List.set_cons_succ]
                      refine wpAnyH_take (i := 14) (oi := { dst := some 133, op := Op.move (Operand.tmp 132), type := 4, pos := "more.go:38", after := #[{ on := 13, ground := Ground.data }, { on := 9, ground := Ground.chain }], guard := none }) (v := ?_) rfl (by kernel_rfl) (by kernel_rfl) (by kernel_rfl) (fun _ _ _ h => h) (Or.inl ⟨by rfl, ?_⟩) trivial ?_
                      rotate_left
                      · (intro w hSw; go_simp; try with_reducible rfl)
                      try simp only [Act.put, List.setIfInBounds_toArray, List.set_cons_zero, List.set_cons_succ]
                      refine wpAnyH_take (i := 15) (oi := { dst := some 134, op := Op.move (Operand.tmp 14), type := 9, pos := "more.go:38", after := #[{ on := 14, ground := Ground.guard }], guard := some (14, true) }) (v := ?_) rfl (by kernel_rfl) (by kernel_rfl) (by kernel_rfl) (fun _ _ _ h => h) (Or.inl ⟨by rfl, ?_⟩) trivial ?_
                      rotate_left
                      · (intro w hSw; go_simp; try with_reducible rfl)
                      try simp only [Act.put, List.setIfInBounds_toArray, List.set_cons_zero, List.set_cons_succ]
                      refine wpAnyH_take (i := 16) (oi := { dst := some 135, op := Op.call { callee := Callee.builtin Builtin.len, args := #[Operand.tmp 134], argTypes := #[9] }, type := 3, pos := "more.go:38", after := #[{ on := 15, ground := Ground.data }, { on := 14, ground := Ground.guard }], guard := some (14, true) }) (v := ?_) rfl (by kernel_rfl) (by kernel_rfl) (by kernel_rfl) (fun _ _ _ h => h) (Or.inl ⟨by rfl, ?_⟩) trivial ?_
                      rotate_left
                      · (intro w hSw; go_simp; try with_reducible rfl)
                      try simp only [Act.put, List.setIfInBounds_toArray, List.set_cons_zero, List.set_cons_succ]
                      refine wpAnyH_take (i := 17) (oi := { dst := some 136, op := Op.binOp BinOp.eql 3 (Operand.tmp 135) (Operand.const (Value.int IntKind.i64 384)) 3, type := 4, pos := "more.go:38", after := #[{ on := 16, ground := Ground.data }, { on := 14, ground := Ground.guard }], guard := some (14, true) }) (v := ?_) rfl (by kernel_rfl) (by kernel_rfl) (by kernel_rfl) (fun _ _ _ h => h) (Or.inl ⟨by rfl, ?_⟩) trivial ?_
                      rotate_left
                      · (intro w hSw; go_simp; try with_reducible rfl)
                      try simp only [Act.put, List.setIfInBounds_toArray, List.set_cons_zero, List.set_cons_succ]
                      refine wpAnyH_take (i := 18) (oi := { dst := some 137, op := Op.pick (Operand.tmp 133) (Operand.tmp 136) (Operand.const (Value.bool false)), type := 4, pos := "more.go:38", after := #[{ on := 14, ground := Ground.data }, { on := 17, ground := Ground.data }], guard := none }) (v := ?_) rfl (by kernel_rfl) (by kernel_rfl) (by kernel_rfl) (fun _ _ _ h => h) (Or.inl ⟨by rfl, ?_⟩) trivial ?_
                      rotate_left
                      · (intro w hSw; go_simp; try with_reducible rfl)
                      try simp only [Act.put, List.setIfInBounds_toArray, List.set_cons_zero, List.set_cons_succ]
                      refine wpAnyH_take (i := 19) (oi := { dst := some 6, op := Op.assign (Operand.tmp 137), type := 4, pos := "more.go:38", after := #[{ on := 18, ground := Ground.data }, { on := 14, ground := Ground.chain }, { on := 0, ground := Ground.phase }, { on := 1, ground := Ground.phase }, { on := 2, ground := Ground.phase }, { on := 3, ground := Ground.phase }, { on := 4, ground := Ground.phase }, { on := 5, ground := Ground.phase }, { on := 6, ground := Ground.phase }, { on := 7, ground := Ground.phase }, { on := 8, ground := Ground.phase }, { on := 9, ground := Ground.phase }, { on := 10, ground := Ground.phase }, { on := 11, ground := Ground.phase }, { on := 12, ground := Ground.phase }, { on := 13, ground := Ground.phase }, { on := 14, ground := Ground.phase }, { on := 15, ground := Ground.phase }, { on := 16, ground := Ground.phase }, { on := 17, ground := Ground.phase }, { on := 18, ground := Ground.phase }], guard := none }) (v := ?_) rfl (by kernel_rfl) (by kernel_rfl) (by kernel_rfl) (fun _ _ _ h => h) (Or.inl ⟨by rfl, ?_⟩) trivial ?_
                      rotate_left
                      · (intro w hSw; go_simp; try with_reducible rfl)
                      try simp only [Act.put, List.setIfInBounds_toArray, List.set_cons_zero, List.set_cons_succ]
                      refine wpAnyH_done (by kernel_rfl) ?_ _
                      refine NoPanic.normal ?_
                      clear xd xd2 xu xt
                      go_wp2
                      go_ret
                      exact ⟨rfl, (G9.out).bel⟩
                    exact AllReadyH.nil
                  exact AllReadyH.nil
                exact AllReadyH.nil
              refine AllReadyH.cons (o := { dst := some 124, op := Op.convert 31 9 (Operand.tmp 123), type := 9, pos := "more.go:38", after := #[{ on := 4, ground := Ground.data }], guard := none }) rfl (fun K hK => ?_) ?_
              · skip
                go_simp
                refine hK.out _ _ trivial (fun hHeld => ?_)
                clear hK K
                try simp only [Act.put, List.setIfInBounds_toArray, List.set_cons_zero, List.set_cons_succ]
                refine wpAnyH_ready (rs := [2]) (by kernel_rfl) (by simp) ?_
                refine AllReadyH.cons (o := { dst := some 121, op := Op.convert 31 9 (Operand.tmp 120), type := 9, pos := "more.go:38", after := #[{ on := 1, ground := Ground.data }], guard := none }) rfl (fun K hK => ?_) ?_
                · skip
                  go_simp
                  refine hK.out _ _ trivial (fun hHeld => ?_)
                  clear hK K
                  try simp only [Act.put, List.setIfInBounds_toArray, List.set_cons_zero, List.set_cons_succ]
                  refine wpAnyH_take (i := 6) (oi := { dst := some 125, op := Op.binOp BinOp.eql 9 (Operand.tmp 121) (Operand.tmp 124) 9, type := 4, pos := "more.go:38", after := #[{ on := 2, ground := Ground.data }, { on := 5, ground := Ground.data }], guard := none }) (v := ?_) rfl (by kernel_rfl) (by kernel_rfl) (by kernel_rfl) (fun _ _ _ h => h) (Or.inl ⟨by rfl, ?_⟩) trivial ?_
                  rotate_left
                  · (intro w hSw; go_simp; try with_reducible rfl)
                  try simp only [Act.put, List.setIfInBounds_toArray, List.set_cons_zero, List.set_cons_succ]
                  refine wpAnyH_take (i := 7) (oi := { dst := some 126, op := Op.move (Operand.tmp 125), type := 4, pos := "more.go:38", after := #[{ on := 6, ground := Ground.data }, { on := 4, ground := Ground.chain }], guard := none }) (v := ?_) rfl (by kernel_rfl) (by kernel_rfl) (by kernel_rfl) (fun _ _ _ h => h) (Or.inl ⟨by rfl, ?_⟩) trivial ?_
                  rotate_left
                  · (intro w hSw; go_simp; try with_reducible rfl)
                  try simp only [Act.put, List.setIfInBounds_toArray, List.set_cons_zero, List.set_cons_succ]
                  refine wpAnyH_take (i := 8) (oi := { dst := some 127, op := Op.move (Operand.tmp 10), type := 24, pos := "more.go:38", after := #[{ on := 7, ground := Ground.guard }], guard := some (7, true) }) (v := ?_) rfl (by kernel_rfl) (by kernel_rfl) (by kernel_rfl) (fun _ _ _ h => h) (Or.inl ⟨by rfl, ?_⟩) trivial ?_
                  rotate_left
                  · (intro w hSw; go_simp; try with_reducible rfl)
                  try simp only [Act.put, List.setIfInBounds_toArray, List.set_cons_zero, List.set_cons_succ]
                  refine wpAnyH_take (i := 11) (oi := { dst := some 130, op := Op.move (Operand.tmp 14), type := 9, pos := "more.go:38", after := #[{ on := 7, ground := Ground.guard }], guard := some (7, true) }) (v := ?_) rfl (by kernel_rfl) (by kernel_rfl) (by kernel_rfl) (fun _ _ _ h => h) (Or.inl ⟨by rfl, ?_⟩) trivial ?_
                  rotate_left
                  · (intro w hSw; go_simp; try with_reducible rfl)
                  try simp only [Act.put, List.setIfInBounds_toArray, List.set_cons_zero, List.set_cons_succ]
                  refine wpAnyH_ready (rs := [9]) (by kernel_rfl) (by simp) ?_
                  refine AllReadyH.cons (o := { dst := some 128, op := Op.call { callee := Callee.value (Operand.func 26), args := #[Operand.tmp 127], argTypes := #[24] }, type := 31, pos := "more.go:38", after := #[{ on := 8, ground := Ground.data }, { on := 7, ground := Ground.chain }, { on := 7, ground := Ground.guard }], guard := some (7, true) }) rfl (fun K hK => ?_) ?_
                  · skip
                    refine step_want (by rfl) ?_
                    go_simp
                    obtain ⟨lb1, cl1, tb1, ct1, vw1, ds1, h1⟩ := (G8.out).t
                    refine (Try.bytes h1).mono ?_
                    rintro e wd ⟨bt, ctt, rfl, s1, s2, s3, s4⟩
                    dsimp only
                    have G9 := Lib.hid ((G8.out).below s4)
                    have xt : (convert 31 9 (.slice (some ⟨bt, 0, none⟩) 384 ctt)).run Try.prog wd = .ok (.string (strOf Tt)) wd := s3.str (64 * 6) h1.Tl ctt
                    clear s1 s2 s3 s4 h1
                    refine hK.out _ _ trivial (fun hHeld => ?_)
                    clear hK K
                    try simp only [Act.put, List.setIfInBounds_toArray, List.set_cons_zero, List.set_cons_succ]
                    refine wpAnyH_ready (rs := [10]) (by kernel_rfl) (by simp) ?_
                    refine AllReadyH.cons (o := { dst := some 129, op := Op.convert 31 9 (Operand.tmp 128), type := 9, pos := "more.go:38", after := #[{ on := 9, ground := Ground.data }, { on := 7, ground := Ground.guard }], guard := some (7, true) }) rfl (fun K hK => ?_) ?_
                    · skip
                      go_simp
                      refine hK.out _ _ trivial (fun hHeld => ?_)
                      clear hK K
                      try simp only [Act.put, List.setIfInBounds_toArray, List.set_cons_zero, List.set_cons_succ]
                      refine wpAnyH_take (i := 12) (oi := { dst := some 131, op := Op.binOp BinOp.eql 9 (Operand.tmp 129) (Operand.tmp 130) 9, type := 4, pos := "more.go:38", after := #[{ on := 10, ground := Ground.data }, { on := 11, ground := Ground.data }, { on := 7, ground := Ground.guard }], guard := some (7, true) }) (v := ?_) rfl (by kernel_rfl) (by kernel_rfl) (by kernel_rfl) (fun _ _ _ h => h) (Or.inl ⟨by rfl, ?_⟩) trivial ?_
                      rotate_left
                      · (intro w hSw; go_simp; try with_reducible rfl)
                      try simp only [Act.put, List.setIfInBounds_toArray, List.set_cons_zero, List.set_cons_succ]
                      refine wpAnyH_take (i := 13) (oi := { dst := some 132, op := Op.pick (Operand.tmp 126) (Operand.tmp 131) (Operand.const (Value.bool false)), type := 4, pos := "more.go:38", after := #[{ on := 7, ground := Ground.data }, { on := 12, ground := Ground.data }], guard := none }) (v := ?_) rfl (by kernel_rfl) (by kernel_rfl) (by kernel_rfl) (fun _ _ _ h => h) (Or.inl ⟨by rfl, ?_⟩) trivial ?_
                      rotate_left
                      · (intro w hSw; go_simp; try with_reducible rfl)
                      try simp only [Act.put, List.setIfInBounds_toArray, List.set_cons_zero, List.set_cons_succ]
                      refine wpAnyH_take (i := 14) (oi := { dst := some 133, op := Op.move (Operand.tmp 132), type := 4, pos := "more.go:38", after := #[{ on := 13, ground := Ground.data }, { on := 9, ground := Ground.chain }], guard := none }) (v := ?_) rfl (by kernel_rfl) (by kernel_rfl) (by kernel_rfl) (fun _ _ _ h => h) (Or.inl ⟨by rfl, ?_⟩) trivial ?_
                      rotate_left
                      · (intro w hSw; go_simp; try with_reducible rfl)
                      try simp only [Act.put, List.setIfInBounds_toArray, List.set_cons_zero, List.set_cons_succ]
                      refine wpAnyH_take (i := 15) (oi := { dst := some 134, op := Op.move (Operand.tmp 14), type := 9, pos := "more.go:38", after := #[{ on := 14, ground := Ground.guard }], guard := some (14, true) }) (v := ?_) rfl (by kernel_rfl) (by kernel_rfl) (by kernel_rfl) (fun _ _ _ h => h) (Or.inl ⟨by rfl, ?_⟩) trivial ?_
                      rotate_left
                      · (intro w hSw; go_simp; try with_reducible rfl)
                      try simp only [Act.put, List.setIfInBounds_toArray, List.set_cons_zero, List.set_cons_succ]
                      refine wpAnyH_take (i := 16) (oi := { dst := some 135, op := Op.call { callee := Callee.builtin Builtin.len, args := #[Operand.tmp 134], argTypes := #[9] }, type := 3, pos := "more.go:38", after := #[{ on := 15, ground := Ground.data }, { on := 14, ground := Ground.guard }], guard := some (14, true) }) (v := ?_) rfl (by kernel_rfl) (by kernel_rfl) (by kernel_rfl) (fun _ _ _ h => h) (Or.inl ⟨by rfl, ?_⟩) trivial ?_
                      rotate_left
                      · (intro w hSw; go_simp; try with_reducible rfl)
                      try simp only [Act.put, List.setIfInBounds_toArray, List.set_cons_zero, List.set_cons_succ]
                      refine wpAnyH_take (i := 17) (oi := { dst := some 136, op := Op.binOp BinOp.eql 3 (Operand.tmp 135) (Operand.const (Value.int IntKind.i64 384)) 3, type := 4, pos := "more.go:38", after := #[{ on := 16, ground := Ground.data }, { on := 14, ground := Ground.guard }], guard := some (14, true) }) (v := ?_) rfl (by kernel_rfl) (by kernel_rfl) (by kernel_rfl) (fun _ _ _ h => h) (Or.inl ⟨by rfl, ?_⟩) trivial ?_
                      rotate_left
                      · (intro w hSw; go_simp; try with_reducible rfl)
                      try simp only [Act.put, List.setIfInBounds_toArray, List.set_cons_zero, List.set_cons_succ]
                      refine wpAnyH_take (i := 18) (oi := { dst := some 137, op := Op.pick (Operand.tmp 133) (Operand.tmp 136) (Operand.const (Value.bool false)), type := 4, pos := "more.go:38", after := #[{ on := 14, ground := Ground.data }, { on := 17, ground := Ground.data }], guard := none }) (v := ?_) rfl (by kernel_rfl) (by kernel_rfl) (by kernel_rfl) (fun _ _ _ h => h) (Or.inl ⟨by rfl, ?_⟩) trivial ?_
                      rotate_left
                      · (intro w hSw; go_simp; try with_reducible rfl)
                      try simp only [Act.put, List.setIfInBounds_toArray, List.set_cons_zero, List.set_cons_succ]
                      refine wpAnyH_take (i := 19) (oi := { dst := some 6, op := Op.assign (Operand.tmp 137), type := 4, pos := "more.go:38", after := #[{ on := 18, ground := Ground.data }, { on := 14, ground := Ground.chain }, { on := 0, ground := Ground.phase }, { on := 1, ground := Ground.phase }, { on := 2, ground := Ground.phase }, { on := 3, ground := Ground.phase }, { on := 4, ground := Ground.phase }, { on := 5, ground := Ground.phase }, { on := 6, ground := Ground.phase }, { on := 7, ground := Ground.phase }, { on := 8, ground := Ground.phase }, { on := 9, ground := Ground.phase }, { on := 10, ground := Ground.phase }, { on := 11, ground := Ground.phase }, { on := 12, ground := Ground.phase }, { on := 13, ground := Ground.phase }, { on := 14, ground := Ground.phase }, { on := 15, ground := Ground.phase }, { on := 16, ground := Ground.phase }, { on := 17, ground := Ground.phase }, { on := 18, ground := Ground.phase }], guard := none }) (v := ?_) rfl (by kernel_rfl) (by kernel_rfl) (by kernel_rfl) (fun _ _ _ h => h) (Or.inl ⟨by rfl, ?_⟩) trivial ?_
                      rotate_left
                      · (intro w hSw; go_simp; try with_reducible rfl)
                      try simp only [Act.put, List.setIfInBounds_toArray, List.set_cons_zero, List.set_cons_succ]
                      refine wpAnyH_done (by kernel_rfl) ?_ _
                      refine NoPanic.normal ?_
                      clear xd xd2 xu xt
                      go_wp2
                      go_ret
                      exact ⟨rfl, (G9.out).bel⟩
                    exact AllReadyH.nil
                  exact AllReadyH.nil
                exact AllReadyH.nil
              exact AllReadyH.nil
            exact AllReadyH.nil
          exact AllReadyH.nil
end Go.Proofs
