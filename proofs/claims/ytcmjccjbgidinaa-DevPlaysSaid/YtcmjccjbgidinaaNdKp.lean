/-
  Texts of a proof over the translated program: NdKp.
-/
import Derived.Test.YtcmjccjbgidinaaNdF
import Derived.Test.YtcmjccjbgidinaaNdS
import Derived.Test.YtcmjccjbgidinaaNdK
import Derived.Deep.RegionHeld3
set_option linter.unusedVariables false
set_option linter.unnecessarySimpa false
set_option linter.unusedSimpArgs false
namespace Go.Proofs
open Go.RowKit
set_option maxRecDepth 100000
/-! Blocks of eight. -/
def Blk8 (M : List UInt8) (want : List UInt8) : Prop := M.length = 512 ∧ want.length = 8 ∧ ∀ i, i < 8 → (M.drop (i * 64)).take 64 = List.replicate 64 (want.getD i 0)
theorem win_other (T bb : List UInt8) (b i k : Nat) (hT : T.length = 64 * k) (hb : b < k) (hbb : bb.length = 64) (hne : i ≠ b) : ((T.take (b * 64) ++ (bb ++ T.drop (b * 64 + 64))).drop (i * 64)).take 64 = (T.drop (i * 64)).take 64 := by
  apply List.ext_getElem?
  intro j
  simp only [List.getElem?_take, List.getElem?_drop]
  by_cases hj : j < 64
  · simp only [hj, if_true]
    have h1 : (T.take (b * 64)).length = b * 64 := by simp; omega
    by_cases hlt : i < b
    · rw [List.getElem?_append_left (by omega), List.getElem?_take, if_pos (by omega)]
    · rw [List.getElem?_append_right (by omega), List.getElem?_append_right (by omega), List.getElem?_drop, h1, hbb]
      congr 1
      omega
  · simp [hj]
theorem win_same' (T bb : List UInt8) (i k : Nat) (hT : T.length = 64 * k) (hi : i < k) (hb : bb.length = 64) : ((T.take (i * 64) ++ (bb ++ T.drop (i * 64 + 64))).drop (i * 64)).take 64 = bb := by
  have := win_same T bb i k hT hi hb
  rwa [Nat.mul_comm 64 i] at this
theorem Blk8.splice {M want : List UInt8} (h : Blk8 M want) (b : Nat) (hb : b < 8) (x : UInt8) : Blk8 (M.take (b * 64) ++ (List.replicate 64 x ++ M.drop (b * 64 + 64))) (want.set b x) := by
  obtain ⟨h1, h2, h3⟩ := h
  refine ⟨by simp; omega, by simpa using h2, fun i hi => ?_⟩
  by_cases e : i = b
  · subst e
    rw [win_same' M _ i 8 h1 hi (by simp)]
    rw [List.getD_eq_getElem?_getD, List.getElem?_set_self (by omega)]
    rfl
  · rw [win_other M _ b i 8 h1 hb (by simp) e, h3 i hi]
    rw [List.getD_eq_getElem?_getD, List.getD_eq_getElem?_getD, List.getElem?_set_ne (by omega)]
theorem Blk8.zero : Blk8 (List.replicate (64 * 8) 0) (List.replicate 8 0) := by
  refine ⟨by simp, by simp, fun i hi => ?_⟩
  rw [win_rep 64 i 8 0 hi]
  congr 1
  rw [List.getD_eq_getElem?_getD, List.getElem?_replicate, if_pos hi]
  rfl
theorem dset_snoc (kp : Nat → Bool) (q : Nat × List UInt8) : ∀ (Q : List (Nat × List UInt8)) (j : Nat) (L : List UInt8), dset kp j (Q ++ [q]) L = if kp (j + Q.length) then (dset kp j Q L).take (q.1 * 64) ++ (q.2 ++ (dset kp j Q L).drop (q.1 * 64 + 64)) else dset kp j Q L
  | [], j, L => by simp [dset]
  | p :: Q, j, L => by
    simp only [List.cons_append, dset, List.length_cons]
    rw [dset_snoc kp q Q (j + 1) _, show j + 1 + Q.length = j + (Q.length + 1) by omega]
theorem Try.fullZ (z : Int) (x : UInt8) (hz : z = (x.toNat : Int)) (w : World) : Calls Try.prog 20 #[.int .u8 z] w (Cloned w 64 (List.replicate 64 x)) := by
  subst hz; exact Try.full x w
/-- The array of eight bytes that is wanted. -/
def WantAt (w : World) (g : Nat) (want : List UInt8) : Prop := w.heap[g]? = some (.cells (want.map u8v).toArray 50 (0, 0))
structure KRel (w0 : World) (B : Nat) (d g : Nat) (kp : Nat → Bool) (j : Nat) (wr : World) : Prop where
  hg : B ≤ g
  ex : ∃ F T Q want, DV wr F d 8 (List.replicate (64 * 8) 0) T Q ∧ Q.length = j ∧ Blk8 (dset kp 0 Q (List.replicate (64 * 8) 0)) want ∧ WantAt wr g want ∧ ¬ F g ∧ (∀ b, F b → B ≤ b)
  bel : Below w0.heap.size w0 wr
theorem Upd.belowK {w w' : World} {F F' : Nat → Prop} (h : Upd w w' F F') {B : Nat} (hF : ∀ b, F b → B ≤ b) (hB : B ≤ w.heap.size) : Below B w w' :=
  ⟨h.os, h.tape, h.output, h.size, fun b hb => h.block b (by omega) (fun q => by have := hF b q; omega)⟩
theorem Upd.lowK {w w' : World} {F F' : Nat → Prop} (h : Upd w w' F F') {B : Nat} (hF : ∀ b, F b → B ≤ b) (hB : B ≤ w.heap.size) : ∀ b, F' b → B ≤ b := fun b hb => by
  rcases h.grow b hb with q | q
  · exact hF b q
  · omega
structure KEnd (w0 : World) (d g : Nat) (want : List UInt8) (wr : World) : Prop where
  ex : ∃ F M, DV wr F d 8 M M [] ∧ Blk8 M want
  w : WantAt wr g want
  bel : Below w0.heap.size w0 wr
theorem kend_of {w wr w6 : World} {d g : Nat} {F F6 : Nat → Prop} {M want : List UInt8} (hd : DV w6 F6 d 8 M M []) (hb : Blk8 M want) (hw : WantAt wr g want) (hg : ¬ F g) (hF : ∀ b, F b → w.heap.size ≤ b) (hbel : Below w.heap.size w wr) (hu : Upd wr w6 F F6) : KEnd w d g want w6 :=
  ⟨⟨F6, M, hd, hb⟩, (hu.block g (Array.getElem?_eq_some_iff.1 hw).1 hg).trans hw, hbel.trans (hu.belowK hF hbel.size)⟩
theorem KEnd.step {w wr w7 : World} {d g : Nat} {want : List UInt8} (h : KEnd w d g want wr) (hb : Below wr.heap.size wr w7) : KEnd w d g want w7 := by
  obtain ⟨⟨F, M, ⟨lb, cl, tb, ct, vw, ds, h1⟩, h2⟩, h3, h4⟩ := h
  exact ⟨⟨F, M, ⟨lb, cl, tb, ct, vw, ds, h1.keep (Chg.below hb (fun _ => False)) (fun _ _ => id)⟩, h2⟩, (hb.block g (Array.getElem?_eq_some_iff.1 h3).1).trans h3, h4.trans (hb.mono h4.size)⟩
theorem Upd.comp {a b c : World} {F F1 F2 : Nat → Prop} (h1 : Upd a b F F1) (h2 : Upd b c F1 F2) : Upd a c F F2 :=
  ⟨h2.os.trans h1.os, h2.tape.trans h1.tape, h2.output.trans h1.output, Nat.le_trans h1.size h2.size, fun x hx hn => (h2.block x (Nat.lt_of_lt_of_le hx h1.size) (fun q => by rcases h1.grow x q with q | q; exact hn q; omega)).trans (h1.block x hx hn), fun x hx => by
    rcases h2.grow x hx with q | q
    · exact h1.grow x q
    · exact .inr (Nat.le_trans h1.size q)⟩
def Yes' (w : World) (e : Ending) (w' : World) : Prop := e = .returned (.bool true) ∧ Below w.heap.size w w'
theorem cellB {w W : World} {p : Addr} {v : Value} (h : w.cell? p = some v) (hb : Below w.heap.size w W) : W.cell? p = some v := (hb.cell (block_lt_of_cell h)).trans h
theorem krel_start {w w1 w2 : World} {d : Nat} {F : Nat → Prop} {kp : Nat → Bool} (h1 : Below w.heap.size w w1) (h2 : Below w1.heap.size w1 w2) (hd : DV w2 F d 8 (List.replicate (64 * 8) 0) (List.replicate (64 * 8) 0) []) (hF : ∀ b, F b → w1.heap.size ≤ b) :
    KRel w w.heap.size d w2.heap.size kp 0 (w2.alloc (.cells #[.int .u8 0, .int .u8 0, .int .u8 0, .int .u8 0, .int .u8 0, .int .u8 0, .int .u8 0, .int .u8 0] 50)) := by
  have s1 := h1.size
  have s2 := h2.size
  refine ⟨by omega, ⟨F, List.replicate (64 * 8) 0, [], List.replicate 8 0, ?_, rfl, Blk8.zero, heap_alloc_new _ _, fun q => ?_, fun b q => Nat.le_trans s1 (hF b q)⟩, ?_⟩
  · obtain ⟨lb, cl, tb, ct, vw, ds, h⟩ := hd
    exact ⟨lb, cl, tb, ct, vw, ds, h.keep (Chg.alloc w2 _ (fun _ => False)) (fun _ _ => id)⟩
  · obtain ⟨lb, cl, tb, ct, vw, ds, h⟩ := hd
    have := h.lt _ q
    omega
  · exact (h1.trans (h2.mono s1)).alloc (by omega) _
/-- One write more. -/
theorem krel_write {w wr w4 w5 : World} {B d g j bi : Nat} {kp : Nat → Bool} {F F' : Nat → Prop} {T' : List UInt8} {Q : List (Nat × List UInt8)} {want : List UInt8} {c : UInt8} (hB : B = w.heap.size) (hQ : Q.length = j) (hblk : Blk8 (dset kp 0 Q (List.replicate (64 * 8) 0)) want) (hw : WantAt wr g want) (hg : ¬ F g) (hF : ∀ b, F b → B ≤ b) (hbel : Below w.heap.size w wr)
    (h4 : Below wr.heap.size wr w4) (hd : DV w5 F' d 8 (List.replicate (64 * 8) 0) T' (Q ++ [(bi, List.replicate 64 c)])) (hu : Upd w4 w5 F F') (hbi : bi < 8) (hgB : B ≤ g) :
    Below w.heap.size w w5 ∧ WantAt w5 g want ∧ (∀ W, (kp j = false → W = w5) → (kp j = true → W = w5.setCell ⟨g, bi, none⟩ (u8v c)) → KRel w B d g kp (j + 1) W) := by
  subst hB
  have hgl : g < wr.heap.size := (Array.getElem?_eq_some_iff.1 hw).1
  have hb5 : Below w.heap.size w w5 := (hbel.trans (h4.mono hbel.size)).trans (hu.belowK hF (Nat.le_trans hbel.size h4.size))
  have hw5 : WantAt w5 g want := ((hu.block g (Nat.lt_of_lt_of_le hgl h4.size) hg).trans (h4.block g hgl)).trans hw
  have hFF : ∀ b, F' b → w.heap.size ≤ b := hu.lowK hF (Nat.le_trans hbel.size h4.size)
  have hg5 : ¬ F' g := fun q => by
    rcases hu.grow g q with q | q
    · exact hg q
    · have := h4.size; omega
  refine ⟨hb5, hw5, fun W hf ht => ?_⟩
  cases hkp : kp j with
  | false =>
    obtain rfl := hf hkp
    refine ⟨hgB, ⟨F', T', Q ++ [(bi, List.replicate 64 c)], want, hd, by simp [hQ], ?_, hw5, hg5, hFF⟩, hb5⟩
    rw [dset_snoc, Nat.zero_add, hQ, hkp]
    exact hblk
  | true =>
    obtain rfl := ht hkp
    refine ⟨hgB, ⟨F', T', Q ++ [(bi, List.replicate 64 c)], want.set bi c, ?_, by simp [hQ], ?_, ?_, hg5, hFF⟩, hb5.setCell hgB _⟩
    · obtain ⟨lb, cl, tb, ct, vw, ds, h⟩ := hd
      exact ⟨lb, cl, tb, ct, vw, ds, h.keep (Chg.setCell w5 ⟨g, bi, none⟩ (u8v c)) (fun b hb e => hg5 ((show b = g from e) ▸ hb))⟩
    · rw [dset_snoc, Nat.zero_add, hQ, hkp]
      exact hblk.splice bi hbi c
    · show (w5.setCell ⟨g, bi, none⟩ (u8v c)).heap[g]? = _
      rw [heap_setCell_same w5 g bi _ 50 _ hw5]
      congr 2
      apply Array.ext'
      simp [List.map_set]
set_option maxHeartbeats 1000000 in
theorem Try.keeps (w : World) (x : Option Addr) (n m : Nat) (l8 : Nat → UInt8) (hn : n ≤ 60) (hl : ∀ i, i < n → ∃ a, x = some a ∧ w.cell? (a.add i) = some (u8v (l8 i)))
    (A : Option Addr) (keep : List Bool) (mk : Nat) (hk : keep.length ≤ 9223372036854775807) (hkc : ∀ i, i < keep.length → ∃ a, A = some a ∧ w.cell? (a.add i) = some (.bool (keep.getD i false))) (sync : Bool) (kp : Nat → Bool) (hkp : ∀ j, kp j = (sync || kpOf keep j)) :
    Calls Try.prog 5 #[.slice x n m, .slice A keep.length mk, .bool sync] w (Yes' w) := by
  have HL := Lib.hid hl
  have HKC := Lib.hid hkc
  have HKP := Lib.hid hkp
  clear hl hkc hkp
  go_enter Try.func5, Try.ntmps5
  go_wp2_with fail
  refine (Try.known10 _).mono ?_
  rintro e w1 ⟨rfl, hb1⟩
  have HB := Lib.hid hb1
  clear hb1
  go_wp2_with fail
  refine (Try.new_good 8 (by omega) (by omega) _).mono ?_
  rintro e w2 ⟨v, rfl, d, F, rfl, hd, hb2, hF⟩
  have H0 := Lib.hid (krel_start (kp := kp) HB.out hb2 hd hF)
  clear hd hb2 hF
  go_wp2
  obtain ⟨W3, hW3⟩ : ∃ W3, W3 = w2.alloc (.cells #[.int .u8 0, .int .u8 0, .int .u8 0, .int .u8 0, .int .u8 0, .int .u8 0, .int .u8 0, .int .u8 0] 50) := ⟨_, rfl⟩
  rw [← hW3] at H0 ⊢
  clear hW3
  generalize w2.heap.size = g at H0 ⊢
  go_loopw [10] (fun t wr => ∃ j : Nat, j ≤ n ∧ t = .int .i64 j ∧ KRel w w.heap.size d g kp j wr) (fun t _ => n - (intOf t).toNat)
  case atStart => exact ⟨0, Nat.zero_le _, rfl, H0.out⟩
  case round =>
    obtain ⟨j, hj, rfl, hR⟩ := hrel
    by_cases hlt : j < n
    · have hD : decide ((j : Int) < n) = true := by simpa using hlt
      obtain ⟨hgB, ⟨F, T, Q, want, ⟨lb, cl, tb, ct, vw, ds, hd⟩, hQ, hblk, hw, hgF, hF⟩, hbel⟩ := hR
      obtain ⟨a, rfl, ha⟩ := (HL.out) j hlt
      have hcl := cellB ha hbel
      unfold u8v at hcl ha
      have HA := Lib.hid ha
      obtain ⟨bi, hbi⟩ : ∃ bi : Nat, ((l8 j).toNat : Int) % 8 = (bi : Int) := ⟨(l8 j).toNat % 8, by omega⟩
      have hbi8 : bi < 8 := by omega
      have hz0 : 0 ≤ ((l8 j).toNat : Int) := by omega
      have hz1 : ((l8 j).toNat : Int) ≤ 255 := by have := (l8 j).toNat_lt; omega
      have HD := Lib.hid hd
      have HQ := Lib.hid hQ
      have HBLK := Lib.hid hblk
      have HW := Lib.hid hw
      have HF := Lib.hid hF
      have HBL := Lib.hid hbel
      clear hd hQ hblk hw hF hbel ha
      generalize hzz : ((l8 j).toNat : Int) = z at *
      go_wp2
      have hofn : ((UInt8.ofNat (j + 1)).toNat : Int) = (j : Int) + 1 := by simp; omega
      have HOFN := Lib.hid hofn.symm
      have hzB : Hid (Below w.heap.size w wr.drew) := Lib.hid (HBL.out).drew
      have hcd : Hid (wr.drew.cell? (a.add j) = some (.int .u8 z)) := Lib.hid hcl
      have HQ6 : Hid (Q.length ≤ 1000000) := Lib.hid (by rw [HQ.out]; omega)
      have hjw : IntKind.u8.wrap ((j : Int) + 1) = (j : Int) + 1 := by rw [IntKind.wrap_u8]; omega
      have hj64 : IntKind.i64.wrap ((j : Int) + 1) = (j : Int) + 1 := by rw [IntKind.wrap_i64]; omega
      have htm : z.tmod 8 = (bi : Int) := by rw [Int.tmod_eq_emod_of_nonneg hz0]; exact hbi
      have hwb : IntKind.i64.wrap (bi : Int) = (bi : Int) := by rw [IntKind.wrap_i64]; omega
      clear hofn
      go_region_held3 (fun W => W.cell? (a.add j) = some (.int .u8 z)) (first | exact hcd.out | exact h5c.out | exact h4c.out) (first
        | (refine step_open rfl ?_; go_simp; go_at_call 20; (with_reducible refine (Try.fullZ _ (UInt8.ofNat (j + 1)) HOFN.out _).mono ?_); rintro e w4 ⟨fb, fc, rfl, f1, f2, f3, f4⟩; dsimp only
           have k4 : Below wr.heap.size wr w4 := ⟨f4.os, f4.tape, f4.output, f4.size, f4.block⟩
           have HD4 := Lib.hid ((HD.out).keep (Chg.below k4 (fun _ => False)) (fun _ _ => id))
           have hFa := f3.all
           have hfF : ¬ F fb := fun q => by have := (HD.out).lt fb q; have : wr.heap.size ≤ fb := f1; omega
           have K4 := Lib.hid k4
           have h4c : Hid (w4.cell? (a.add j) = some (.int .u8 z)) := Lib.hid (cellB HA.out ((HBL.out).trans (k4.mono (HBL.out).size)))
           clear f1 f3 f4 k4)
        | (refine step_open rfl ?_; go_simp; go_at_call 13; refine (Try.dwrite w4 F d 8 lb cl tb ct vw ds (List.replicate (64 * 8) 0) T Q HD4.out bi hbi8 ⟨fb, 0, none⟩ fc (List.replicate 64 (UInt8.ofNat (j + 1))) List.length_replicate hFa hfF HQ6.out).mono ?_; rintro e w5 ⟨rfl, F5, hd5, hu5⟩; dsimp only
           have HD5 := Lib.hid hd5
           have HU5 := Lib.hid hu5
           have b5 : Below w.heap.size w w5 := ((HBL.out).trans ((K4.out).mono (HBL.out).size)).trans (hu5.belowK HF.out (Nat.le_trans (HBL.out).size (K4.out).size))
           have h5c : Hid (w5.cell? (a.add j) = some (.int .u8 z)) := Lib.hid (cellB HA.out b5)
           clear b5
           clear hd5 hu5))
      clear hj64 hjw htm hwb
      have HK5 := Lib.hid (krel_write (w := w) (B := w.heap.size) (j := j) (kp := kp) (d := d) rfl HQ.out HBLK.out HW.out hgF HF.out HBL.out K4.out HD5.out HU5.out hbi8 hgB)
      obtain ⟨hb5, hw5, hstep⟩ := HK5.out
      have HST := Lib.hid hstep
      have s1 := cellB HA.out hb5
      have hwl : want.length = 8 := (HBLK.out).2.1
      have s2 : w5.cell? ⟨g, bi, none⟩ = some (u8v (want.getD bi 0)) := by
        rw [cell_of_row w5 g bi _ 50 (0, 0) hw5, List.getElem?_toArray, List.getElem?_map, List.getElem?_eq_getElem (by omega), List.getD_eq_getElem?_getD, List.getElem?_eq_getElem (by omega)]
        rfl
      have s3 := frozen_of_row w5 g bi _ 50 hw5
      have HOV : Hid (Value.int .u8 ((j : Int) + 1) = u8v (UInt8.ofNat (j + 1))) := Lib.hid (by unfold u8v; rw [HOFN.out])
      have hB5 := Lib.hid hb5
      clear hw5 hstep HK5 hb5
      cases sync with
      | true =>
        have hkt : kp j = true := by rw [HKP.out]; rfl
        have HN := Lib.hid ((HST.out) _ (fun q => by rw [hkt] at q; cases q) (fun _ => rfl))
        rw [← HOV.out] at HN
        clear hkt
        go_wp2
        go_roundw
        case rel => exact ⟨j + 1, by omega, by go_num, HN.out⟩
        case measure => simp [intOf]; omega
      | false =>
        by_cases hjk : j < keep.length
        · obtain ⟨a', rfl, hc'⟩ := (HKC.out) j hjk
          have s4 := cellB hc' hB5.out
          have hDk : decide ((j : Int) < keep.length) = true := by simpa using hjk
          have hkq : kp j = keep.getD j false := by rw [HKP.out]; rfl
          cases hkv : keep.getD j false with
          | true =>
            rw [hkv] at s4 hkq
            have HN := Lib.hid ((HST.out) _ (fun q => by rw [hkq] at q; cases q) (fun _ => rfl))
            rw [← HOV.out] at HN
            clear hkq hkv hc'
            go_wp2
            go_roundw
            case rel => exact ⟨j + 1, by omega, by go_num, HN.out⟩
            case measure => simp [intOf]; omega
          | false =>
            rw [hkv] at s4 hkq
            have HN := Lib.hid ((HST.out) _ (fun _ => rfl) (fun q => by rw [hkq] at q; cases q))
            clear hkq hkv hc'
            go_wp2
            go_roundw
            case rel => exact ⟨j + 1, by omega, by go_num, HN.out⟩
            case measure => simp [intOf]; omega
        · have hDk : decide ((j : Int) < keep.length) = false := by simpa using hjk
          have hkq : kp j = false := by rw [HKP.out]; unfold kpOf; rw [List.getD_eq_getElem?_getD, List.getElem?_eq_none (by omega)]; rfl
          have HN := Lib.hid ((HST.out) _ (fun _ => rfl) (fun q => by rw [hkq] at q; cases q))
          clear hkq
          go_wp2
          go_roundw
          case rel => exact ⟨j + 1, by omega, by go_num, HN.out⟩
          case measure => simp [intOf]; omega
    · obtain rfl : j = n := by omega
      have hD : decide ((j : Int) < j) = false := by simp
      obtain ⟨hgB, ⟨F, T, Q, want, ⟨lb, cl, tb, ct, vw, ds, hd⟩, hQ, hblk, hw, hgF, hF⟩, hbel⟩ := hR
      have HD := Lib.hid hd
      have HQ6 : Hid (Q.length ≤ 1000000) := Lib.hid (by rw [hQ]; omega)
      have HBLK := Lib.hid hblk
      have HW := Lib.hid hw
      have HF := Lib.hid hF
      have HBL := Lib.hid hbel
      have HKA : Hid (∀ a, A = some a → keep.length ≠ 0 → a.block < w.heap.size) := Lib.hid (fun a ha hne => by
        obtain ⟨a', ha', hc'⟩ := (HKC.out) 0 (by omega)
        obtain rfl : a = a' := by rw [ha] at ha'; exact Option.some.inj ha'
        have := block_lt_of_cell hc'
        have e : (a.add 0).block = a.block := by unfold Addr.add; split <;> rfl
        rwa [e] at this)
      clear hd hQ hblk hw hF hbel
      cases sync with
      | true =>
        go_wp2_with fail
        refine (Try.sync HD.out HQ6.out).mono ?_
        intro e w5 h5
        have hu5 := h5.upd
        obtain ⟨rfl, hd5, hc5⟩ := h5
        have HD5 := Lib.hid hd5
        have HU5 := Lib.hid hu5
        have hb5 : Below w.heap.size w w5 := (HBL.out).trans (hu5.belowK HF.out (HBL.out).size)
        have HB5 := Lib.hid hb5
        clear hd5 hu5 hc5 hb5
        go_wp2_with fail
        refine (Try.crash HD5.out (by simp) A keep mk hk (fun i hi => by obtain ⟨a, h1, h2⟩ := (HKC.out) i hi; exact ⟨a, h1, cellB h2 HB5.out⟩) (fun a ha h0 q => by have := HKA.out a ha (by omega); have := HF.out _ q; omega)).mono ?_
        rintro e w6 ⟨rfl, F6, hd6, hu6⟩
        have hkt : kp = fun _ => true := funext fun j => by rw [HKP.out]; rfl
        have h6 : KEnd w d g want w6 := kend_of hd6 (by rw [← hkt]; exact HBLK.out) HW.out hgF HF.out HBL.out ((HU5.out).comp hu6)
        clear hd6 hu6 hkt
        have H6 := Lib.hid h6
        clear h6
        go_wp2
        go_loopw [11] (fun t wr => ∃ j : Nat, j ≤ 8 ∧ t = .int .i64 j ∧ KEnd w d g want wr) (fun t _ => 8 - (intOf t).toNat)
        case atStart => exact ⟨0, by omega, rfl, H6.out⟩
        case round =>
          obtain ⟨i, hi, rfl, hE⟩ := hrel
          by_cases hi8 : i < 8
          · have hDi : decide ((i : Int) < 8) = true := by simp; omega
            have HE := Lib.hid hE
            obtain ⟨⟨F7, M, ⟨lb7, cl7, tb7, ct7, vw7, ds7, hd7⟩, hblk7⟩, hw7, hbel7⟩ := hE
            have HD7 := Lib.hid hd7
            have HB7 := Lib.hid hblk7
            clear hd7 hblk7 hw7 hbel7
            go_wp2_with fail
            refine (Try.read_good HD7.out i hi8).mono ?_
            rintro e w8 ⟨b8, c8, rfl, r1, r2, r3, r4⟩
            rw [(HB7.out).2.2 i hi8] at r3
            have HE8 := Lib.hid ((HE.out).step r4)
            have R8 := Lib.hid r3
            clear r3 r4 r1 r2 HE HD7 HB7
            have hwl : want.length = 8 := by obtain ⟨⟨_, _, _, h⟩, _, _⟩ := HE8.out; exact h.2.1
            have z8 : w8.drew.cell? ⟨g, i, none⟩ = some (u8v (want.getD i 0)) := by
              show w8.cell? ⟨g, i, none⟩ = _
              rw [cell_of_row w8 g i _ 50 (0, 0) (HE8.out).w, List.getElem?_toArray, List.getElem?_map, List.getElem?_eq_getElem (by omega), List.getD_eq_getElem?_getD, List.getElem?_eq_getElem (by omega)]
              rfl
            have x8 : (convert 31 9 (.slice (some ⟨b8, 0, none⟩) 64 c8)).run Try.prog w8.drew = .ok (.string (strOf (List.replicate 64 (want.getD i 0)))) w8.drew := (show BY w8.drew b8 _ c8 from R8.out).str 64 (by simp) c8
            unfold u8v at z8
            have hi0 : (0 : Int) ≤ (i : Int) := by omega
            have hi1 : (i : Int) < 8 := by omega
            have hi2 : ¬ ((i : Int) < 0) := by omega
            generalize hwi : want.getD i 0 = wi at *
            clear hwi
            go_wp2
            refine wp_region_noPanic ?_
            refine wp_region_held_drew (S := (fun W => W.cell? ⟨g, i, none⟩ = some (.int .u8 (wi.toNat : Int)) ∧ (convert 31 9 (.slice (some ⟨b8, 0, none⟩) 64 c8)).run Try.prog W = .ok (.string (strOf (List.replicate 64 wi))) W)) (by kernel_rfl) ?_ (fun hHeld => ?_)
            · exact ⟨z8, x8⟩
            refine wpAnyH_take (i := 0) (oi := { dst := some 86, op := Op.move (Operand.tmp 13), type := 25, pos := "law.go:154", after := #[], guard := none }) (v := ?_) rfl (by kernel_rfl) (by kernel_rfl) (by kernel_rfl) (fun _ _ _ h => h) (Or.inl ⟨by rfl, ?_⟩) (by assumption) ?_
            rotate_left
            · (intro w hSw; (try dsimp only at hSw); go_simp; try with_reducible rfl)
            try simp only [Act.put, List.setIfInBounds_toArray, List.set_cons_zero, List.set_cons_succ]
            refine wpAnyH_take (i := 1) (oi := { dst := some 87, op := Op.binOp BinOp.neq 3 (Operand.tmp 86) (Operand.const (Value.int IntKind.i64 0)) 3, type := 4, pos := "law.go:154", after := #[{ on := 0, ground := Ground.data }], guard := none }) (v := ?_) rfl (by kernel_rfl) (by kernel_rfl) (by kernel_rfl) (fun _ _ _ h => h) (Or.inl ⟨by rfl, ?_⟩) (by assumption) ?_
            rotate_left
            · (intro w hSw; (try dsimp only at hSw); go_simp; try with_reducible rfl)
            try simp only [Act.put, List.setIfInBounds_toArray, List.set_cons_zero, List.set_cons_succ]
            refine wpAnyH_take (i := 2) (oi := { dst := some 88, op := Op.move (Operand.tmp 87), type := 4, pos := "law.go:154", after := #[{ on := 1, ground := Ground.data }], guard := none }) (v := ?_) rfl (by kernel_rfl) (by kernel_rfl) (by kernel_rfl) (fun _ _ _ h => h) (Or.inl ⟨by rfl, ?_⟩) (by assumption) ?_
            rotate_left
            · (intro w hSw; (try dsimp only at hSw); go_simp; try with_reducible rfl)
            try simp only [Act.put, List.setIfInBounds_toArray, List.set_cons_zero, List.set_cons_succ]
            refine wpAnyH_take (i := 3) (oi := { dst := some 89, op := Op.move (Operand.tmp 12), type := 31, pos := "law.go:154", after := #[{ on := 2, ground := Ground.guard }], guard := some (2, false) }) (v := ?_) rfl (by kernel_rfl) (by kernel_rfl) (by kernel_rfl) (fun _ _ _ h => h) (Or.inl ⟨by rfl, ?_⟩) (by assumption) ?_
            rotate_left
            · (intro w hSw; (try dsimp only at hSw); go_simp; try with_reducible rfl)
            try simp only [Act.put, List.setIfInBounds_toArray, List.set_cons_zero, List.set_cons_succ]
            refine wpAnyH_take (i := 4) (oi := { dst := some 90, op := Op.convert 31 9 (Operand.tmp 89), type := 9, pos := "law.go:154", after := #[{ on := 3, ground := Ground.data }, { on := 2, ground := Ground.guard }], guard := some (2, false) }) (v := ?_) rfl (by kernel_rfl) (by kernel_rfl) (by kernel_rfl) (fun _ _ _ h => h) (Or.inl ⟨by rfl, ?_⟩) (by assumption) ?_
            rotate_left
            · (intro w hSw; (try dsimp only at hSw); go_simp; try with_reducible rfl)
            try simp only [Act.put, List.setIfInBounds_toArray, List.set_cons_zero, List.set_cons_succ]
            refine wpAnyH_take (i := 5) (oi := { dst := some 91, op := Op.move (Operand.tmp 11), type := 3, pos := "law.go:154", after := #[{ on := 2, ground := Ground.guard }], guard := some (2, false) }) (v := ?_) rfl (by kernel_rfl) (by kernel_rfl) (by kernel_rfl) (fun _ _ _ h => h) (Or.inl ⟨by rfl, ?_⟩) (by assumption) ?_
            rotate_left
            · (intro w hSw; (try dsimp only at hSw); go_simp; try with_reducible rfl)
            try simp only [Act.put, List.setIfInBounds_toArray, List.set_cons_zero, List.set_cons_succ]
            refine wpAnyH_take (i := 6) (oi := { dst := some 92, op := Op.indexAddr 50 (Operand.tmp 9) (Operand.tmp 91), type := 0, pos := "law.go:154", after := #[{ on := 5, ground := Ground.data }, { on := 2, ground := Ground.guard }], guard := some (2, false) }) (v := ?_) rfl (by kernel_rfl) (by kernel_rfl) (by kernel_rfl) (fun _ _ _ h => h) (Or.inl ⟨by rfl, ?_⟩) (by assumption) ?_
            rotate_left
            · (intro w hSw; (try dsimp only at hSw); go_simp; try with_reducible rfl)
            try simp only [Act.put, List.setIfInBounds_toArray, List.set_cons_zero, List.set_cons_succ]
            refine wpAnyH_take (i := 7) (oi := { dst := some 93, op := Op.load 5 (Operand.tmp 92), type := 5, pos := "law.go:154", after := #[{ on := 6, ground := Ground.data }, { on := 2, ground := Ground.guard }], guard := some (2, false) }) (v := ?_) rfl (by kernel_rfl) (by kernel_rfl) (by kernel_rfl) (fun _ _ _ h => h) (Or.inl ⟨by rfl, ?_⟩) (by assumption) ?_
            rotate_left
            · (intro w hSw; (try dsimp only at hSw); go_simp; try with_reducible rfl)
            try simp only [Act.put, List.setIfInBounds_toArray, List.set_cons_zero, List.set_cons_succ]
            refine wpAnyH_ready (rs := [8]) (by kernel_rfl) (by simp) ?_
            refine AllReadyH.cons (o := { dst := some 94, op := Op.call { callee := Callee.value (Operand.func 20), args := #[Operand.tmp 93], argTypes := #[5] }, type := 31, pos := "law.go:154", after := #[{ on := 7, ground := Ground.data }, { on := 2, ground := Ground.chain }, { on := 2, ground := Ground.guard }], guard := some (2, false) }) rfl (fun K hK => ?_) AllReadyH.nil
            refine step_want (by rfl) ?_
            go_simp
            refine (Calls.mono (show Calls Try.prog 20 #[.int .u8 (wi.toNat : Int)] _ _ from Try.full wi _) ?_)
            rintro e w9 ⟨b9, c9, rfl, g1, g2, g3, g4⟩
            dsimp only
            have k9 : Below w8.heap.size w8 w9 := ⟨g4.os, g4.tape, g4.output, g4.size, g4.block⟩
            have HE9 := Lib.hid ((HE8.out).step k9)
            have z9 := (World.cell?_of_block (w := w8) (a := ⟨g, i, none⟩) (k9.block g (Array.getElem?_eq_some_iff.1 (HE8.out).w).1)).trans z8
            have x89 := ((R8.out).congr (k9.block b8 (R8.out).lt)).str 64 (by simp) c8
            have x9 := g3.str 64 (by simp) c9
            clear g1 g2 g3 g4 k9
            refine hK.out _ _ ?_ (fun hHeld => ?_)
            · exact ⟨z9, x89⟩
            clear hK K
            try simp only [Act.put, List.setIfInBounds_toArray, List.set_cons_zero, List.set_cons_succ]
            refine wpAnyH_ready (rs := [9]) (by kernel_rfl) (by simp) ?_
            refine AllReadyH.cons (o := { dst := some 95, op := Op.convert 31 9 (Operand.tmp 94), type := 9, pos := "law.go:154", after := #[{ on := 8, ground := Ground.data }, { on := 2, ground := Ground.guard }], guard := some (2, false) }) rfl (fun K hK => ?_) AllReadyH.nil
            go_simp
            refine hK.out _ _ ?_ (fun hHeld => ?_)
            · exact ⟨z9, x89⟩
            clear hK K
            try simp only [Act.put, List.setIfInBounds_toArray, List.set_cons_zero, List.set_cons_succ]
            refine wpAnyH_take (i := 10) (oi := { dst := some 96, op := Op.binOp BinOp.neq 9 (Operand.tmp 90) (Operand.tmp 95) 9, type := 4, pos := "law.go:154", after := #[{ on := 4, ground := Ground.data }, { on := 9, ground := Ground.data }, { on := 2, ground := Ground.guard }], guard := some (2, false) }) (v := ?_) rfl (by kernel_rfl) (by kernel_rfl) (by kernel_rfl) (fun _ _ _ h => h) (Or.inl ⟨by rfl, ?_⟩) (by assumption) ?_
            rotate_left
            · (intro w hSw; (try dsimp only at hSw); go_simp; try with_reducible rfl)
            try simp only [Act.put, List.setIfInBounds_toArray, List.set_cons_zero, List.set_cons_succ]
            refine wpAnyH_take (i := 11) (oi := { dst := some 97, op := Op.pick (Operand.tmp 88) (Operand.const (Value.bool true)) (Operand.tmp 96), type := 4, pos := "law.go:154", after := #[{ on := 2, ground := Ground.data }, { on := 10, ground := Ground.data }], guard := none }) (v := ?_) rfl (by kernel_rfl) (by kernel_rfl) (by kernel_rfl) (fun _ _ _ h => h) (Or.inl ⟨by rfl, ?_⟩) (by assumption) ?_
            rotate_left
            · (intro w hSw; (try dsimp only at hSw); go_simp; try with_reducible rfl)
            try simp only [Act.put, List.setIfInBounds_toArray, List.set_cons_zero, List.set_cons_succ]
            refine wpAnyH_done (by kernel_rfl) ?_ _
            refine NoPanic.normal ?_
            clear z8 x8 z9 x89 x9
            go_wp2
            go_roundw
            case rel => exact ⟨i + 1, by omega, by go_num, HE9.out⟩
            case measure => simp [intOf]; omega
          · obtain rfl : i = 8 := by omega
            have HE := Lib.hid hE.bel
            obtain ⟨⟨F7, M, ⟨lb7, cl7, tb7, ct7, vw7, ds7, hd7⟩, hblk7⟩, hw7, hbel7⟩ := hE
            obtain ⟨A7, wc7, rfl⟩ := own_slice hd7.ow
            have c7 := hd7.c2
            clear hd7 hblk7 hw7 hbel7
            go_wp2_with (go_at_call 27; refine (Try.waits _ _ _ _ _ c7).mono ?_; rintro e w' ⟨rfl, rfl⟩)
            go_ret
            exact ⟨rfl, HE.out⟩
      | false =>
        go_wp2_with fail
        refine (Try.crash HD.out HQ6.out A keep mk hk (fun i hi => by obtain ⟨a, h1, h2⟩ := (HKC.out) i hi; exact ⟨a, h1, cellB h2 HBL.out⟩) (fun a ha h0 q => by have := HKA.out a ha (by omega); have := HF.out _ q; omega)).mono ?_
        rintro e w6 ⟨rfl, F6, hd6, hu6⟩
        have hkt : kp = kpOf keep := funext fun j => by rw [HKP.out]; rfl
        have h6 : KEnd w d g want w6 := kend_of hd6 (by rw [← hkt]; exact HBLK.out) HW.out hgF HF.out HBL.out hu6
        clear hd6 hu6 hkt
        have H6 := Lib.hid h6
        clear h6
        go_wp2
        go_loopw [11] (fun t wr => ∃ j : Nat, j ≤ 8 ∧ t = .int .i64 j ∧ KEnd w d g want wr) (fun t _ => 8 - (intOf t).toNat)
        case atStart => exact ⟨0, by omega, rfl, H6.out⟩
        case round =>
          obtain ⟨i, hi, rfl, hE⟩ := hrel
          by_cases hi8 : i < 8
          · have hDi : decide ((i : Int) < 8) = true := by simp; omega
            have HE := Lib.hid hE
            obtain ⟨⟨F7, M, ⟨lb7, cl7, tb7, ct7, vw7, ds7, hd7⟩, hblk7⟩, hw7, hbel7⟩ := hE
            have HD7 := Lib.hid hd7
            have HB7 := Lib.hid hblk7
            clear hd7 hblk7 hw7 hbel7
            go_wp2_with fail
            refine (Try.read_good HD7.out i hi8).mono ?_
            rintro e w8 ⟨b8, c8, rfl, r1, r2, r3, r4⟩
            rw [(HB7.out).2.2 i hi8] at r3
            have HE8 := Lib.hid ((HE.out).step r4)
            have R8 := Lib.hid r3
            clear r3 r4 r1 r2 HE HD7 HB7
            have hwl : want.length = 8 := by obtain ⟨⟨_, _, _, h⟩, _, _⟩ := HE8.out; exact h.2.1
            have z8 : w8.drew.cell? ⟨g, i, none⟩ = some (u8v (want.getD i 0)) := by
              show w8.cell? ⟨g, i, none⟩ = _
              rw [cell_of_row w8 g i _ 50 (0, 0) (HE8.out).w, List.getElem?_toArray, List.getElem?_map, List.getElem?_eq_getElem (by omega), List.getD_eq_getElem?_getD, List.getElem?_eq_getElem (by omega)]
              rfl
            have x8 : (convert 31 9 (.slice (some ⟨b8, 0, none⟩) 64 c8)).run Try.prog w8.drew = .ok (.string (strOf (List.replicate 64 (want.getD i 0)))) w8.drew := (show BY w8.drew b8 _ c8 from R8.out).str 64 (by simp) c8
            unfold u8v at z8
            have hi0 : (0 : Int) ≤ (i : Int) := by omega
            have hi1 : (i : Int) < 8 := by omega
            have hi2 : ¬ ((i : Int) < 0) := by omega
            generalize hwi : want.getD i 0 = wi at *
            clear hwi
            go_wp2
            refine wp_region_noPanic ?_
            refine wp_region_held_drew (S := (fun W => W.cell? ⟨g, i, none⟩ = some (.int .u8 (wi.toNat : Int)) ∧ (convert 31 9 (.slice (some ⟨b8, 0, none⟩) 64 c8)).run Try.prog W = .ok (.string (strOf (List.replicate 64 wi))) W)) (by kernel_rfl) ?_ (fun hHeld => ?_)
            · exact ⟨z8, x8⟩
            refine wpAnyH_take (i := 0) (oi := { dst := some 86, op := Op.move (Operand.tmp 13), type := 25, pos := "law.go:154", after := #[], guard := none }) (v := ?_) rfl (by kernel_rfl) (by kernel_rfl) (by kernel_rfl) (fun _ _ _ h => h) (Or.inl ⟨by rfl, ?_⟩) (by assumption) ?_
            rotate_left
            · (intro w hSw; (try dsimp only at hSw); go_simp; try with_reducible rfl)
            try simp only [Act.put, List.setIfInBounds_toArray, List.set_cons_zero, List.set_cons_succ]
            refine wpAnyH_take (i := 1) (oi := { dst := some 87, op := Op.binOp BinOp.neq 3 (Operand.tmp 86) (Operand.const (Value.int IntKind.i64 0)) 3, type := 4, pos := "law.go:154", after := #[{ on := 0, ground := Ground.data }], guard := none }) (v := ?_) rfl (by kernel_rfl) (by kernel_rfl) (by kernel_rfl) (fun _ _ _ h => h) (Or.inl ⟨by rfl, ?_⟩) (by assumption) ?_
            rotate_left
            · (intro w hSw; (try dsimp only at hSw); go_simp; try with_reducible rfl)
            try simp only [Act.put, List.setIfInBounds_toArray, List.set_cons_zero, List.set_cons_succ]
            refine wpAnyH_take (i := 2) (oi := { dst := some 88, op := Op.move (Operand.tmp 87), type := 4, pos := "law.go:154", after := #[{ on := 1, ground := Ground.data }], guard := none }) (v := ?_) rfl (by kernel_rfl) (by kernel_rfl) (by kernel_rfl) (fun _ _ _ h => h) (Or.inl ⟨by rfl, ?_⟩) (by assumption) ?_
            rotate_left
            · (intro w hSw; (try dsimp only at hSw); go_simp; try with_reducible rfl)
            try simp only [Act.put, List.setIfInBounds_toArray, List.set_cons_zero, List.set_cons_succ]
            refine wpAnyH_take (i := 3) (oi := { dst := some 89, op := Op.move (Operand.tmp 12), type := 31, pos := "law.go:154", after := #[{ on := 2, ground := Ground.guard }], guard := some (2, false) }) (v := ?_) rfl (by kernel_rfl) (by kernel_rfl) (by kernel_rfl) (fun _ _ _ h => h) (Or.inl ⟨by rfl, ?_⟩) (by assumption) ?_
            rotate_left
            · (intro w hSw; (try dsimp only at hSw); go_simp; try with_reducible rfl)
            try simp only [Act.put, List.setIfInBounds_toArray, List.set_cons_zero, List.set_cons_succ]
            refine wpAnyH_take (i := 4) (oi := { dst := some 90, op := Op.convert 31 9 (Operand.tmp 89), type := 9, pos := "law.go:154", after := #[{ on := 3, ground := Ground.data }, { on := 2, ground := Ground.guard }], guard := some (2, false) }) (v := ?_) rfl (by kernel_rfl) (by kernel_rfl) (by kernel_rfl) (fun _ _ _ h => h) (Or.inl ⟨by rfl, ?_⟩) (by assumption) ?_
            rotate_left
            · (intro w hSw; (try dsimp only at hSw); go_simp; try with_reducible rfl)
            try simp only [Act.put, List.setIfInBounds_toArray, List.set_cons_zero, List.set_cons_succ]
            refine wpAnyH_take (i := 5) (oi := { dst := some 91, op := Op.move (Operand.tmp 11), type := 3, pos := "law.go:154", after := #[{ on := 2, ground := Ground.guard }], guard := some (2, false) }) (v := ?_) rfl (by kernel_rfl) (by kernel_rfl) (by kernel_rfl) (fun _ _ _ h => h) (Or.inl ⟨by rfl, ?_⟩) (by assumption) ?_
            rotate_left
            · (intro w hSw; (try dsimp only at hSw); go_simp; try with_reducible rfl)
            try simp only [Act.put, List.setIfInBounds_toArray, List.set_cons_zero, List.set_cons_succ]
            refine wpAnyH_take (i := 6) (oi := { dst := some 92, op := Op.indexAddr 50 (Operand.tmp 9) (Operand.tmp 91), type := 0, pos := "law.go:154", after := #[{ on := 5, ground := Ground.data }, { on := 2, ground := Ground.guard }], guard := some (2, false) }) (v := ?_) rfl (by kernel_rfl) (by kernel_rfl) (by kernel_rfl) (fun _ _ _ h => h) (Or.inl ⟨by rfl, ?_⟩) (by assumption) ?_
            rotate_left
            · (intro w hSw; (try dsimp only at hSw); go_simp; try with_reducible rfl)
            try simp only [Act.put, List.setIfInBounds_toArray, List.set_cons_zero, List.set_cons_succ]
            refine wpAnyH_take (i := 7) (oi := { dst := some 93, op := Op.load 5 (Operand.tmp 92), type := 5, pos := "law.go:154", after := #[{ on := 6, ground := Ground.data }, { on := 2, ground := Ground.guard }], guard := some (2, false) }) (v := ?_) rfl (by kernel_rfl) (by kernel_rfl) (by kernel_rfl) (fun _ _ _ h => h) (Or.inl ⟨by rfl, ?_⟩) (by assumption) ?_
            rotate_left
            · (intro w hSw; (try dsimp only at hSw); go_simp; try with_reducible rfl)
            try simp only [Act.put, List.setIfInBounds_toArray, List.set_cons_zero, List.set_cons_succ]
            refine wpAnyH_ready (rs := [8]) (by kernel_rfl) (by simp) ?_
            refine AllReadyH.cons (o := { dst := some 94, op := Op.call { callee := Callee.value (Operand.func 20), args := #[Operand.tmp 93], argTypes := #[5] }, type := 31, pos := "law.go:154", after := #[{ on := 7, ground := Ground.data }, { on := 2, ground := Ground.chain }, { on := 2, ground := Ground.guard }], guard := some (2, false) }) rfl (fun K hK => ?_) AllReadyH.nil
            refine step_want (by rfl) ?_
            go_simp
            refine (Calls.mono (show Calls Try.prog 20 #[.int .u8 (wi.toNat : Int)] _ _ from Try.full wi _) ?_)
            rintro e w9 ⟨b9, c9, rfl, g1, g2, g3, g4⟩
            dsimp only
            have k9 : Below w8.heap.size w8 w9 := ⟨g4.os, g4.tape, g4.output, g4.size, g4.block⟩
            have HE9 := Lib.hid ((HE8.out).step k9)
            have z9 := (World.cell?_of_block (w := w8) (a := ⟨g, i, none⟩) (k9.block g (Array.getElem?_eq_some_iff.1 (HE8.out).w).1)).trans z8
            have x89 := ((R8.out).congr (k9.block b8 (R8.out).lt)).str 64 (by simp) c8
            have x9 := g3.str 64 (by simp) c9
            clear g1 g2 g3 g4 k9
            refine hK.out _ _ ?_ (fun hHeld => ?_)
            · exact ⟨z9, x89⟩
            clear hK K
            try simp only [Act.put, List.setIfInBounds_toArray, List.set_cons_zero, List.set_cons_succ]
            refine wpAnyH_ready (rs := [9]) (by kernel_rfl) (by simp) ?_
            refine AllReadyH.cons (o := { dst := some 95, op := Op.convert 31 9 (Operand.tmp 94), type := 9, pos := "law.go:154", after := #[{ on := 8, ground := Ground.data }, { on := 2, ground := Ground.guard }], guard := some (2, false) }) rfl (fun K hK => ?_) AllReadyH.nil
            go_simp
            refine hK.out _ _ ?_ (fun hHeld => ?_)
            · exact ⟨z9, x89⟩
            clear hK K
            try simp only [Act.put, List.setIfInBounds_toArray, List.set_cons_zero, List.set_cons_succ]
            refine wpAnyH_take (i := 10) (oi := { dst := some 96, op := Op.binOp BinOp.neq 9 (Operand.tmp 90) (Operand.tmp 95) 9, type := 4, pos := "law.go:154", after := #[{ on := 4, ground := Ground.data }, { on := 9, ground := Ground.data }, { on := 2, ground := Ground.guard }], guard := some (2, false) }) (v := ?_) rfl (by kernel_rfl) (by kernel_rfl) (by kernel_rfl) (fun _ _ _ h => h) (Or.inl ⟨by rfl, ?_⟩) (by assumption) ?_
            rotate_left
            · (intro w hSw; (try dsimp only at hSw); go_simp; try with_reducible rfl)
            try simp only [Act.put, List.setIfInBounds_toArray, List.set_cons_zero, List.set_cons_succ]
            refine wpAnyH_take (i := 11) (oi := { dst := some 97, op := Op.pick (Operand.tmp 88) (Operand.const (Value.bool true)) (Operand.tmp 96), type := 4, pos := "law.go:154", after := #[{ on := 2, ground := Ground.data }, { on := 10, ground := Ground.data }], guard := none }) (v := ?_) rfl (by kernel_rfl) (by kernel_rfl) (by kernel_rfl) (fun _ _ _ h => h) (Or.inl ⟨by rfl, ?_⟩) (by assumption) ?_
            rotate_left
            · (intro w hSw; (try dsimp only at hSw); go_simp; try with_reducible rfl)
            try simp only [Act.put, List.setIfInBounds_toArray, List.set_cons_zero, List.set_cons_succ]
            refine wpAnyH_done (by kernel_rfl) ?_ _
            refine NoPanic.normal ?_
            clear z8 x8 z9 x89 x9
            go_wp2
            go_roundw
            case rel => exact ⟨i + 1, by omega, by go_num, HE9.out⟩
            case measure => simp [intOf]; omega
          · obtain rfl : i = 8 := by omega
            have HE := Lib.hid hE.bel
            obtain ⟨⟨F7, M, ⟨lb7, cl7, tb7, ct7, vw7, ds7, hd7⟩, hblk7⟩, hw7, hbel7⟩ := hE
            obtain ⟨A7, wc7, rfl⟩ := own_slice hd7.ow
            have c7 := hd7.c2
            clear hd7 hblk7 hw7 hbel7
            go_wp2_with (go_at_call 27; refine (Try.waits _ _ _ _ _ c7).mono ?_; rintro e w' ⟨rfl, rfl⟩)
            go_ret
            exact ⟨rfl, HE.out⟩
end Go.Proofs
