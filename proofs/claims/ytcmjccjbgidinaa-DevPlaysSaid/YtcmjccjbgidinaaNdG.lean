/-
  Texts of a proof over the translated program: NdG.
-/
import Derived.Test.YtcmjccjbgidinaaNdD
set_option linter.unusedVariables false
set_option linter.unnecessarySimpa false
set_option linter.unusedSimpArgs false
namespace Go.Proofs
open Go.RowKit
set_option maxRecDepth 100000
/-- A device stays where nothing of its own has turned. -/
theorem DW.stay {w w' : World} {F S : Nat → Prop} {d k lb cl tb ct : Nat} {vw : Value} {ds : List (Nat × Nat)} {L T : List UInt8} {Q : List (Nat × List UInt8)} (hd : DW w F d k lb cl tb ct vw ds L T Q) (hc : Chg w w' S) (hS : ∀ b, F b → ¬ S b) :
    DW w' F d k lb cl tb ct vw ds L T Q := by
  have hb : ∀ b, F b → w'.heap[b]? = w.heap[b]? := fun b h => hc.block b (hd.lt b h) (hS b h)
  exact ⟨fun b h => Nat.lt_of_lt_of_le (hd.lt b h) hc.size, (hb d hd.fd).trans hd.here, hd.fd, hd.fl, hd.ft, hd.dl, hd.dt, hd.lt', hd.hk, hd.Ll, hd.Tl, hd.bl.congr (hb lb hd.fl), hd.bt.congr (hb tb hd.ft), hd.cl', hd.ct', own_stay hd.ow (fun b h => hb b (hd.fw b h).1), hd.fw, AllW.stay (fun b q => q) (fun b q1 q2 => ⟨hb b q1, q2⟩) _ _ hd.al⟩
theorem DV.stay {w w' : World} {F S : Nat → Prop} {d k : Nat} {L T : List UInt8} {Q : List (Nat × List UInt8)} (hd : DV w F d k L T Q) (hc : Chg w w' S) (hS : ∀ b, F b → ¬ S b) : DV w' F d k L T Q := by
  obtain ⟨lb, cl, tb, ct, vw, ds, h⟩ := hd
  exact ⟨lb, cl, tb, ct, vw, ds, h.stay hc hS⟩
/-- The device's struct, newly made, nothing waiting. -/
def TwinAt (w : World) (k : Nat) (L T : List UInt8) (Q : List (Nat × List UInt8)) (d : Nat) (wr : World) : Prop := ∃ F, DV wr F d k L T Q ∧ Chg w wr (fun _ => False) ∧ ∀ b, F b → w.heap.size ≤ b
theorem twin_start {w w1 w2 : World} {k : Nat} (hk : k ≤ 1024) {L T : List UInt8} (hL : L.length = 64 * k) (hT : T.length = 64 * k) {b1 c1 b2 c2 : Nat} (h1 : w.heap.size ≤ b1) (hc1 : 64 * k ≤ c1) (hb1 : BY w1 b1 L c1) (hw1 : Chg w w1 (fun _ => False))
    (h2 : w1.heap.size ≤ b2) (hc2 : 64 * k ≤ c2) (hb2 : BY w2 b2 T c2) (hw2 : Chg w1 w2 (fun _ => False)) :
    TwinAt w k L T [] w2.heap.size (w2.alloc (.cells #[.slice (some ⟨b1, 0, none⟩) (64 * k) c1, .slice (some ⟨b2, 0, none⟩) (64 * k) c2, .slice none 0 0] 71)) := by
  have s1 := hw1.size
  have s2 := hw2.size
  have l1 := hb1.lt
  have l2 := hb2.lt
  refine ⟨fun b => w.heap.size ≤ b ∧ b ≤ w2.heap.size, ⟨b1, c1, b2, c2, .slice none 0 0, [], ?_⟩, ?_, fun b h => h.1⟩
  · refine ⟨?_, heap_alloc_new _ _, ⟨by omega, Nat.le_refl _⟩, ⟨h1, by omega⟩, ⟨by omega, by omega⟩, by omega, by omega, by omega, hk, hL, hT, ?_, ?_, hc1, hc2, World.ownsRow_nil _ _ _ _, ?_, trivial⟩
    · intro b hb; simp; omega
    · exact (hb1.congr (hw2.block b1 l1 id)).congr (Below.heap_alloc _ _ _ (by omega))
    · exact hb2.congr (Below.heap_alloc _ _ _ (by omega))
    · intro b hb; simp [vblk] at hb
  · exact (hw1.trans hw2).trans (Chg.alloc _ _ _)
theorem twin_next {w wr w1 w2 w3 : World} {k e : Nat} {F : Nat → Prop} {L T bb : List UInt8} {Q : List (Nat × List UInt8)} {lb cl tb ct nb c i : Nat} {vw v' : Value} {ds : List (Nat × Nat)} {O : Obj}
    (hd : DW wr F e k lb cl tb ct vw ds L T Q) (hF : ∀ b, F b → w.heap.size ≤ b) (hc : Chg w wr (fun _ => False)) (ch1 : Chg wr w1 (fun _ => False)) (ch2 : Chg w1 w2 (fun _ => False)) (ch3 : Chg (w2.alloc O) w3 (· ∈ vblk vw))
    (here3 : w3.heap[e]? = some (.cells #[.slice (some ⟨lb, 0, none⟩) (64 * k) cl, .slice (some ⟨tb, 0, none⟩) (64 * k) ct, vw] 71 (0, 0)))
    (how : w3.ownsRow 0 74 2 v' (Q.length + 1) (wCells Q ds ++ [.int .i64 (i : Int), .slice (some ⟨nb, 0, none⟩) 64 c]))
    (hv : ∀ b ∈ vblk v', b ∈ vblk vw ∨ (w2.alloc O).heap.size ≤ b) (hi : i < k) (hl : bb.length = 64) (hnb : w1.heap.size ≤ nb) (hbb : BY w2 nb bb c) (hc64 : 64 ≤ c) :
    TwinAt w k L T (Q ++ [(i, bb)]) e (w3.setCell ⟨e, 2, none⟩ v') := by
  have hbt := hd.bt.congr (ch1.block tb (hd.lt tb hd.ft) id)
  obtain ⟨F', h1, h2⟩ := dwrite_end hd (ch1.mono (fun b q => q.elim)) hbt ch2 ch3 here3 hd.Tl how hv hi hl hnb hbb hc64
  have hfw := hd.fw
  refine ⟨F', h1, ?_, fun b hb => ?_⟩
  · refine hc.trans' (S' := F) ⟨h2.os, h2.tape, h2.output, h2.size, h2.block⟩ (fun b h3 h4 => ?_)
    have := hF b h4
    omega
  · rcases h2.grow b hb with q | q
    · exact hF b q
    · exact Nat.le_trans hc.size q
set_option maxHeartbeats 8000000 in
theorem Try.twin {w : World} {F : Nat → Prop} {d k lb cl tb ct : Nat} {vw : Value} {ds : List (Nat × Nat)} {L T : List UInt8} {Q : List (Nat × List UInt8)} (hd : DW w F d k lb cl tb ct vw ds L T Q) (hQ : Q.length ≤ 1000000) :
    Calls Try.prog 19 #[.pointer (some ⟨d, 0, none⟩)] w fun e w' => ∃ d', e = .returned (.pointer (some ⟨d', 0, none⟩)) ∧ TwinAt w k L T Q d' w' := by
  have HD := Lib.hid hd
  have c0 := hd.c0
  have c1 := hd.c1
  have hk := hd.hk
  have hLl := Lib.hid hd.Ll
  have hTl := Lib.hid hd.Tl
  have aL : ∀ j u, (L.map u8v)[j]? = some u → w.drew.cell? ((⟨lb, 0, none⟩ : Addr).add j) = some u := hd.bl.all
  have aT : ∀ j u, (T.map u8v)[j]? = some u → w.drew.cell? ((⟨tb, 0, none⟩ : Addr).add j) = some u := hd.bt.all
  have hdl := hd.lt d hd.fd
  have htl := hd.lt tb hd.ft
  have hkk : 64 * k ≤ 65536 := by omega
  have hws := own_slice hd.ow
  clear hd
  go_enter Try.func19, Try.ntmps19
  go_wp2
  rename_i K hK
  have rest : ∀ (e : Nat) (wr : World) (u4 u5 u6 u7 u8 u9 u10 u11 u12 u13 u14 u15 u16 u17 u18 u19 u20 u21 u22 u23 u24 u25 u26 u27 u28 u29 u30 u31 u32 u33 u34 u35 u36 u37 u38 u39 u40 u41 u42 u43 : Value), TwinAt w k L T [] e wr → K { tmps := #[.pointer (some ⟨d, 0, none⟩), undef, .pointer none, .pointer (some ⟨e, 0, none⟩), u4, u5, u6, u7, u8, u9, u10, u11, u12, u13, u14, u15, u16, u17, u18, u19, u20, u21, u22, u23, u24, u25, u26, u27, u28, u29, u30, u31, u32, u33, u34, u35, u36, u37, u38, u39, u40, u41, u42, u43], defers := [] } wr := by
    clear c0 c1 aL aT hLl hTl htl
    intro e wr u4 u5 u6 u7 u8 u9 u10 u11 u12 u13 u14 u15 u16 u17 u18 u19 u20 u21 u22 u23 u24 u25 u26 u27 u28 u29 u30 u31 u32 u33 u34 u35 u36 u37 u38 u39 u40 u41 u42 u43 hT
    obtain ⟨A, wc, rfl⟩ := hws
    have c2 : wr.cell? ⟨d, 2, none⟩ = some (.slice A Q.length wc) := by
      obtain ⟨F', h1, h2, h3⟩ := hT
      exact (World.cell?_of_block (w := w) (h2.block d hdl id)).trans (HD.out).c2
    have HT := Lib.hid hT
    clear hT
    refine hK _ _ ?_
    clear hK K
    go_wp2
    go_loopw [23] (fun t wr => ∃ j : Nat, j ≤ Q.length ∧ t = .int .i64 j ∧ TwinAt w k L T (Q.take j) e wr) (fun t _ => Q.length - (intOf t).toNat)
    case atStart => exact ⟨0, Nat.zero_le _, rfl, HT.out⟩
    case round =>
      obtain ⟨j, hj, rfl, hR⟩ := hrel
      by_cases hlt : j < Q.length
      · have hD : decide ((j : Int) < Q.length) = true := by simpa using hlt
        obtain ⟨F', ⟨lb', cl', tb', ct', vw', ds', hd'⟩, hcw, hF'⟩ := hR
        obtain ⟨x, x1, ⟨x2, x3, x4, x5, x6, x7⟩, x8, x9⟩ := AllW.get _ _ (HD.out).al j hlt
        have hDr := (HD.out).stay hcw (fun _ _ => id)
        obtain ⟨wb, rfl, hwl⟩ : ∃ wb, A = some ⟨wb, 0, none⟩ ∧ ∀ i u, (wCells Q ds)[i]? = some u → wr.cell? ⟨wb, i, none⟩ = some u := by
          rcases hDr.ow.2 with ⟨_, h0⟩ | ⟨g, cp, cur, hv, _⟩
          · omega
          · obtain ⟨rfl, _⟩ : A = some ⟨g, 0, none⟩ ∧ wc = cp := by simpa using hv
            refine ⟨g, rfl, fun i u hu => ?_⟩
            have := hDr.ow.cells (g := g) rfl i u hu
            rwa [add_none, Nat.zero_add] at this
        have q1 := hwl _ _ x8
        have q2 := hwl _ _ x9
        rw [Nat.mul_comm 2 j] at q1 q2
        have x6a := (x6.congr (hcw.block _ ((HD.out).lt _ x2) id)).all
        have HDD := Lib.hid hd'
        have X4 := Lib.hid x4
        have hlen : (Q.take j).length = j := by simp; omega
        have HLEN := Lib.hid hlen
        have hTk : Hid (Q.take j ++ [((Q[j]).1, (Q[j]).2)] = Q.take (j + 1)) := Lib.hid (by rw [List.take_succ_eq_append_getElem hlt])
        clear hwl x8 x9 x6 hd' hDr hlen x4
        generalize (Q[j]).1 = qi at *
        generalize (Q[j]).2 = qb at *
        have hel := (HDD.out).lt e (HDD.out).fd
        have hch0 : Chg wr (wr.alloc (.cells #[.int .i64 (qi : Int), .slice (some ⟨x.1, 0, none⟩) 64 x.2] 74)) (fun _ => False) := Chg.alloc _ _ _
        have p0 : (wr.alloc (.cells #[.int .i64 (qi : Int), .slice (some ⟨x.1, 0, none⟩) 64 x.2] 74)).cell? ⟨wr.heap.size, 0, none⟩ = some (.int .i64 (qi : Int)) := cells_at_new wr 74 [.int .i64 (qi : Int), .slice (some ⟨x.1, 0, none⟩) 64 x.2] 0 _ rfl
        have p1 : (wr.alloc (.cells #[.int .i64 (qi : Int), .slice (some ⟨x.1, 0, none⟩) 64 x.2] 74)).cell? ⟨wr.heap.size, 1, none⟩ = some (.slice (some ⟨x.1, 0, none⟩) 64 x.2) := by
          have := cells_at_new wr 74 [.int .i64 (qi : Int), .slice (some ⟨x.1, 0, none⟩) 64 x.2] 1 _ rfl
          rwa [add_none, Nat.zero_add] at this
        have hn0 : wr.heap.size < (wr.alloc (.cells #[.int .i64 (qi : Int), .slice (some ⟨x.1, 0, none⟩) 64 x.2] 74)).heap.size := by simp
        go_wp2
        obtain ⟨W0, hW0⟩ : ∃ W0, W0 = wr.alloc (.cells #[.int .i64 (qi : Int), .slice (some ⟨x.1, 0, none⟩) 64 x.2] 74) := ⟨_, rfl⟩
        rw [← hW0] at hch0 p0 p1 hn0 ⊢
        clear hW0
        obtain ⟨n0, hn0e⟩ : ∃ n0, n0 = wr.heap.size := ⟨_, rfl⟩
        rw [← hn0e] at p0 p1 hn0 ⊢
        clear hn0e
        have t2 : W0.cell? ⟨e, 2, none⟩ = some vw' := (World.cell?_of_block (w := wr) (hch0.block e hel id)).trans (HDD.out).c2
        have x6d : ∀ i u, (qb.map u8v)[i]? = some u → W0.drew.cell? ((⟨x.1, 0, none⟩ : Addr).add i) = some u := cells_of_eq x6a (fun q => hch0.block _ q id)
        have how1 : W0.ownsRow 0 74 2 vw' (Q.take j).length (wCells (Q.take j) ds') := own_stay (HDD.out).ow (fun b hb => hch0.block b ((HDD.out).lt b ((HDD.out).fw b hb).1) id)
        have hb63 : (Q.take j).length + 1 ≤ maxLen := by rw [HLEN.out]; unfold maxLen; omega
        have hb32 : ((Q.take j).length + 1) * 32 ≤ 140737488355328 := by rw [HLEN.out]; omega
        have here1 : Hid (W0.heap[e]? = some (.cells #[.slice (some ⟨lb', 0, none⟩) (64 * k) cl', .slice (some ⟨tb', 0, none⟩) (64 * k) ct', vw'] 71 (0, 0))) := Lib.hid ((hch0.block e hel id).trans (HDD.out).here)
        have hvl : ∀ b ∈ vblk vw', b < W0.heap.size := fun b hb => Nat.lt_of_lt_of_le ((HDD.out).lt b ((HDD.out).fw b hb).1) hch0.size
        have hvd : e ∉ vblk vw' := fun q => ((HDD.out).fw e q).2.1 rfl
        have hel0 : e < W0.heap.size := Nat.lt_of_lt_of_le hel hch0.size
        obtain ⟨i0, hi74, hz0, hz1, hz2⟩ := info_parts Try.info74
        clear x6a q1 q2 c2
        go_region_law (first
          | (refine step_open rfl ?_; go_simp; go_at_call 39; refine (Try.clone ⟨x.1, 0, none⟩ 64 x.2 _ (by omega) qb X4.out x6d).mono ?_; rintro e' w2 ⟨nb, c, rfl, hn, hnc, hby, hbel⟩
             have ch2 : Chg W0 w2 (fun _ => False) := (Chg.below hbel _).ofDrew
             have e2 : w2.cell? ⟨e, 2, none⟩ = some vw' := (World.cell?_of_block (w := W0) (ch2.block e hel0 id)).trans t2
             have e3 : w2.cell? ⟨n0, 0, none⟩ = some (.int .i64 (qi : Int)) := (World.cell?_of_block (w := W0) (ch2.block n0 hn0 id)).trans p0
             have e2a : ∀ o, (w2.alloc o).cell? ⟨e, 2, none⟩ = some vw' := fun o => (World.cell?_of_block (w := W0) ((ch2.trans (Chg.alloc w2 o _)).block e hel0 id)).trans t2
             clear hbel)
          | (refine step_append_at rfl (.tmp 31) (.tmp 38) 69 rfl 74 i0 (.agg #[.int .i64 0, .slice none 0 0]) 2 32 Try.underlying69 hi74 hz0 hz1 hz2 rfl (by decide) vw' (Q.take j).length (wCells (Q.take j) ds') rfl (own_stay how1 (fun b hb => (ch2.trans (Chg.alloc w2 _ _)).block b (hvl b hb) id)) _ 1 1 [.int .i64 (qi : Int), .slice (some ⟨nb, 0, none⟩) 64 c] rfl rfl (cells_at_new w2 74 _) (by simp [Value.oneCell']) hb63 hb32 ?_
             intro v' w3 how3 ch3 hv3 hvs
             obtain ⟨A', n', c', rfl⟩ := hvs
             have here3 : w3.heap[e]? = some (.cells #[.slice (some ⟨lb', 0, none⟩) (64 * k) cl', .slice (some ⟨tb', 0, none⟩) (64 * k) ct', vw'] 71 (0, 0)) := ((((ch2.trans (Chg.alloc w2 _ _)).mono (fun _ q => q.elim)).trans ch3).block e hel0 hvd).trans here1.out
             have c3 : w3.cell? ⟨e, 2, none⟩ = some vw' := by rw [cell_of_row w3 e 2 _ 71 (0, 0) here3]; rfl
             have f3 := frozen_of_row w3 e 2 _ 71 here3
             have HH3 := Lib.hid here3
             clear here3))
        all_goals
          have HN : Hid (TwinAt w k L T (Q.take (j + 1)) e (w3.setCell ⟨e, 2, none⟩ (.slice A' n' c'))) := Lib.hid (by
            rw [← hTk.out]
            exact twin_next HDD.out hF' hcw hch0 ch2 ch3 HH3.out how3 hv3 x5 X4.out hn hby hnc)
          clear e2a e2 e3 c3 f3 how3 hv3
          go_wp2
          go_roundw
          case rel => exact ⟨j + 1, by omega, by go_num, HN.out⟩
          case measure => simp [intOf]; omega
      · obtain rfl : j = Q.length := by omega
        have hD : decide ((Q.length : Int) < Q.length) = false := by simp
        rw [List.take_length] at hR
        have HR := Lib.hid hR
        clear hR
        go_wp2
        go_ret
        exact ⟨e, rfl, HR.out⟩
  clear hK
  go_region_law (first
    | (refine step_open rfl ?_; go_simp; go_at_call 39; refine (Try.clone ⟨lb, 0, none⟩ (64 * k) cl _ hkk L hLl.out aL).mono ?_; rintro e w1 ⟨b1, q1, rfl, h1, hc1, hb1, hw1⟩
       have ch1 : Chg w w1 (fun _ => False) := (Chg.below hw1 _).ofDrew
       have e1 : w1.cell? ⟨d, 1, none⟩ = some (.slice (some ⟨tb, 0, none⟩) (64 * k) ct) := (World.cell?_of_block (w := w) (ch1.block d hdl id)).trans c1
       have aT1 := cells_of_eq aT (fun q => ch1.block tb q id)
       clear hw1)
    | (refine step_open rfl ?_; go_simp; go_at_call 39; refine (Try.clone ⟨tb, 0, none⟩ (64 * k) ct _ hkk T hTl.out aT1).mono ?_; rintro e w2 ⟨b2, q2, rfl, h2, hc2, hb2, hw2⟩
       have ch2 : Chg w1 w2 (fun _ => False) := Chg.below hw2 _
       clear hw2))
  all_goals
    exact rest _ _ _ _ _ _ _ _ _ _ _ _ _ _ _ _ _ _ _ _ _ _ _ _ _ _ _ _ _ _ _ _ _ _ _ _ _ _ _ _ _ _ (twin_start hk hLl.out hTl.out h1 hc1 hb1 ch1 h2 hc2 hb2 ch2)
end Go.Proofs
