/-
  Texts of a proof over the translated program: proved evaluators and walks, part 14 of 17.
-/
import Derived.Test.YtcmjccjbgidinaaPart13
import Derived.Below
import Derived.Deep.RegionHeld3
import Derived.Deep.RegionLaw
import Derived.Deep.RegionLawGrows
import Derived.Deep.RegionWith
import Derived.Handy
import Derived.IntWalk
import Derived.Laws.CopyOwn
import Derived.Laws.MakeOwn
import Derived.Lib.Hide
import Derived.LoopTactic
import Derived.Outline
import Derived.OwnWalk
import Derived.Scope
import Derived.ScopeJumps
import Derived.Test.YtcmjccjbgidinaaProg
import Derived.WalkKit
import Derived.WalkSpells
import Derived.Lib.SlBytesRow
set_option linter.unusedVariables false
set_option linter.unusedSimpArgs false
set_option linter.unusedSectionVars false
set_option linter.unnecessarySimpa false
section
namespace Go.Proofs
open Go.RowKit
set_option maxRecDepth 100000
def dset (kp : Nat → Bool) : Nat → List (Nat × List UInt8) → List UInt8 → List UInt8
  | _, [], L => L
  | j, q :: Q, L => dset kp (j + 1) Q (if kp j then L.take (q.1 * 64) ++ (q.2 ++ L.drop (q.1 * 64 + 64)) else L)
theorem DW.lay {w w' : World} {F : Nat → Prop} {d k lb cl tb ct : Nat} {vw : Value} {ds : List (Nat × Nat)} {L L' T : List UInt8} {Q : List (Nat × List UInt8)} (hd : DW w F d k lb cl tb ct vw ds L T Q) (ho : Only w w' lb) (hb : BY w' lb L' cl) (hl : L'.length = 64 * k) :
    DW w' F d k lb cl tb ct vw ds L' T Q := by
  refine ⟨fun b h => by rw [ho.size]; exact hd.lt b h, (ho.block d hd.dl).trans hd.here, hd.fd, hd.fl, hd.ft, hd.dl, hd.dt, hd.lt', hd.hk, hl, hd.Tl, hb, hd.bt.congr (ho.block tb hd.lt'.symm), hd.cl', hd.ct', ?_, hd.fw, ?_⟩
  · exact own_stay hd.ow (fun b hb => ho.block b (hd.fw b hb).2.2.1)
  · refine AllW.stay (fun b q => q) (fun b q1 q2 => ⟨ho.block b (fun e => q2 (by simp [e])), q2⟩) _ _ hd.al
theorem DW.clear {w : World} {F : Nat → Prop} {d k lb cl tb ct : Nat} {vw : Value} {ds : List (Nat × Nat)} {L T : List UInt8} {Q : List (Nat × List UInt8)} (hd : DW w F d k lb cl tb ct vw ds L T Q) :
    DW (w.setCell ⟨d, 2, none⟩ (.slice none 0 0)) F d k lb cl tb ct (.slice none 0 0) [] L T [] := by
  have hb : ∀ b, b ≠ d → (w.setCell ⟨d, 2, none⟩ (.slice none 0 0)).heap[b]? = w.heap[b]? := fun b h => Below.heap_setCell _ _ _ _ h
  refine ⟨fun b h => by simpa [World.setCell] using hd.lt b h, ?_, hd.fd, hd.fl, hd.ft, hd.dl, hd.dt, hd.lt', hd.hk, hd.Ll, hd.Tl, hd.bl.congr (hb lb hd.dl.symm), hd.bt.congr (hb tb hd.dt.symm), hd.cl', hd.ct', World.ownsRow_nil _ _ _ _, fun b h => by simp [vblk] at h, trivial⟩
  rw [heap_setCell_same w d 2 _ 71 _ hd.here]; rfl
structure SRel (w : World) (F : Nat → Prop) (d k lb cl tb ct : Nat) (vw : Value) (ds : List (Nat × Nat)) (L T : List UInt8) (Q : List (Nat × List UInt8)) (kp : Nat → Bool) (j : Nat) (Lj : List UInt8) (wr : World) : Prop where
  le : j ≤ Q.length
  dw : DW wr F d k lb cl tb ct vw ds Lj T Q
  to : dset kp j (Q.drop j) Lj = dset kp 0 Q L
  ch : Chg w wr (· = lb)
theorem SRel.next {w w1 wr : World} {F : Nat → Prop} {d k lb cl tb ct : Nat} {vw : Value} {ds : List (Nat × Nat)} {L T : List UInt8} {Q : List (Nat × List UInt8)} {kp : Nat → Bool} {j : Nat} {Lj : List UInt8}
    (h : SRel w F d k lb cl tb ct vw ds L T Q kp j Lj wr) (hj : j < Q.length) (hk : kp j = true) (ho : Only wr w1 lb) (hb : BY w1 lb (Lj.take ((Q[j]).1 * 64) ++ ((Q[j]).2 ++ Lj.drop ((Q[j]).1 * 64 + 64))) cl) :
    SRel w F d k lb cl tb ct vw ds L T Q kp (j + 1) (Lj.take ((Q[j]).1 * 64) ++ ((Q[j]).2 ++ Lj.drop ((Q[j]).1 * 64 + 64))) w1 := by
  obtain ⟨x, h1, ⟨h2, h3, h4, h5, h6, h7⟩, _⟩ := AllW.get _ _ h.dw.al j hj
  have hL := h.dw.Ll
  refine ⟨by omega, h.dw.lay ho hb (by simp [h4]; omega), ?_, h.ch.trans (Chg.only ho)⟩
  rw [← h.to, List.drop_eq_getElem_cons hj]
  simp only [dset, hk, if_true]
theorem SRel.skip {w wr : World} {F : Nat → Prop} {d k lb cl tb ct : Nat} {vw : Value} {ds : List (Nat × Nat)} {L T : List UInt8} {Q : List (Nat × List UInt8)} {kp : Nat → Bool} {j : Nat} {Lj : List UInt8}
    (h : SRel w F d k lb cl tb ct vw ds L T Q kp j Lj wr) (hj : j < Q.length) (hk : kp j = false) : SRel w F d k lb cl tb ct vw ds L T Q kp (j + 1) Lj wr := by
  refine ⟨by omega, h.dw, ?_, h.ch⟩
  rw [← h.to, List.drop_eq_getElem_cons hj]
  simp only [dset, hk]
  rfl
def Settled (w : World) (F : Nat → Prop) (d k lb cl tb ct : Nat) (L T : List UInt8) (e : Ending) (w' : World) : Prop :=
  e = .returned (.tuple #[]) ∧ DW w' F d k lb cl tb ct (.slice none 0 0) [] L T [] ∧ Chg w w' (fun b => b = lb ∨ b = d)
theorem SRel.done {w wr : World} {F : Nat → Prop} {d k lb cl tb ct : Nat} {vw : Value} {ds : List (Nat × Nat)} {L T : List UInt8} {Q : List (Nat × List UInt8)} {kp : Nat → Bool} {Lj : List UInt8}
    (h : SRel w F d k lb cl tb ct vw ds L T Q kp Q.length Lj wr) : Settled w F d k lb cl tb ct (dset kp 0 Q L) T (.returned (.tuple #[])) (wr.setCell ⟨d, 2, none⟩ (.slice none 0 0)) := by
  have e := h.to
  rw [List.drop_length] at e
  simp only [dset] at e
  subst e
  exact ⟨rfl, h.dw.clear, (h.ch.mono (fun b q => .inl q)).trans ((Chg.setCell _ _ _).mono (fun b q => .inr q))⟩
end Go.Proofs
end

section
namespace Go.Proofs
open Go.RowKit
set_option maxRecDepth 100000
theorem step_copy_to {P : Program} {ops : Array Oper} {o : Oper} {a : Act} {w : World} {K : Act → World → Prop} {Q : Exit → Act → World → Prop} {E : Prop} (hgd : o.guard = none) (d s : Operand) (dT sT : TypeId)
    (ho : o.op = .call { callee := .builtin .copy, args := #[d, s], argTypes := #[dT, sT] }) (hu : P.underlying dT = some (.slice 5)) (hsz : (P.info? 5).map (·.size) = some 1)
    (g off c : Nat) (T : List UInt8) (n dl dCap : Nat) (A : Addr) (m : Nat) (bb : List UInt8) (hd : a.eval d = .slice (some ⟨g, off, none⟩) dl dCap) (hs : a.eval s = .slice (some A) n m) (hdl : n ≤ dl)
    (hg : BY w g T c) (hl : bb.length = n) (hc : ∀ j u, (bb.map u8v)[j]? = some u → w.cell? (A.add j) = some u) (hfit : off + n ≤ T.length)
    (h : ∀ w', BY w' g (T.take off ++ (bb ++ T.drop (off + n))) c → Only w w' g → K (a.put o.dst (goInt n)) w') : if Region.wanted o (yielded ops a.tmps) = true then Oper.wp P o a w K Q else E := by
  refine step_open hgd ?_
  obtain ⟨pad, g1, g2, g3⟩ := hg
  have hr := run_copy_row P w dT sT o.type 5 g off dl dCap A n m _ 5 (bb.map u8v) hu hsz g1 (by simp [hl]; exact (Nat.min_eq_left hdl).symm) hc (by simp; omega) (u8v_one bb)
  simp only [List.length_map, hl] at hr
  unfold Oper.wp
  simp [execOp, ho, resolve, invoke, builtin, hd, hs, hr, Result.andThen]
  refine h _ ⟨pad, ?_, by simp; omega, g3⟩ ⟨rfl, rfl, rfl, by simp, fun b hb => setRow_other w g b _ hb⟩
  have e := setRow_heap w g _ (List.take off (List.map u8v T ++ pad) ++ (List.map u8v bb ++ List.drop (off + n) (List.map u8v T ++ pad))).toArray 5 _ g1
  rw [List.append_assoc] at *
  rw [e]
  simp only [List.map_append, List.map_take, List.map_drop]
  rw [List.take_append_of_le_length (by simp; omega), List.drop_append_of_le_length (by simp; omega)]
  simp [List.append_assoc]
structure YRel (w : World) (k nb c : Nat) (D : List UInt8) (Q : List (Nat × List UInt8)) (j : Nat) (Dj : List UInt8) (wr : World) : Prop where
  le : j ≤ Q.length
  hnb : w.heap.size ≤ nb
  by' : BY wr nb Dj c
  len : Dj.length = 64 * k
  to : dset (fun _ => true) j (Q.drop j) Dj = dset (fun _ => true) 0 Q D
  ch : Chg w wr (fun _ => False)
theorem YRel.next {w wr w1 : World} {k nb c : Nat} {D : List UInt8} {Q : List (Nat × List UInt8)} {j : Nat} {Dj : List UInt8} (h : YRel w k nb c D Q j Dj wr) (hj : j < Q.length) (h64 : (Q[j]).2.length = 64) (hk : (Q[j]).1 < k) (ho : Only wr w1 nb)
    (hb : BY w1 nb (Dj.take ((Q[j]).1 * 64) ++ ((Q[j]).2 ++ Dj.drop ((Q[j]).1 * 64 + 64))) c) : YRel w k nb c D Q (j + 1) (Dj.take ((Q[j]).1 * 64) ++ ((Q[j]).2 ++ Dj.drop ((Q[j]).1 * 64 + 64))) w1 := by
  have hl := h.len
  have hn := h.hnb
  refine ⟨by omega, h.hnb, hb, by simp [h64]; omega, ?_, h.ch.trans' (Chg.only ho) (fun b hb e => by have : b = nb := e; omega)⟩
  rw [← h.to, List.drop_eq_getElem_cons hj]
  simp only [dset, if_true]
def RSynced (w : World) (F : Nat → Prop) (m k : Nat) (D : List UInt8) (e : Ending) (w' : World) : Prop := e = .returned (.tuple #[]) ∧ ∃ F', RV w' F' m k D [] ∧ Upd w w' F F' ∧ Chg w w' (· = m) ∧ ∃ db c, w'.cell? ⟨m, 0, none⟩ = some (.slice (some ⟨db, 0, none⟩) (64 * k) c) ∧ w.heap.size ≤ db ∧ BY w' db D c ∧ 64 * k ≤ c
theorem rsync_end {w wr : World} {F : Nat → Prop} {m k db dc wc nb c : Nat} {A : Option Addr} {ds : List (Nat × Nat)} {D Dj : List UInt8} {Q : List (Nat × List UInt8)} (h : RW w F m k db dc A wc ds D Q) (hy : YRel w k nb c D Q Q.length Dj wr) (hc : 64 * k ≤ c) :
    RSynced w F m k (dset (fun _ => true) 0 Q D) (.returned (.tuple #[])) ((wr.setCell ⟨m, 0, none⟩ (.slice (some ⟨nb, 0, none⟩) (64 * k) c)).setCell ⟨m, 1, none⟩ (.slice none 0 0)) := by
  have e := hy.to
  rw [List.drop_length] at e
  simp only [dset] at e
  subst e
  have hml := h.lt m h.fm
  have hn := hy.hnb
  have hnl := hy.by'.lt
  have hs := hy.ch.size
  obtain ⟨V, hV⟩ : ∃ V, V = Value.slice (some ⟨nb, 0, none⟩) (64 * k) c := ⟨_, rfl⟩
  rw [← hV]
  obtain ⟨W1, hW1⟩ : ∃ W1, W1 = wr.setCell ⟨m, 0, none⟩ V := ⟨_, rfl⟩
  have k1 : ∀ b, b ≠ m → W1.heap[b]? = wr.heap[b]? := fun b q => by rw [hW1]; exact Below.heap_setCell _ _ _ _ q
  have z1 : W1.heap.size = wr.heap.size := by rw [hW1]; simp [World.setCell]
  have d1 : Chg wr W1 (· = m) := by rw [hW1]; exact Chg.setCell wr ⟨m, 0, none⟩ V
  have h1 : W1.heap[m]? = some (.cells #[V, .slice A Q.length wc] 60 (0, 0)) := by
    rw [hW1, heap_setCell_same wr m 0 _ 60 V ((hy.ch.block m hml id).trans h.here)]; rfl
  rw [← hW1]
  clear hW1
  obtain ⟨W, hW⟩ : ∃ W, W = W1.setCell ⟨m, 1, none⟩ (.slice none 0 0) := ⟨_, rfl⟩
  have hk : ∀ b, b ≠ m → W.heap[b]? = wr.heap[b]? := fun b q => by rw [hW]; exact (Below.heap_setCell _ _ _ _ q).trans (k1 b q)
  have hsz : W.heap.size = wr.heap.size := by rw [hW, ← z1]; simp [World.setCell]
  have d2 : Chg W1 W (· = m) := by rw [hW]; exact Chg.setCell W1 ⟨m, 1, none⟩ _
  have here : W.heap[m]? = some (.cells #[.slice (some ⟨nb, 0, none⟩) (64 * k) c, .slice none 0 0] 60 (0, 0)) := by
    rw [hW, heap_setCell_same W1 m 1 _ 60 _ h1, hV]; rfl
  rw [← hW]
  clear hW h1 k1 z1 hV
  have hby := hy.by'.congr (hk nb (by omega))
  have hch : Chg w W (· = m) := ((hy.ch.mono (S' := (· = m)) (fun b q => q.elim)).trans d1).trans d2
  have hcell : W.cell? ⟨m, 0, none⟩ = some (.slice (some ⟨nb, 0, none⟩) (64 * k) c) := by
    rw [cell_of_row _ m 0 _ 60 (0, 0) here]; rfl
  refine ⟨rfl, fun b => F b ∨ (w.heap.size ≤ b ∧ b < wr.heap.size), ⟨nb, c, none, 0, [], ?_⟩, ⟨hch.os, hch.tape, hch.output, hch.size, fun b hb hn => hch.block b hb (fun q => hn (q ▸ h.fm)), fun b q => q.imp id (·.1)⟩, hch, nb, c, hcell, hn, hby, hc⟩
  refine ⟨fun b q => ?_, here, .inl h.fm, .inr ⟨hn, hnl⟩, by omega, h.hk, hy.len, hby, hc, .inl ⟨rfl, rfl, rfl⟩, trivial⟩
  rw [hsz]
  rcases q with q | q
  · exact Nat.lt_of_lt_of_le (h.lt b q) hs
  · exact q.2
set_option maxHeartbeats 2000000 in
theorem Try.rsync {w : World} {F : Nat → Prop} {m k db dc wc : Nat} {A : Option Addr} {ds : List (Nat × Nat)} {D : List UInt8} {Q : List (Nat × List UInt8)} (h : RW w F m k db dc A wc ds D Q) (hQ : Q.length ≤ 1000000) :
    Calls Try.prog 16 #[.pointer (some ⟨m, 0, none⟩)] w (RSynced w F m k (dset (fun _ => true) 0 Q D)) := by
  have H := Lib.hid h
  have c0 := h.c0
  have a0 := cellA c0
  have hk := h.hk
  have hml := h.lt m h.fm
  have HAL := Lib.hid h.bd.all
  have HDL := Lib.hid h.Dl
  clear h
  go_enter Try.func16, Try.ntmps16
  go_wp2_with (at_builtin; refine wpList_app_empty w rfl (.tmp 4) (.tmp 8) rfl Try.underlying31 Try.info5 ⟨db, 0, none⟩ (64 * k) dc D rfl rfl HDL.out (by omega) HAL.out ?_)
  intro nb c w1 r1 r2 r3 r4
  have H0 : Hid (YRel w k nb c D Q 0 D w1) := Lib.hid ⟨Nat.zero_le _, r1, r3, HDL.out, rfl, Chg.below r4 _⟩
  clear r3 r4 a0 c0
  go_wp2
  go_loopw [3] (fun t wr => ∃ (j : Nat) (Dj : List UInt8), j ≤ Q.length ∧ t = .int .i64 j ∧ YRel w k nb c D Q j Dj wr) (fun t _ => Q.length - (intOf t).toNat)
  case atStart => exact ⟨0, D, Nat.zero_le _, rfl, H0.out⟩
  case round =>
    obtain ⟨j, Dj, hj, rfl, hR⟩ := hrel
    have HR := Lib.hid hR
    have hrw := (H.out).keep hR.ch (fun _ _ => id)
    have c1 := hrw.c1
    by_cases hlt : j < Q.length
    · have hD : decide ((j : Int) < Q.length) = true := by simpa using hlt
      obtain ⟨x, x1, ⟨x2, x3, x4, x5, x6, x7⟩, x8, x9⟩ := AllW.get _ _ hrw.al j hlt
      obtain ⟨wb, rfl, hwm, hwl, hwF⟩ : ∃ wb, A = some ⟨wb, 0, none⟩ ∧ wb ≠ m ∧ (∀ i u, (wCells Q ds)[i]? = some u → wr.cell? ⟨wb, i, none⟩ = some u) ∧ wb < w.heap.size := by
        rcases (H.out).aw with ⟨_, h0, _⟩ | ⟨b, q1, q2, q3, q4, q5⟩
        · rw [h0] at hlt; simp at hlt
        · exact ⟨b, q1, q3, fun i u hu => (World.cell?_of_block (w := w) (a := ⟨b, i, none⟩) (hR.ch.block b ((H.out).lt b q2) id)).trans (q5 i u hu), (H.out).lt b q2⟩
      have e1 := hwl _ _ x8
      have e2 := hwl _ _ x9
      rw [Nat.mul_comm 2 j] at e1 e2
      have C1 := Lib.hid c1
      have E1 := Lib.hid e1
      have E2 := Lib.hid e2
      have X4 := Lib.hid x4
      have hnb := hR.hnb
      have hDl := hR.len
      have HN0 := Lib.hid (fun w1 => hR.next (w1 := w1) hlt x4 x5)
      have G1 : Hid (BY wr.drew nb Dj c) := Lib.hid hR.by'
      have X6 : Hid (∀ i u, (((Q[j]).2).map u8v)[i]? = some u → wr.drew.cell? ((⟨x.1, 0, none⟩ : Addr).add i) = some u) := Lib.hid x6.all
      have hfit : (Q[j]).1 * 64 + 64 ≤ Dj.length := by omega
      have h5 : (Try.prog.info? 5).map (·.size) = some 1 := by kernel_rfl
      have hj0 : (0 : Int) ≤ (j : Int) := by omega
      have hjl : (j : Int) < (Q.length : Int) := by omega
      have hqk : 64 * (Q[j]).1 + 64 ≤ 64 * k := by omega
      clear hR hrw x8 x9 hwl x6 x4 hDl
      go_wp2
      generalize hqi : (Q[j]).1 = qi at *
      have hw64 : IntKind.i64.wrap (64 * (qi : Int)) = ((64 * qi : Nat) : Int) := by rw [IntKind.wrap_i64]; omega
      have hb0 : (0 : Int) ≤ ((64 * qi : Nat) : Int) := by omega
      have hb1 : ((64 * qi : Nat) : Int) ≤ ((64 * k : Nat) : Int) := by omega
      refine wp_region_noPanic ?_
      refine wp_region_held_drew (S := (fun W => W.cell? ⟨m, 1, none⟩ = some (.slice (some ⟨wb, 0, none⟩) Q.length wc) ∧ W.cell? ⟨wb, j * 2, none⟩ = some (.int .i64 (qi : Int)) ∧ W.cell? ⟨wb, j * 2 + 1, none⟩ = some (.slice (some ⟨x.1, 0, none⟩) 64 x.2))) (by kernel_rfl) ?_ (fun hHeld => ?_)
      · exact ⟨C1.out, E1.out, E2.out⟩
      refine wpAnyH_take (i := 0) (oi := { dst := some 19, op := Op.move (Operand.tmp 2), type := 31, pos := "ref.go:63", after := #[], guard := none }) (v := ?_) rfl (by kernel_rfl) (by kernel_rfl) (by kernel_rfl) (fun _ _ _ h => h) (Or.inl ⟨by rfl, ?_⟩) (by assumption) ?_
      rotate_left
      · (intro w hSw; (try dsimp only at hSw); go_simp; try with_reducible rfl)
      try simp only [Act.put, List.setIfInBounds_toArray, List.set_cons_zero, List.set_cons_succ]
      refine wpAnyH_take (i := 1) (oi := { dst := some 20, op := Op.move (Operand.tmp 0), type := 28, pos := "ref.go:63", after := #[], guard := none }) (v := ?_) rfl (by kernel_rfl) (by kernel_rfl) (by kernel_rfl) (fun _ _ _ h => h) (Or.inl ⟨by rfl, ?_⟩) (by assumption) ?_
      rotate_left
      · (intro w hSw; (try dsimp only at hSw); go_simp; try with_reducible rfl)
      try simp only [Act.put, List.setIfInBounds_toArray, List.set_cons_zero, List.set_cons_succ]
      refine wpAnyH_take (i := 2) (oi := { dst := some 21, op := Op.nilCheck (Operand.tmp 20), type := 0, pos := "ref.go:63", after := #[{ on := 1, ground := Ground.data }], guard := none }) (v := ?_) rfl (by kernel_rfl) (by kernel_rfl) (by kernel_rfl) (fun _ _ _ h => h) (Or.inl ⟨by rfl, ?_⟩) (by assumption) ?_
      rotate_left
      · (intro w hSw; (try dsimp only at hSw); go_simp; try with_reducible rfl)
      try simp only [Act.put, List.setIfInBounds_toArray, List.set_cons_zero, List.set_cons_succ]
      refine wpAnyH_take (i := 3) (oi := { dst := some 22, op := Op.fieldAddr 60 (Operand.tmp 21) 1, type := 0, pos := "ref.go:63", after := #[{ on := 2, ground := Ground.data }], guard := none }) (v := ?_) rfl (by kernel_rfl) (by kernel_rfl) (by kernel_rfl) (fun _ _ _ h => h) (Or.inl ⟨by rfl, ?_⟩) (by assumption) ?_
      rotate_left
      · (intro w hSw; (try dsimp only at hSw); go_simp; try with_reducible rfl)
      try simp only [Act.put, List.setIfInBounds_toArray, List.set_cons_zero, List.set_cons_succ]
      refine wpAnyH_take (i := 4) (oi := { dst := some 23, op := Op.load 58 (Operand.tmp 22), type := 58, pos := "ref.go:63", after := #[{ on := 3, ground := Ground.data }], guard := none }) (v := ?_) rfl (by kernel_rfl) (by kernel_rfl) (by kernel_rfl) (fun _ _ _ h => h) (Or.inl ⟨by rfl, ?_⟩) (by assumption) ?_
      rotate_left
      · (intro w hSw; (try dsimp only at hSw); go_simp; try with_reducible rfl)
      try simp only [Act.put, List.setIfInBounds_toArray, List.set_cons_zero, List.set_cons_succ]
      refine wpAnyH_take (i := 5) (oi := { dst := some 24, op := Op.move (Operand.tmp 3), type := 3, pos := "ref.go:63", after := #[], guard := none }) (v := ?_) rfl (by kernel_rfl) (by kernel_rfl) (by kernel_rfl) (fun _ _ _ h => h) (Or.inl ⟨by rfl, ?_⟩) (by assumption) ?_
      rotate_left
      · (intro w hSw; (try dsimp only at hSw); go_simp; try with_reducible rfl)
      try simp only [Act.put, List.setIfInBounds_toArray, List.set_cons_zero, List.set_cons_succ]
      refine wpAnyH_take (i := 6) (oi := { dst := some 25, op := Op.indexAddr 58 (Operand.tmp 23) (Operand.tmp 24), type := 0, pos := "ref.go:63", after := #[{ on := 4, ground := Ground.data }, { on := 5, ground := Ground.data }], guard := none }) (v := ?_) rfl (by kernel_rfl) (by kernel_rfl) (by kernel_rfl) (fun _ _ _ h => h) (Or.inl ⟨by rfl, ?_⟩) (by assumption) ?_
      rotate_left
      · (intro w hSw; (try dsimp only at hSw); go_simp; try with_reducible rfl)
      try simp only [Act.put, List.setIfInBounds_toArray, List.set_cons_zero, List.set_cons_succ]
      refine wpAnyH_take (i := 7) (oi := { dst := some 26, op := Op.fieldAddr 76 (Operand.tmp 25) 0, type := 0, pos := "ref.go:63", after := #[{ on := 6, ground := Ground.data }], guard := none }) (v := ?_) rfl (by kernel_rfl) (by kernel_rfl) (by kernel_rfl) (fun _ _ _ h => h) (Or.inl ⟨by rfl, ?_⟩) (by assumption) ?_
      rotate_left
      · (intro w hSw; (try dsimp only at hSw); go_simp; try with_reducible rfl)
      try simp only [Act.put, List.setIfInBounds_toArray, List.set_cons_zero, List.set_cons_succ]
      refine wpAnyH_take (i := 8) (oi := { dst := some 27, op := Op.load 3 (Operand.tmp 26), type := 3, pos := "ref.go:63", after := #[{ on := 7, ground := Ground.data }], guard := none }) (v := ?_) rfl (by kernel_rfl) (by kernel_rfl) (by kernel_rfl) (fun _ _ _ h => h) (Or.inl ⟨by rfl, ?_⟩) (by assumption) ?_
      rotate_left
      · (intro w hSw; (try dsimp only at hSw); go_simp; try with_reducible rfl)
      try simp only [Act.put, List.setIfInBounds_toArray, List.set_cons_zero, List.set_cons_succ]
      refine wpAnyH_take (i := 9) (oi := { dst := some 28, op := Op.binOp BinOp.mul 3 (Operand.const (Value.int IntKind.i64 64)) (Operand.tmp 27) 3, type := 3, pos := "ref.go:63", after := #[{ on := 8, ground := Ground.data }], guard := none }) (v := ?_) rfl (by kernel_rfl) (by kernel_rfl) (by kernel_rfl) (fun _ _ _ h => h) (Or.inl ⟨by rfl, ?_⟩) (by assumption) ?_
      rotate_left
      · (intro w hSw; (try dsimp only at hSw); go_simp; try with_reducible rfl)
      try simp only [Act.put, List.setIfInBounds_toArray, List.set_cons_zero, List.set_cons_succ]
      refine wpAnyH_take (i := 11) (oi := { dst := some 30, op := Op.move (Operand.tmp 0), type := 28, pos := "ref.go:63", after := #[], guard := none }) (v := ?_) rfl (by kernel_rfl) (by kernel_rfl) (by kernel_rfl) (fun _ _ _ h => h) (Or.inl ⟨by rfl, ?_⟩) (by assumption) ?_
      rotate_left
      · (intro w hSw; (try dsimp only at hSw); go_simp; try with_reducible rfl)
      try simp only [Act.put, List.setIfInBounds_toArray, List.set_cons_zero, List.set_cons_succ]
      refine wpAnyH_take (i := 12) (oi := { dst := some 31, op := Op.nilCheck (Operand.tmp 30), type := 0, pos := "ref.go:63", after := #[{ on := 11, ground := Ground.data }], guard := none }) (v := ?_) rfl (by kernel_rfl) (by kernel_rfl) (by kernel_rfl) (fun _ _ _ h => h) (Or.inl ⟨by rfl, ?_⟩) (by assumption) ?_
      rotate_left
      · (intro w hSw; (try dsimp only at hSw); go_simp; try with_reducible rfl)
      try simp only [Act.put, List.setIfInBounds_toArray, List.set_cons_zero, List.set_cons_succ]
      refine wpAnyH_take (i := 13) (oi := { dst := some 32, op := Op.fieldAddr 60 (Operand.tmp 31) 1, type := 0, pos := "ref.go:63", after := #[{ on := 12, ground := Ground.data }], guard := none }) (v := ?_) rfl (by kernel_rfl) (by kernel_rfl) (by kernel_rfl) (fun _ _ _ h => h) (Or.inl ⟨by rfl, ?_⟩) (by assumption) ?_
      rotate_left
      · (intro w hSw; (try dsimp only at hSw); go_simp; try with_reducible rfl)
      try simp only [Act.put, List.setIfInBounds_toArray, List.set_cons_zero, List.set_cons_succ]
      refine wpAnyH_take (i := 14) (oi := { dst := some 33, op := Op.load 58 (Operand.tmp 32), type := 58, pos := "ref.go:63", after := #[{ on := 13, ground := Ground.data }], guard := none }) (v := ?_) rfl (by kernel_rfl) (by kernel_rfl) (by kernel_rfl) (fun _ _ _ h => h) (Or.inl ⟨by rfl, ?_⟩) (by assumption) ?_
      rotate_left
      · (intro w hSw; (try dsimp only at hSw); go_simp; try with_reducible rfl)
      try simp only [Act.put, List.setIfInBounds_toArray, List.set_cons_zero, List.set_cons_succ]
      refine wpAnyH_take (i := 15) (oi := { dst := some 34, op := Op.move (Operand.tmp 3), type := 3, pos := "ref.go:63", after := #[], guard := none }) (v := ?_) rfl (by kernel_rfl) (by kernel_rfl) (by kernel_rfl) (fun _ _ _ h => h) (Or.inl ⟨by rfl, ?_⟩) (by assumption) ?_
      rotate_left
      · (intro w hSw; (try dsimp only at hSw); go_simp; try with_reducible rfl)
      try simp only [Act.put, List.setIfInBounds_toArray, List.set_cons_zero, List.set_cons_succ]
      refine wpAnyH_take (i := 16) (oi := { dst := some 35, op := Op.indexAddr 58 (Operand.tmp 33) (Operand.tmp 34), type := 0, pos := "ref.go:63", after := #[{ on := 14, ground := Ground.data }, { on := 15, ground := Ground.data }], guard := none }) (v := ?_) rfl (by kernel_rfl) (by kernel_rfl) (by kernel_rfl) (fun _ _ _ h => h) (Or.inl ⟨by rfl, ?_⟩) (by assumption) ?_
      rotate_left
      · (intro w hSw; (try dsimp only at hSw); go_simp; try with_reducible rfl)
      try simp only [Act.put, List.setIfInBounds_toArray, List.set_cons_zero, List.set_cons_succ]
      refine wpAnyH_take (i := 17) (oi := { dst := some 36, op := Op.fieldAddr 76 (Operand.tmp 35) 1, type := 0, pos := "ref.go:63", after := #[{ on := 16, ground := Ground.data }], guard := none }) (v := ?_) rfl (by kernel_rfl) (by kernel_rfl) (by kernel_rfl) (fun _ _ _ h => h) (Or.inl ⟨by rfl, ?_⟩) (by assumption) ?_
      rotate_left
      · (intro w hSw; (try dsimp only at hSw); go_simp; try with_reducible rfl)
      try simp only [Act.put, List.setIfInBounds_toArray, List.set_cons_zero, List.set_cons_succ]
      refine wpAnyH_take (i := 18) (oi := { dst := some 37, op := Op.load 31 (Operand.tmp 36), type := 31, pos := "ref.go:63", after := #[{ on := 17, ground := Ground.data }], guard := none }) (v := ?_) rfl (by kernel_rfl) (by kernel_rfl) (by kernel_rfl) (fun _ _ _ h => h) (Or.inl ⟨by rfl, ?_⟩) (by assumption) ?_
      rotate_left
      · (intro w hSw; (try dsimp only at hSw); go_simp; try with_reducible rfl)
      try simp only [Act.put, List.setIfInBounds_toArray, List.set_cons_zero, List.set_cons_succ]
      refine wpAnyH_ready (rs := [10]) (by kernel_rfl) (by simp) ?_
      refine AllReadyH.cons (o := { dst := some 29, op := Op.slice 31 (Operand.tmp 19) (some (Operand.tmp 28)) none none, type := 31, pos := "ref.go:63", after := #[{ on := 0, ground := Ground.data }, { on := 9, ground := Ground.data }], guard := none }) rfl (fun K hK => ?_) AllReadyH.nil
      go_simp
      go_wp2_with fail
      refine hK.out _ _ ?_ (fun hHeld => ?_)
      · exact ⟨C1.out, E1.out, E2.out⟩
      clear hK K
      try simp only [Act.put, List.setIfInBounds_toArray, List.set_cons_zero, List.set_cons_succ]
      refine wpAnyH_ready (rs := [19]) (by kernel_rfl) (by simp) ?_
      refine AllReadyH.cons (o := { dst := some 38, op := Op.call { callee := Callee.builtin Builtin.copy, args := #[Operand.tmp 29, Operand.tmp 37], argTypes := #[31, 31] }, type := 3, pos := "ref.go:63", after := #[{ on := 10, ground := Ground.data }, { on := 18, ground := Ground.data }], guard := none }) rfl (fun K hK => ?_) AllReadyH.nil
      refine step_copy_to rfl (.tmp 29) (.tmp 37) 31 31 rfl Try.underlying31 h5 nb (64 * qi) c Dj 64 (64 * k - 64 * qi) _ ⟨x.1, 0, none⟩ _ ((Q[j]).2) rfl rfl (by omega) G1.out X4.out X6.out (by omega) ?_
      intro w1 hb1' ho1
      have f1 := (ho1.cell (A := ⟨m, 1, none⟩) (show m ≠ nb by omega)).trans C1.out
      have f2 := (ho1.cell (A := ⟨wb, j * 2, none⟩) (show wb ≠ nb by omega)).trans E1.out
      have f3 := (ho1.cell (A := ⟨wb, j * 2 + 1, none⟩) (show wb ≠ nb by omega)).trans E2.out
      refine hK.out _ _ ?_ (fun hHeld => ?_)
      · exact ⟨f1, f2, f3⟩
      clear hK K
      try simp only [Act.put, List.setIfInBounds_toArray, List.set_cons_zero, List.set_cons_succ]
      refine wpAnyH_done (by kernel_rfl) ?_ _
      refine NoPanic.normal ?_
      have HN := Lib.hid (HN0.out w1 ⟨ho1.os, ho1.tape, ho1.output, ho1.size, ho1.block⟩ (by rw [Nat.mul_comm qi 64]; exact hb1'))
      clear hb1' ho1 f1 f2 f3 hw64 hb0 hb1
      go_wp2
      go_roundw
      case rel => exact ⟨j + 1, _, by omega, by go_num, HN.out⟩
      case measure => simp [intOf]; omega
    · obtain rfl : j = Q.length := by omega
      have hD : decide ((Q.length : Int) < Q.length) = false := by simp
      have cc0 := hrw.c0
      have ff0 := frozen_of_row wr m 0 _ 60 hrw.here
      have ff1 := frozen_of_row wr m 1 _ 60 hrw.here
      have HE := Lib.hid (rsync_end H.out hR r2)
      clear hR hrw
      go_wp2
      go_end0
      exact HE.out
end Go.Proofs
end

section
namespace Go.Proofs
open Go.RowKit
set_option maxRecDepth 100000
theorem Try.rbytes {w : World} {F : Nat → Prop} {m k db dc wc : Nat} {A : Option Addr} {ds : List (Nat × Nat)} {D : List UInt8} {Q : List (Nat × List UInt8)} (h : RW w F m k db dc A wc ds D Q) (hQ : Q.length ≤ 1000000) :
    Calls Try.prog 32 #[.pointer (some ⟨m, 0, none⟩)] w (Cloned w (64 * k) (dset (fun _ => true) 0 Q D)) := by
  have H := Lib.hid h
  clear h
  go_enter Try.func32, Try.ntmps32
  go_wp2_with fail
  refine (Try.rtwin H.out hQ).mono ?_
  rintro e w1 ⟨m1, rfl, F1, db1, dc1, A1, wc1, ds1, h1, hm1, ch1⟩
  have H1 := Lib.hid h1
  have C1 := Lib.hid ch1
  clear h1 ch1
  go_wp2_with fail
  refine (Try.rsync H1.out hQ).mono ?_
  rintro e w2 ⟨rfl, F2, h2, u2, ch2, db2, c2, hc2, hs2, hb2, hk2⟩
  have hs1 := (C1.out).size
  have HC : Hid (Cloned w (64 * k) (dset (fun _ => true) 0 Q D) (.returned (.slice (some ⟨db2, 0, none⟩) (64 * k) c2)) w2) := Lib.hid ⟨db2, c2, rfl, by omega, hk2, hb2, by
    have q := (C1.out).trans' ch2 (fun b hb e => by have : b = m1 := e; omega)
    exact ⟨q.os, q.tape, q.output, q.size, fun b hb => q.block b hb id⟩⟩
  clear h2 u2 ch2 hb2 hk2
  go_wp2
  go_ret
  exact HC.out
end Go.Proofs
end

section
namespace Go.Proofs
open Go.RowKit
def IsRow (k : IntKind) (w : World) (a : Option Addr) (len cap : Nat) (zs : List Int) : Prop :=
  (a = none ∧ len = 0 ∧ cap = 0 ∧ zs = []) ∨
  ∃ x, a = some x ∧ len ≤ cap ∧ cap ≤ maxLen ∧ zs.length = cap ∧ (∀ i, i < zs.length → w.cell? (x.add i) = some (.int k (zs.getD i 0))) ∧ ∀ n ∈ zs, (Lit.int k n).wf = true
def IsBits (w : World) (a : Option Addr) (len cap : Nat) (B : Nat → Bool) : Prop :=
  (a = none ∧ len = 0 ∧ cap = 0) ∨ ∃ x, a = some x ∧ len ≤ cap ∧ cap ≤ maxLen ∧ ∀ i, i < cap → w.cell? (x.add i) = some (.bool (B i))
theorem IsRow.u8 {w : World} {a : Option Addr} {len cap : Nat} {zs : List Int} (h : IsRow .u8 w a len cap zs) : ∃ l8 : Nat → UInt8, ∀ i, i < len → ∃ x, a = some x ∧ w.cell? (x.add i) = some (u8v (l8 i)) := by
  refine ⟨fun i => UInt8.ofNat (zs.getD i 0).toNat, fun i hi => ?_⟩
  rcases h with ⟨_, rfl, _⟩ | ⟨x, rfl, hl, hm, hz, hc, hw⟩
  · omega
  · refine ⟨x, rfl, ?_⟩
    have hi' : i < zs.length := by omega
    rw [hc i hi']
    have h1 := hw (zs.getD i 0) (by rw [List.getD_eq_getElem?_getD, List.getElem?_eq_getElem hi']; exact List.getElem_mem _)
    simp [Lit.wf, IntKind.min, IntKind.max, IntKind.bits, IntKind.signed] at h1
    unfold u8v
    congr 2
    simp only [UInt8.toNat_ofNat']
    simp only [List.getD_eq_getElem?_getD] at h1 ⊢
    omega
theorem IsBits.keep {w : World} {a : Option Addr} {len cap : Nat} {B : Nat → Bool} (h : IsBits w a len cap B) : ∃ keep : List Bool, keep.length = len ∧ len ≤ 9223372036854775807 ∧ ∀ i, i < len → ∃ x, a = some x ∧ w.cell? (x.add i) = some (.bool (keep.getD i false)) := by
  refine ⟨(List.range len).map B, by simp, ?_, fun i hi => ?_⟩
  · rcases h with ⟨_, rfl, _⟩ | ⟨x, rfl, hl, hm, hc⟩
    · omega
    · unfold maxLen at hm; omega
  · rcases h with ⟨_, rfl, _⟩ | ⟨x, rfl, hl, hm, hc⟩
    · omega
    · refine ⟨x, rfl, ?_⟩
      rw [hc i (by omega), List.getD_eq_getElem?_getD, List.getElem?_map, List.getElem?_range hi]
      rfl
end Go.Proofs
end
