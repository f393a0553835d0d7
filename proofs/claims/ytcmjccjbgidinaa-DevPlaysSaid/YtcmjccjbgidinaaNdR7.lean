/-
  Texts of a proof over the translated program: NdR7.
-/
import Derived.Test.YtcmjccjbgidinaaNdR6
set_option linter.unusedVariables false
set_option linter.unnecessarySimpa false
set_option linter.unusedSimpArgs false
namespace Go.Proofs
open Go.RowKit
set_option maxRecDepth 100000
theorem own_zero {w : World} {B : Nat} {e : TypeId} {size : Nat} {v : Value} {n : Nat} {xs : List Value} (h : w.ownsRow B e size v n xs) : w.ownsRow 0 e size v n xs := by
  refine ⟨h.1, ?_⟩
  rcases h.2 with q | ⟨g, cap, cur, e, _, r⟩
  · exact .inl q
  · exact .inr ⟨g, cap, cur, e, Nat.zero_le _, r⟩
/-- What a device of the document's is when something more waits. -/
theorem rwaits_end {w w3 : World} {F : Nat → Prop} {m k db dc wc : Nat} {A : Option Addr} {ds ds' : List (Nat × Nat)} {D : List UInt8} {Q Q' : List (Nat × List UInt8)} {v' : Value} (h : RW w F m k db dc A wc ds D Q) (hc : Chg w w3 (fun _ => False))
    (how : w3.ownsRow 0 76 2 v' Q'.length (wCells Q' ds')) (hv : v' = .slice none 0 0 ∨ ∃ b c, v' = .slice (some ⟨b, 0, none⟩) Q'.length c ∧ w.heap.size ≤ b) (hal : AllW w3 (fun b => F b ∨ (w.heap.size ≤ b ∧ b < w3.heap.size)) [m] k Q' ds') :
    ∃ F', RV (w3.setCell ⟨m, 1, none⟩ v') F' m k D Q' ∧ Upd w (w3.setCell ⟨m, 1, none⟩ v') F F' ∧ Chg w (w3.setCell ⟨m, 1, none⟩ v') (· = m) := by
  have hs := hc.size
  have hml := h.lt m h.fm
  have hdl := h.lt db h.fd
  have hsz : (w3.setCell ⟨m, 1, none⟩ v').heap.size = w3.heap.size := by simp [World.setCell]
  have hk : ∀ b, b ≠ m → (w3.setCell ⟨m, 1, none⟩ v').heap[b]? = w3.heap[b]? := fun b q => Below.heap_setCell _ _ _ _ q
  have hch : Chg w (w3.setCell ⟨m, 1, none⟩ v') (· = m) := (hc.mono (S' := (· = m)) (fun b q => q.elim)).trans (Chg.setCell w3 ⟨m, 1, none⟩ v')
  have here : (w3.setCell ⟨m, 1, none⟩ v').heap[m]? = some (.cells #[.slice (some ⟨db, 0, none⟩) (64 * k) dc, v'] 60 (0, 0)) := by
    rw [heap_setCell_same w3 m 1 _ 60 v' ((hc.block m hml id).trans h.here)]; rfl
  have hal' : AllW (w3.setCell ⟨m, 1, none⟩ v') (fun b => F b ∨ (w.heap.size ≤ b ∧ b < w3.heap.size)) [m] k Q' ds' := AllW.stay (fun b q => q) (fun b q1 q2 => ⟨hk b (fun e => q2 (by simp [e])), q2⟩) _ _ hal
  have hbd := (h.bd.congr (hc.block db hdl id)).congr (hk db h.md.symm)
  have hlt : ∀ b, (F b ∨ (w.heap.size ≤ b ∧ b < w3.heap.size)) → b < (w3.setCell ⟨m, 1, none⟩ v').heap.size := fun b q => by
    rw [hsz]
    rcases q with q | q
    · exact Nat.lt_of_lt_of_le (h.lt b q) hs
    · exact q.2
  refine ⟨fun b => F b ∨ (w.heap.size ≤ b ∧ b < w3.heap.size), ?_, ⟨hch.os, hch.tape, hch.output, hch.size, fun b hb hn => hch.block b hb (fun q => hn (q ▸ h.fm)), fun b q => q.imp id (·.1)⟩, hch⟩
  rcases hv with rfl | ⟨b, c, rfl, hb⟩
  · have hQ0 : Q' = [] := by
      rcases how.2 with ⟨_, q⟩ | ⟨g, cap, cur, e, _⟩
      · exact List.eq_nil_of_length_eq_zero q
      · simp at e
    subst hQ0
    exact ⟨db, dc, none, 0, ds', hlt, here, .inl h.fm, .inl h.fd, h.md, h.hk, h.Dl, hbd, h.dc', .inl ⟨rfl, rfl, rfl⟩, hal'⟩
  · have hcells := how.cells (g := b) rfl
    have hcap : Q'.length ≤ c ∧ b < w3.heap.size := by
      rcases how.2 with ⟨q, _⟩ | ⟨g, cap, cur, e, _, hg, hn, _⟩
      · simp at q
      · simp at e
        obtain ⟨rfl, rfl⟩ := e
        exact ⟨hn, (Array.getElem?_eq_some_iff.1 hg).1⟩
    exact ⟨db, dc, some ⟨b, 0, none⟩, c, ds', hlt, here, .inl h.fm, .inl h.fd, h.md, h.hk, h.Dl, hbd, h.dc', .inr ⟨b, rfl, .inr ⟨hb, hcap.2⟩, by omega, hcap.1, fun i u hu => by
      have := hcells i u hu
      rw [add_none, Nat.zero_add] at this
      exact (World.cell?_of_block (w := w3) (a := ⟨b, i, none⟩) (hk b (by omega))).trans this⟩, hal'⟩
def RWritten (w : World) (F : Nat → Prop) (m k : Nat) (D : List UInt8) (Q : List (Nat × List UInt8)) (e : Ending) (w' : World) : Prop := e = .returned (.int .i64 0) ∧ ∃ F', RV w' F' m k D Q ∧ Upd w w' F F' ∧ Chg w w' (· = m)
set_option maxHeartbeats 1000000 in
theorem Try.rwrite_good {w : World} {F : Nat → Prop} {m k db dc wc : Nat} {A : Option Addr} {ds : List (Nat × Nat)} {D : List UInt8} {Q : List (Nat × List UInt8)} (h : RW w F m k db dc A wc ds D Q) (hQ : Q.length ≤ 1000000) (i : Nat) (hi : i < k)
    (X : Addr) (mm : Nat) (bb : List UInt8) (hl : bb.length = 64) (hc : ∀ j u, (bb.map u8v)[j]? = some u → w.cell? (X.add j) = some u) :
    Calls Try.prog 14 #[.pointer (some ⟨m, 0, none⟩), .int .i64 i, .slice (some X) 64 mm] w (RWritten w F m k D (Q ++ [(i, bb)])) := by
  have H := Lib.hid h
  have c0 := h.c0
  have c1 := h.c1
  have a1 := cellA c1
  have hk := h.hk
  have h16 : 64 * k ≤ 65536 := by omega
  have hq : 64 * k / 64 = k := by omega
  have q1 : decide ((i : Int) < 0) = false := by simp
  have q2 : decide ((k : Int) ≤ i) = false := by simp; omega
  have HLEN := Lib.hid (AllW.len _ _ h.al)
  have HC := Lib.hid hc
  have HL := Lib.hid hl
  have HAW : Hid ((A = none ∧ Q = [] ∧ wc = 0) ∨ ∃ b, A = some ⟨b, 0, none⟩ ∧ ∀ i u, (wCells Q ds)[i]? = some u → w.cell? ⟨b, i, none⟩ = some u) := Lib.hid (by
    rcases h.aw with q | ⟨b, q1, q2, q3, q4, q5⟩
    · exact .inl q
    · exact .inr ⟨b, q1, q5⟩)
  obtain ⟨i0, hi76, hz0, hz1, hz2⟩ := info_parts Try.info76
  clear h hc hl
  go_enter Try.func14, Try.ntmps14
  go_wp2_with (first
    | (go_at_call 40; refine (Try.rblocks _ _ _ _ h16 _ c0).mono ?_; rintro e w' ⟨rfl, rfl⟩; rw [hq])
    | (at_builtin; refine wpList_waits_empty w rfl (.tmp 21) (.tmp 25) rfl Try.underlying58 Try.info76 A wc Q ds HLEN.out rfl rfl hQ HAW.out ?_))
  rintro v1 w1 how1 ⟨b1, cb1, rfl, hb1⟩ hw1
  have HW1 := Lib.hid how1
  have HB1 := Lib.hid hw1
  have HC1 := Lib.hid (cells_below HC.out hw1)
  clear how1 hw1 a1 c0 c1
  go_wp2_with (at_builtin; refine wpList_app_empty w1 rfl (.tmp 28) (.tmp 29) rfl Try.underlying31 Try.info5 X 64 mm bb rfl rfl HL.out (by omega) HC1.out ?_)
  intro nb c w2 r1 r2 r3 r4
  have HB2 := Lib.hid r4
  have HY := Lib.hid r3
  have hb63 : Q.length + 1 ≤ maxLen := by unfold maxLen; omega
  have HW2 : Hid (w2.ownsRow 0 76 2 (.slice (some ⟨b1, 0, none⟩) Q.length cb1) Q.length (wCells Q ds)) := Lib.hid (own_stay (own_zero HW1.out) (fun b hb => r4.block b (own_lt (own_zero HW1.out) b hb)))
  have HW3 : Hid (∀ o, (w2.alloc o).ownsRow 0 76 2 (.slice (some ⟨b1, 0, none⟩) Q.length cb1) Q.length (wCells Q ds)) := Lib.hid (fun o => own_stay HW2.out (fun b hb => Below.heap_alloc w2 o b (own_lt HW2.out b hb)))
  clear r3 r4
  go_wp2_with (at_builtin; refine wpList_append_at rfl (.tmp 26) (.tmp 32) 58 rfl 76 i0 (.agg #[.int .i64 0, .slice none 0 0]) 2 32 Try.underlying58 hi76 hz0 hz1 hz2 rfl (by decide) _ Q.length (wCells Q ds) rfl (HW3.out _) _ 1 1 [.int .i64 (i : Int), .slice (some ⟨nb, 0, none⟩) 64 c] rfl rfl (cells_at_new w2 76 _) (by simp [Value.oneCell']) hb63 (by omega) ?_)
  intro v' w3 how3 ch3 hv3 hvs
  obtain ⟨A', n', c', rfl⟩ := hvs
  have s1 := (HB1.out).size
  have s2 := (HB2.out).size
  have k3 : Chg w w3 (fun _ => False) := (((Chg.below HB1.out (fun _ => False)).trans (Chg.below HB2.out (fun _ => False))).trans (Chg.alloc w2 _ _)).trans' ch3 (fun b hb e => by
    simp [vblk] at e; omega)
  have here3 := (k3.block m ((H.out).lt m (H.out).fm) id).trans (H.out).here
  have z1 : w3.cell? ⟨m, 1, none⟩ = some (.slice A Q.length wc) := by rw [cell_of_row w3 m 1 _ 60 (0, 0) here3]; rfl
  have z2 := frozen_of_row w3 m 1 _ 60 here3
  have HE : Hid (RWritten w F m k D (Q ++ [(i, bb)]) (.returned (.int .i64 0)) (w3.setCell ⟨m, 1, none⟩ (.slice A' n' c'))) := by
    refine Lib.hid ⟨rfl, ?_⟩
    have hnl := (HY.out).lt
    have e1 : wCells (Q ++ [(i, bb)]) (ds ++ [(nb, c)]) = wCells Q ds ++ [.int .i64 (i : Int), .slice (some ⟨nb, 0, none⟩) 64 c] := wCells_snoc (i, bb) (nb, c) Q ds HLEN.out
    have hnv : nb ≠ b1 := fun e => by
      have := own_lt (own_zero HW1.out) b1 (by simp [vblk])
      omega
    refine rwaits_end (ds' := ds ++ [(nb, c)]) H.out k3 (by rw [e1, List.length_append]; exact how3) ?_ ?_
    · right
      rcases how3.2 with ⟨q, q0⟩ | ⟨g, cap, cur, e, _⟩
      · simp at q0
      · simp at e
        obtain ⟨rfl, rfl, rfl⟩ := e
        refine ⟨g, c', by simp, ?_⟩
        rcases hv3 g (by simp [vblk]) with q | q
        · simp [vblk] at q; omega
        · (try simp at q); omega
    · have hn3 : nb < w3.heap.size := Nat.lt_of_lt_of_le (Nat.lt_of_lt_of_le hnl (Chg.alloc w2 _ (fun _ => False)).size) ch3.size
      have hy3 : BY w3 nb bb c := ((HY.out).congr (Below.heap_alloc w2 _ nb hnl)).congr (ch3.block nb (by simp; omega) (fun e => by simp [vblk] at e; exact hnv e))
      have hml := (H.out).lt m (H.out).fm
      have hnm : nb ∉ [m] := fun q => by have : nb = m := List.mem_singleton.1 q; omega
      exact AllW.snoc (q := (i, bb)) (x := (nb, c)) ⟨.inr ⟨by show w.heap.size ≤ nb; omega, hn3⟩, hnm, HL.out, hi, hy3, r2⟩ _ _ (AllW.stay (fun b q => .inl q) (fun b q1 q2 => ⟨k3.block b ((H.out).lt b q1) id, q2⟩) _ _ (H.out).al)
  clear how3 ch3 hv3 k3 here3
  go_wp2
  go_ret
  exact HE.out
theorem Try.rwrite_bad {w : World} {F : Nat → Prop} {m k db dc wc : Nat} {A : Option Addr} {ds : List (Nat × Nat)} {D : List UInt8} {Q : List (Nat × List UInt8)} (h : RW w F m k db dc A wc ds D Q) (i : Int) (X : Option Addr) (n mm : Nat) (hi : i < 0 ∨ (k : Int) ≤ i) :
    Calls Try.prog 14 #[.pointer (some ⟨m, 0, none⟩), .int .i64 i, .slice X n mm] w fun e w' => e = .returned (.int .i64 1) ∧ w = w' := by
  have c0 := h.c0
  have hk := h.hk
  have h16 : 64 * k ≤ 65536 := by omega
  have hq : 64 * k / 64 = k := by omega
  by_cases h0 : i < 0
  · have q1 : decide (i < 0) = true := by simpa using h0
    clear h hi
    go_enter Try.func14, Try.ntmps14
    go_wp2
    go_ret
    exact ⟨rfl, rfl⟩
  · have q1 : decide (i < 0) = false := by simpa using h0
    have q2 : decide ((k : Int) ≤ i) = true := by simp; omega
    clear h hi
    go_enter Try.func14, Try.ntmps14
    go_wp2_with (go_at_call 40; refine (Try.rblocks _ _ _ _ h16 _ c0).mono ?_; rintro e w' ⟨rfl, rfl⟩; rw [hq])
    go_ret
    exact ⟨rfl, rfl⟩
end Go.Proofs
