/-
  Texts of a proof over the translated program: NdP2.
-/
import Derived.Test.YtcmjccjbgidinaaNdP
set_option linter.unusedVariables false
set_option linter.unnecessarySimpa false
set_option linter.unusedSimpArgs false
namespace Go.Proofs
open Go.RowKit
set_option maxRecDepth 100000
/-- What a Write of any number and any bytes answers, the told bytes behind it, the waiting writes behind it. -/
def wcc (k : Nat) (I : Int) (bb : List UInt8) : Int := if 0 ≤ I ∧ I < k ∧ bb.length = 64 then 0 else 1
def wqq (k : Nat) (I : Int) (bb : List UInt8) (Q : List (Nat × List UInt8)) : List (Nat × List UInt8) := if 0 ≤ I ∧ I < k ∧ bb.length = 64 then Q ++ [(I.toNat, bb)] else Q
def wtt (k : Nat) (I : Int) (bb T : List UInt8) : List UInt8 := if 0 ≤ I ∧ I < k ∧ bb.length = 64 then T.take (64 * I.toNat) ++ (bb ++ T.drop (64 * I.toNat + 64)) else T
theorem wtt_dset (k : Nat) (I : Int) (bb L : List UInt8) (Q : List (Nat × List UInt8)) : wtt k I bb (dset (fun _ => true) 0 Q L) = dset (fun _ => true) 0 (wqq k I bb Q) L := by
  unfold wtt wqq
  by_cases h : 0 ≤ I ∧ I < k ∧ bb.length = 64
  · rw [if_pos h, if_pos h, dset_snoc, if_pos rfl]
    simp only [Nat.mul_comm, h.2.2]
  · rw [if_neg h, if_neg h]
theorem wqq_len (k : Nat) (I : Int) (bb : List UInt8) (Q : List (Nat × List UInt8)) : (wqq k I bb Q).length ≤ Q.length + 1 := by
  unfold wqq
  split <;> simp
theorem Upd.refl (w : World) (F : Nat → Prop) : Upd w w F F := ⟨rfl, rfl, rfl, Nat.le_refl _, fun _ _ _ => rfl, fun _ h => .inl h⟩
def DWrote (w : World) (F : Nat → Prop) (d k : Nat) (L T : List UInt8) (Q : List (Nat × List UInt8)) (c : Int) (e : Ending) (w' : World) : Prop := e = .returned (.int .i64 c) ∧ ∃ F', DV w' F' d k L T Q ∧ Upd w w' F F'
def RWrote (w : World) (F : Nat → Prop) (m k : Nat) (D : List UInt8) (Q : List (Nat × List UInt8)) (c : Int) (e : Ending) (w' : World) : Prop := e = .returned (.int .i64 c) ∧ ∃ F', RV w' F' m k D Q ∧ Upd w w' F F'
def DataAt (w : World) (F : Nat → Prop) (XA : Option Addr) (bb : List UInt8) : Prop := 0 < bb.length → ∃ X, XA = some X ∧ (∀ j u, (bb.map u8v)[j]? = some u → w.cell? (X.add j) = some u) ∧ ¬ F X.block
theorem Try.dw_any {w : World} {F : Nat → Prop} {d k : Nat} {L T : List UInt8} {Q : List (Nat × List UInt8)} (hd : DV w F d k L T Q) (I : Int) (XA : Option Addr) (bb : List UInt8) (xm : Nat) (hX : DataAt w F XA bb) (hn : bb.length ≤ 1000) (hQ : Q.length ≤ 1000000) :
    Calls Try.prog 13 #[.pointer (some ⟨d, 0, none⟩), .int .i64 I, .slice XA bb.length xm] w (DWrote w F d k L (wtt k I bb T) (wqq k I bb Q) (wcc k I bb)) := by
  obtain ⟨lb, cl, tb, ct, vw, ds, h⟩ := hd
  by_cases hI : 0 ≤ I ∧ I < k
  · obtain ⟨i, rfl⟩ : ∃ i : Nat, I = i := ⟨I.toNat, by omega⟩
    by_cases hl : bb.length = 64
    · obtain ⟨X, rfl, hc, hA⟩ := hX (by omega)
      rw [hl]
      refine (Try.dwrite w F d k lb cl tb ct vw ds L T Q h i (by omega) X xm bb hl hc hA hQ).mono ?_
      rintro e w' ⟨rfl, F', h1, h2⟩
      have hg : 0 ≤ (i : Int) ∧ (i : Int) < k ∧ bb.length = 64 := ⟨by omega, hI.2, hl⟩
      refine ⟨by unfold wcc; rw [if_pos hg], F', ?_, h2⟩
      unfold wtt wqq
      rw [if_pos hg, if_pos hg]
      exact h1
    · refine (Try.write_len h i (by omega) bb.length xm XA hl hn).mono ?_
      rintro e w' ⟨rfl, rfl⟩
      have hg : ¬ (0 ≤ (i : Int) ∧ (i : Int) < k ∧ bb.length = 64) := fun q => hl q.2.2
      refine ⟨by unfold wcc; rw [if_neg hg], F, ?_, Upd.refl _ _⟩
      unfold wtt wqq
      rw [if_neg hg, if_neg hg]
      exact ⟨lb, cl, tb, ct, vw, ds, h⟩
  · refine (Try.write_bad h I bb.length xm XA (by omega)).mono ?_
    rintro e w' ⟨rfl, rfl⟩
    have hg : ¬ (0 ≤ I ∧ I < k ∧ bb.length = 64) := fun q => hI ⟨q.1, q.2.1⟩
    refine ⟨by unfold wcc; rw [if_neg hg], F, ?_, Upd.refl _ _⟩
    unfold wtt wqq
    rw [if_neg hg, if_neg hg]
    exact ⟨lb, cl, tb, ct, vw, ds, h⟩
theorem Try.rw_any {w : World} {F : Nat → Prop} {m k : Nat} {D : List UInt8} {Q : List (Nat × List UInt8)} (hd : RV w F m k D Q) (I : Int) (XA : Option Addr) (bb : List UInt8) (xm : Nat) (hX : DataAt w F XA bb) (hn : bb.length ≤ 1000) (hQ : Q.length ≤ 1000000) :
    Calls Try.prog 14 #[.pointer (some ⟨m, 0, none⟩), .int .i64 I, .slice XA bb.length xm] w (RWrote w F m k D (wqq k I bb Q) (wcc k I bb)) := by
  obtain ⟨db, dc, A, wc, ds, h⟩ := hd
  by_cases hI : 0 ≤ I ∧ I < k
  · obtain ⟨i, rfl⟩ : ∃ i : Nat, I = i := ⟨I.toNat, by omega⟩
    by_cases hl : bb.length = 64
    · obtain ⟨X, rfl, hc, hA⟩ := hX (by omega)
      rw [hl]
      refine (Try.rwrite_good h hQ i (by omega) X xm bb hl hc).mono ?_
      rintro e w' ⟨rfl, F', h1, h2, h3⟩
      have hg : 0 ≤ (i : Int) ∧ (i : Int) < k ∧ bb.length = 64 := ⟨by omega, hI.2, hl⟩
      refine ⟨by unfold wcc; rw [if_pos hg], F', ?_, h2⟩
      unfold wqq
      rw [if_pos hg]
      exact h1
    · refine (Try.rwrite_len h i (by omega) XA bb.length xm hl hn).mono ?_
      rintro e w' ⟨rfl, rfl⟩
      have hg : ¬ (0 ≤ (i : Int) ∧ (i : Int) < k ∧ bb.length = 64) := fun q => hl q.2.2
      refine ⟨by unfold wcc; rw [if_neg hg], F, ?_, Upd.refl _ _⟩
      unfold wqq
      rw [if_neg hg]
      exact ⟨db, dc, A, wc, ds, h⟩
  · refine (Try.rwrite_bad h I XA bb.length xm (by omega)).mono ?_
    rintro e w' ⟨rfl, rfl⟩
    have hg : ¬ (0 ≤ I ∧ I < k ∧ bb.length = 64) := fun q => hI ⟨q.1, q.2.1⟩
    refine ⟨by unfold wcc; rw [if_neg hg], F, ?_, Upd.refl _ _⟩
    unfold wqq
    rw [if_neg hg]
    exact ⟨db, dc, A, wc, ds, h⟩
/-- The two devices, and the act's own block B, in the world wr. -/
structure LY (w0 : World) (k d m j B : Nat) (p1 p2 p3 : Value) (wr : World) (F G : Nat → Prop) (L T L' : List UInt8) (Q Q' : List (Nat × List UInt8)) : Prop where
  dv : DV wr F d k L T Q
  rv : RV wr G m k L' Q'
  q : Q.length ≤ j
  q' : Q'.length ≤ j
  dj : Disj F G
  f : ∀ b, F b → w0.heap.size ≤ b
  g : ∀ b, G b → w0.heap.size ≤ b
  fB : ¬ F B
  gB : ¬ G B
  bel : Below w0.heap.size w0 wr
  lt : B < wr.heap.size
  c1 : wr.cell? ⟨B, 1, none⟩ = some p1
  c2 : wr.cell? ⟨B, 2, none⟩ = some p2
  c3 : wr.cell? ⟨B, 3, none⟩ = some p3
theorem LY.start {w0 w : World} {k d m j : Nat} {op : Int} {p1 p2 p3 : Value} (h : LR w0 k d m j w) : ∃ F G L Q, LY w0 k d m j w.heap.size p1 p2 p3 (w.alloc (.cells #[.int .i64 op, p1, p2, p3] 34)) F G L (dset (fun _ => true) 0 Q L) L Q Q := by
  obtain ⟨⟨F, G, L, Q, h1, h2, h3, h4, h5, h6⟩, h7⟩ := h
  have hb : Below w.heap.size w (w.alloc (.cells #[.int .i64 op, p1, p2, p3] 34)) := ⟨rfl, rfl, rfl, by simp, fun b q => Below.heap_alloc w _ b q⟩
  refine ⟨F, G, L, Q, h1.stay (Chg.below hb (fun _ => False)) (fun _ _ => id), h2.stay (Chg.below hb (fun _ => False)) (fun _ _ => id), h3, h3, h4, h5, h6, fun q => ?_, fun q => ?_, h7.trans (hb.mono h7.size), by simp, ?_, ?_, ?_⟩
  · exact Nat.lt_irrefl _ (h1.lt _ q)
  · exact Nat.lt_irrefl _ (h2.lt _ q)
  · have := cells_at_new w 34 [.int .i64 op, p1, p2, p3] 1 p1 rfl
    rwa [add_none, Nat.zero_add] at this
  · have := cells_at_new w 34 [.int .i64 op, p1, p2, p3] 2 p2 rfl
    rwa [add_none, Nat.zero_add] at this
  · have := cells_at_new w 34 [.int .i64 op, p1, p2, p3] 3 p3 rfl
    rwa [add_none, Nat.zero_add] at this
theorem LY.left {w0 wr w1 : World} {k d d1 m j j' B : Nat} {p1 p2 p3 : Value} {F F1 G : Nat → Prop} {L T L' L1 T1 : List UInt8} {Q Q' Q1 : List (Nat × List UInt8)} (h : LY w0 k d m j B p1 p2 p3 wr F G L T L' Q Q') (hd : DV w1 F1 d1 k L1 T1 Q1) (hu : Upd wr w1 F F1)
    (hq : Q1.length ≤ j') (hj : j ≤ j') : LY w0 k d1 m j' B p1 p2 p3 w1 F1 G L1 T1 L' Q1 Q' := by
  obtain ⟨r1, x1⟩ := h.rv.other hu h.dj
  have e := hu.block B h.lt h.fB
  have c : ∀ n, w1.cell? ⟨B, n, none⟩ = wr.cell? ⟨B, n, none⟩ := fun n => World.cell?_of_block e
  refine ⟨hd, r1, hq, Nat.le_trans h.q' hj, x1, hu.lowW h.f h.bel.size, h.g, fun q => ?_, h.gB, h.bel.trans (hu.belowW h.f h.bel.size), Nat.lt_of_lt_of_le h.lt hu.size, (c 1).trans h.c1, (c 2).trans h.c2, (c 3).trans h.c3⟩
  rcases hu.grow B q with q | q
  · exact h.fB q
  · have := h.lt; omega
theorem LY.right {w0 wr w1 : World} {k d m j j' B : Nat} {p1 p2 p3 : Value} {F G G1 : Nat → Prop} {L T L' D1 : List UInt8} {Q Q' Q1 : List (Nat × List UInt8)} (h : LY w0 k d m j B p1 p2 p3 wr F G L T L' Q Q') (hd : RV w1 G1 m k D1 Q1) (hu : Upd wr w1 G G1)
    (hq : Q1.length ≤ j') (hj : j ≤ j') : LY w0 k d m j' B p1 p2 p3 w1 F G1 L T D1 Q Q1 := by
  obtain ⟨r1, x1⟩ := h.dv.other hu h.dj.symm
  have e := hu.block B h.lt h.gB
  have c : ∀ n, w1.cell? ⟨B, n, none⟩ = wr.cell? ⟨B, n, none⟩ := fun n => World.cell?_of_block e
  refine ⟨r1, hd, Nat.le_trans h.q hj, hq, x1.symm, h.f, hu.lowW h.g h.bel.size, h.fB, fun q => ?_, h.bel.trans (hu.belowW h.g h.bel.size), Nat.lt_of_lt_of_le h.lt hu.size, (c 1).trans h.c1, (c 2).trans h.c2, (c 3).trans h.c3⟩
  rcases hu.grow B q with q | q
  · exact h.gB q
  · have := h.lt; omega
theorem LY.below {w0 wr w1 : World} {k d m j B : Nat} {p1 p2 p3 : Value} {F G : Nat → Prop} {L T L' : List UInt8} {Q Q' : List (Nat × List UInt8)} (h : LY w0 k d m j B p1 p2 p3 wr F G L T L' Q Q') (hb : Below wr.heap.size wr w1) : LY w0 k d m j B p1 p2 p3 w1 F G L T L' Q Q' := by
  have e := hb.block B h.lt
  have c : ∀ n, w1.cell? ⟨B, n, none⟩ = wr.cell? ⟨B, n, none⟩ := fun n => World.cell?_of_block e
  exact ⟨h.dv.stay (Chg.below hb (fun _ => False)) (fun _ _ => id), h.rv.stay (Chg.below hb (fun _ => False)) (fun _ _ => id), h.q, h.q', h.dj, h.f, h.g, h.fB, h.gB, h.bel.trans (hb.mono h.bel.size), Nat.lt_of_lt_of_le h.lt hb.size, (c 1).trans h.c1, (c 2).trans h.c2, (c 3).trans h.c3⟩
/-- The copy takes the device's place (a left step of a device that is new, while the old one may change in its own blocks). -/
theorem LY.swap {w0 wr w1 : World} {k d d2 m j B : Nat} {p1 p2 p3 : Value} {F F2 G : Nat → Prop} {L T L' : List UInt8} {Q Q' : List (Nat × List UInt8)} (h : LY w0 k d m j B p1 p2 p3 wr F G L T L' Q Q') (hd : DV w1 F2 d2 k L T Q) (hc : Chg wr w1 F) (hF : ∀ b, F2 b → wr.heap.size ≤ b) :
    LY w0 k d2 m j B p1 p2 p3 w1 F2 G L T L' Q Q' :=
  h.left (F1 := F2) hd ⟨hc.os, hc.tape, hc.output, hc.size, hc.block, fun b q => .inr (hF b q)⟩ h.q (Nat.le_refl _)
/-- What the switch leaves behind. -/
def LQ (w0 : World) (k m j B : Nat) (p1 : Value) (v : Value) (wx : World) : Prop := ∃ d : Nat, v = .pointer (some ⟨d, 0, none⟩) ∧ LR w0 k d m j wx ∧ wx.cell? ⟨B, 1, none⟩ = some p1
theorem LY.done {w0 wr : World} {k d m j j' B : Nat} {p1 p2 p3 : Value} {F G : Nat → Prop} {L T : List UInt8} {Q : List (Nat × List UInt8)} (h : LY w0 k d m j B p1 p2 p3 wr F G L T L Q Q) (hT : T = dset (fun _ => true) 0 Q L) (hj : j ≤ j') : LQ w0 k m j' B p1 (.pointer (some ⟨d, 0, none⟩)) wr := by
  subst hT
  exact ⟨d, rfl, ⟨⟨F, G, L, Q, h.dv, h.rv, Nat.le_trans h.q hj, h.dj, h.f, h.g⟩, h.bel⟩, h.c1⟩
theorem DataAt.of {w0 wr : World} {F : Nat → Prop} {XA : Option Addr} {bb : List UInt8} (h : 0 < bb.length → ∃ X, XA = some X ∧ ∀ j u, (bb.map u8v)[j]? = some u → w0.cell? (X.add j) = some u) (hb : Below w0.heap.size w0 wr) (hF : ∀ b, F b → w0.heap.size ≤ b) : DataAt wr F XA bb := fun h0 => by
  obtain ⟨X, rfl, hc⟩ := h h0
  refine ⟨X, rfl, cells_below hc hb, fun q => ?_⟩
  have h1 := hF _ q
  have h2 : X.block < w0.heap.size := block_lt_of_cell (hc 0 (u8v bb[0]) (by simp [h0]))
  omega
end Go.Proofs
