/-
  Texts of a proof over the translated program: NdR8.
-/
import Derived.Test.YtcmjccjbgidinaaNdR7
import Derived.Test.YtcmjccjbgidinaaNdF0
set_option linter.unusedVariables false
set_option linter.unnecessarySimpa false
set_option linter.unusedSimpArgs false
namespace Go.Proofs
open Go.RowKit
set_option maxRecDepth 100000
/-- Those that are kept. -/
def fq {α : Type} (kp : Nat → Bool) : Nat → List α → List α
  | _, [] => []
  | j, q :: Q => if kp j then q :: fq kp (j + 1) Q else fq kp (j + 1) Q
theorem fq_snoc {α : Type} (kp : Nat → Bool) (q : α) : ∀ (Q : List α) (j : Nat), fq kp j (Q ++ [q]) = fq kp j Q ++ if kp (j + Q.length) then [q] else []
  | [], j => by simp only [List.nil_append, fq, List.length_nil, Nat.add_zero]
  | p :: Q, j => by
    simp only [List.cons_append, fq, List.length_cons]
    rw [fq_snoc kp q Q (j + 1), show j + 1 + Q.length = j + (Q.length + 1) by omega]
    by_cases h : kp j = true <;> simp [h]
theorem fq_len {α β : Type} (kp : Nat → Bool) : ∀ (Q : List α) (D : List β) (j : Nat), Q.length = D.length → (fq kp j Q).length = (fq kp j D).length
  | [], [], _, _ => rfl
  | q :: Q, x :: D, j, h => by
    have := fq_len kp Q D (j + 1) (by simpa using h)
    simp only [fq]
    by_cases hk : kp j = true <;> simp [hk, this]
  | [], _ :: _, _, h => by simp at h
  | _ :: _, [], _, h => by simp at h
theorem fq_le {α : Type} (kp : Nat → Bool) : ∀ (Q : List α) (j : Nat), (fq kp j Q).length ≤ Q.length
  | [], _ => Nat.le_refl _
  | q :: Q, j => by
    have := fq_le kp Q (j + 1)
    simp only [fq]
    by_cases hk : kp j = true <;> simp [hk] <;> omega
theorem AllW.fq {w : World} {F : Nat → Prop} {ns : List Nat} {k : Nat} (kp : Nat → Bool) : ∀ (Q : List (Nat × List UInt8)) (ds : List (Nat × Nat)) (j : Nat), AllW w F ns k Q ds → AllW w F ns k (Proofs.fq kp j Q) (Proofs.fq kp j ds)
  | [], [], _, _ => trivial
  | q :: Q, x :: ds, j, h => by
    have := AllW.fq kp Q ds (j + 1) h.2
    simp only [Proofs.fq]
    by_cases hk : kp j = true
    · simp only [hk, if_true]; exact ⟨h.1, this⟩
    · simp only [hk]; exact this
  | [], _ :: _, _, h => h.elim
  | _ :: _, [], _, h => h.elim
theorem dset_fq (kp : Nat → Bool) : ∀ (Q : List (Nat × List UInt8)) (i j : Nat) (L : List UInt8), dset (fun _ => true) i (fq kp j Q) L = dset kp j Q L
  | [], _, _, _ => rfl
  | q :: Q, i, j, L => by
    simp only [fq, dset]
    by_cases hk : kp j = true
    · simp only [hk, if_true, dset]
      exact dset_fq kp Q (i + 1) (j + 1) _
    · simp only [hk, Bool.false_eq_true, if_false]
      exact dset_fq kp Q i (j + 1) _
/-- So far kept. -/
structure CRel (w : World) (Q : List (Nat × List UInt8)) (ds : List (Nat × Nat)) (kp : Nat → Bool) (j : Nat) (v : Value) (wr : World) : Prop where
  le : j ≤ Q.length
  ow : wr.ownsRow 0 76 2 v (fq kp 0 (Q.take j)).length (wCells (fq kp 0 (Q.take j)) (fq kp 0 (ds.take j)))
  nb : ∀ b ∈ vblk v, w.heap.size ≤ b
  ch : Chg w wr (fun _ => False)
theorem CRel.skip {w wr : World} {Q : List (Nat × List UInt8)} {ds : List (Nat × Nat)} {kp : Nat → Bool} {j : Nat} {v : Value} (h : CRel w Q ds kp j v wr) (hl : Q.length = ds.length) (hj : j < Q.length) (hk : kp j = false) : CRel w Q ds kp (j + 1) v wr := by
  have e1 : fq kp 0 (Q.take (j + 1)) = fq kp 0 (Q.take j) := by
    rw [List.take_succ_eq_append_getElem hj, fq_snoc]; simp [Nat.min_eq_left (Nat.le_of_lt hj), hk]
  have e2 : fq kp 0 (ds.take (j + 1)) = fq kp 0 (ds.take j) := by
    rw [List.take_succ_eq_append_getElem (by omega), fq_snoc]; simp [Nat.min_eq_left (show j ≤ ds.length by omega), hk]
  exact ⟨by omega, by rw [e1, e2]; exact h.ow, h.nb, h.ch⟩
theorem CRel.next {w wr w1 : World} {Q : List (Nat × List UInt8)} {ds : List (Nat × Nat)} {kp : Nat → Bool} {j : Nat} {v v' : Value} {O : Obj} {x : Nat × Nat} (h : CRel w Q ds kp j v wr) (hl : Q.length = ds.length) (hj : j < Q.length) (hk : kp j = true) (hx : ds[j]? = some x)
    (ow : w1.ownsRow 0 76 2 v' ((fq kp 0 (Q.take j)).length + 1) (wCells (fq kp 0 (Q.take j)) (fq kp 0 (ds.take j)) ++ [.int .i64 ((Q[j]).1 : Int), .slice (some ⟨x.1, 0, none⟩) 64 x.2]))
    (hc : Chg (wr.alloc O) w1 (· ∈ vblk v)) (hv : ∀ b ∈ vblk v', b ∈ vblk v ∨ (wr.alloc O).heap.size ≤ b) : CRel w Q ds kp (j + 1) v' w1 := by
  have hdl : j < ds.length := by omega
  have hxe : ds[j] = x := by rw [List.getElem?_eq_getElem hdl] at hx; exact Option.some.inj hx
  have e1 : fq kp 0 (Q.take (j + 1)) = fq kp 0 (Q.take j) ++ [Q[j]] := by
    rw [List.take_succ_eq_append_getElem hj, fq_snoc]; simp [Nat.min_eq_left (Nat.le_of_lt hj), hk]
  have e2 : fq kp 0 (ds.take (j + 1)) = fq kp 0 (ds.take j) ++ [x] := by
    rw [List.take_succ_eq_append_getElem hdl, fq_snoc, hxe]; simp [Nat.min_eq_left (show j ≤ ds.length by omega), hk]
  have hs := h.ch.size
  refine ⟨by omega, ?_, fun b hb => ?_, ?_⟩
  · rw [e1, e2, wCells_snoc _ _ _ _ (fq_len kp _ _ 0 (by simp [hl])), List.length_append]
    exact ow
  · rcases hv b hb with q | q
    · exact h.nb b q
    · simp at q; omega
  · refine (h.ch.trans (Chg.alloc wr O _)).trans' hc (fun b hb q => ?_)
    have := h.nb b q
    omega
def RCrashed (w : World) (F : Nat → Prop) (m k : Nat) (D : List UInt8) (e : Ending) (w' : World) : Prop := e = .returned (.tuple #[]) ∧ ∃ F', RV w' F' m k D [] ∧ Upd w w' F F' ∧ Chg w w' (· = m)
theorem Upd.compR {a b c : World} {F F1 F2 : Nat → Prop} (h1 : Upd a b F F1) (h2 : Upd b c F1 F2) : Upd a c F F2 :=
  ⟨h2.os.trans h1.os, h2.tape.trans h1.tape, h2.output.trans h1.output, Nat.le_trans h1.size h2.size, fun x hx hn => (h2.block x (Nat.lt_of_lt_of_le hx h1.size) (fun q => by rcases h1.grow x q with q | q; exact hn q; omega)).trans (h1.block x hx hn), fun x hx => by
    rcases h2.grow x hx with q | q
    · exact h1.grow x q
    · exact .inr (Nat.le_trans h1.size q)⟩
set_option maxHeartbeats 2000000 in
theorem Try.rcrash {w : World} {F : Nat → Prop} {m k db dc wc : Nat} {A : Option Addr} {ds : List (Nat × Nat)} {D : List UInt8} {Q : List (Nat × List UInt8)} (h : RW w F m k db dc A wc ds D Q) (hQ : Q.length ≤ 1000000)
    (X : Option Addr) (keep : List Bool) (mk : Nat) (hk : keep.length ≤ 9223372036854775807) (hkc : ∀ i, i < keep.length → ∃ a, X = some a ∧ w.cell? (a.add i) = some (.bool (keep.getD i false))) :
    Calls Try.prog 18 #[.pointer (some ⟨m, 0, none⟩), .slice X keep.length mk] w (RCrashed w F m k (dset (kpOf keep) 0 Q D)) := by
  have H := Lib.hid h
  have HKC := Lib.hid hkc
  have HLEN := Lib.hid (AllW.len _ _ h.al)
  have H0 : Hid (CRel w Q ds (kpOf keep) 0 (.slice none 0 0) w) := Lib.hid ⟨Nat.zero_le _, World.ownsRow_nil _ _ _ _, fun b hb => by simp [vblk] at hb, Chg.refl _ _⟩
  obtain ⟨i0, hi76, hz0, hz1, hz2⟩ := info_parts Try.info76
  clear h hkc
  go_enter Try.func18, Try.ntmps18
  go_wp2
  go_loopw [4, 5] (fun v t wr => ∃ (j : Nat) (A' : Option Addr) (n' c' : Nat), v = .slice A' n' c' ∧ t = .int .i64 j ∧ CRel w Q ds (kpOf keep) j (.slice A' n' c') wr) (fun _ t _ => Q.length - (intOf t).toNat)
  case atStart => exact ⟨0, none, 0, 0, rfl, rfl, H0.out⟩
  case round =>
    obtain ⟨j, A', n', c', rfl, rfl, hR⟩ := hrel
    have HR := Lib.hid hR
    have hj := hR.le
    have hrw := (H.out).keep hR.ch (fun _ _ => id)
    have c1 := hrw.c1
    by_cases hlt : j < Q.length
    · have hD : decide ((j : Int) < Q.length) = true := by simpa using hlt
      obtain ⟨x, x1, ⟨x2, x3, x4, x5, x6, x7⟩, x8, x9⟩ := AllW.get _ _ hrw.al j hlt
      obtain ⟨wb, rfl, hwl⟩ : ∃ wb, A = some ⟨wb, 0, none⟩ ∧ (∀ i u, (wCells Q ds)[i]? = some u → wr.cell? ⟨wb, i, none⟩ = some u) := by
        rcases (H.out).aw with ⟨_, h0, _⟩ | ⟨b, q1, q2, q3, q4, q5⟩
        · rw [h0] at hlt; simp at hlt
        · exact ⟨b, q1, fun i u hu => (World.cell?_of_block (w := w) (a := ⟨b, i, none⟩) (hR.ch.block b ((H.out).lt b q2) id)).trans (q5 i u hu)⟩
      have e1 := hwl _ _ x8
      have e2 := hwl _ _ x9
      rw [Nat.mul_comm 2 j] at e1 e2
      clear hwl x8 x9 hR hrw x6 x3
      by_cases hjk : j < keep.length
      · obtain ⟨a', rfl, hc'⟩ := (HKC.out) j hjk
        have s4 : wr.cell? (a'.add j) = some (.bool (keep.getD j false)) := (World.cell?_of_block (w := w) ((HR.out).ch.block _ (block_lt_of_cell hc') id)).trans hc'
        have hDk : decide ((j : Int) < keep.length) = true := by simpa using hjk
        have hkq : kpOf keep j = keep.getD j false := rfl
        cases hkv : keep.getD j false with
        | true =>
          rw [hkv] at s4 hkq
          have HN := Lib.hid (fun v' w1 O => CRel.next (v' := v') (w1 := w1) (O := O) HR.out HLEN.out hlt hkq x1)
          have hb63 : (fq (kpOf keep) 0 (Q.take j)).length + 1 ≤ maxLen := by
            have := fq_le (kpOf keep) (Q.take j) 0
            rw [List.length_take] at this
            unfold maxLen; omega
          have hb32 : ((fq (kpOf keep) 0 (Q.take j)).length + 1) * 32 ≤ 140737488355328 := by
            have := fq_le (kpOf keep) (Q.take j) 0
            rw [List.length_take] at this
            omega
          have HOW : Hid (∀ o, (wr.alloc o).ownsRow 0 76 2 (.slice A' n' c') (fq (kpOf keep) 0 (Q.take j)).length (wCells (fq (kpOf keep) 0 (Q.take j)) (fq (kpOf keep) 0 (ds.take j)))) := Lib.hid (fun o => own_stay (HR.out).ow (fun b hb => Below.heap_alloc wr o b (own_lt (HR.out).ow b hb)))
          clear hkq hkv hc' x1
          go_wp2_with (at_builtin; refine wpList_append_at rfl (.tmp 25) (.tmp 33) 58 rfl 76 i0 (.agg #[.int .i64 0, .slice none 0 0]) 2 32 Try.underlying58 hi76 hz0 hz1 hz2 rfl (by decide) _ (fq (kpOf keep) 0 (Q.take j)).length _ rfl (HOW.out _) _ 1 1 [.int .i64 ((Q[j]).1 : Int), .slice (some ⟨x.1, 0, none⟩) 64 x.2] rfl rfl (cells_at_new wr 76 _) (by simp [Value.oneCell']) hb63 hb32 ?_)
          intro v' w1 how ch3 hv3 hsl
          obtain ⟨A2, n2, c2, rfl⟩ := hsl
          have HN1 := Lib.hid (HN.out _ w1 _ how ch3 (fun b hb => by rcases hv3 b hb with q | q; exact .inl q; right; simp; exact q))
          clear how ch3 hv3
          go_wp2
          go_roundw
          case rel => exact ⟨j + 1, _, _, _, rfl, by go_num, HN1.out⟩
          case measure => simp [intOf]; omega
        | false =>
          rw [hkv] at s4 hkq
          have HN := Lib.hid ((HR.out).skip HLEN.out hlt hkq)
          clear hkq hkv hc'
          go_wp2
          go_roundw
          case rel => exact ⟨j + 1, _, _, _, rfl, by go_num, HN.out⟩
          case measure => simp [intOf]; omega
      · have hDk : decide ((j : Int) < keep.length) = false := by simpa using hjk
        have hkq : kpOf keep j = false := by unfold kpOf; rw [List.getD_eq_getElem?_getD, List.getElem?_eq_none (by omega)]; rfl
        have HN := Lib.hid ((HR.out).skip HLEN.out hlt hkq)
        clear hkq
        go_wp2
        go_roundw
        case rel => exact ⟨j + 1, _, _, _, rfl, by go_num, HN.out⟩
        case measure => simp [intOf]; omega
    · obtain rfl : j = Q.length := by omega
      have hD : decide ((Q.length : Int) < Q.length) = false := by simp
      have how := hR.ow
      rw [List.take_length, show ds.take Q.length = ds by rw [HLEN.out, List.take_length]] at how
      have hv : Value.slice A' n' c' = .slice none 0 0 ∨ ∃ b c, Value.slice A' n' c' = .slice (some ⟨b, 0, none⟩) (fq (kpOf keep) 0 Q).length c ∧ w.heap.size ≤ b := by
        rcases how.2 with ⟨q, _⟩ | ⟨g, cap, cur, q, _⟩
        · exact .inl q
        · refine .inr ⟨g, cap, q, ?_⟩
          have := hR.nb g (by rw [q]; simp [vblk])
          exact this
      have hal := AllW.fq (kpOf keep) Q ds 0 (AllW.stay (w := w) (w' := wr) (F' := fun b => F b ∨ (w.heap.size ≤ b ∧ b < wr.heap.size)) (fun b q => .inl q) (fun b q1 q2 => ⟨hR.ch.block b ((H.out).lt b q1) id, q2⟩) _ _ (H.out).al)
      obtain ⟨F5, hr5, hu5, hc5⟩ := rwaits_end H.out hR.ch how hv hal
      have HR5 := Lib.hid hr5
      have HU5 := Lib.hid hu5
      have HC5 := Lib.hid hc5
      have ff1 := frozen_of_row wr m 1 _ 60 hrw.here
      have hfl : (fq (kpOf keep) 0 Q).length ≤ 1000000 := Nat.le_trans (fq_le _ _ _) hQ
      clear hR how hv hal hr5 hu5 hc5 HR hrw
      go_wp2_with fail
      obtain ⟨db5, dc5, A5, wc5, ds5, h5⟩ := HR5.out
      refine (Try.rsync h5 hfl).mono ?_
      rintro e w6 ⟨rfl, F6, h6, u6, c6, _⟩
      rw [dset_fq] at h6
      have HE : Hid (RCrashed w F m k (dset (kpOf keep) 0 Q D) (.returned (.tuple #[])) w6) := Lib.hid ⟨rfl, F6, h6, (HU5.out).compR u6, (HC5.out).trans c6⟩
      clear h6 u6 c6 h5
      go_wp2
      go_end0
      exact HE.out
end Go.Proofs
