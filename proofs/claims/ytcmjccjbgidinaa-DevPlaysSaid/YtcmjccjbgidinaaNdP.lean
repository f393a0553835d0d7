/-
  Texts of a proof over the translated program: NdP.
-/
import Derived.Test.YtcmjccjbgidinaaNdR8
import Derived.Test.YtcmjccjbgidinaaNdR5
import Derived.Test.YtcmjccjbgidinaaNdW
import Derived.Test.YtcmjccjbgidinaaNdKp
set_option linter.unusedVariables false
set_option linter.unnecessarySimpa false
set_option linter.unusedSimpArgs false
namespace Go.Proofs
open Go.RowKit
set_option maxRecDepth 100000
def AllQ (k : Nat) (Q : List (Nat × List UInt8)) : Prop := ∀ q ∈ Q, q.1 < k ∧ q.2.length = 64
theorem AllW.q {w : World} {F : Nat → Prop} {ns : List Nat} {k : Nat} : ∀ (Q : List (Nat × List UInt8)) (ds : List (Nat × Nat)), AllW w F ns k Q ds → AllQ k Q
  | q :: Q, x :: ds, h => fun p hp => by
    rcases List.mem_cons.1 hp with rfl | hp
    · exact ⟨h.1.2.2.2.1, h.1.2.2.1⟩
    · exact AllW.q Q ds h.2 p hp
  | [], _, _ => fun p hp => by simp at hp
  | q :: Q, [], h => h.elim
theorem dset_len (kp : Nat → Bool) (k : Nat) : ∀ (Q : List (Nat × List UInt8)) (j : Nat) (L : List UInt8), AllQ k Q → L.length = 64 * k → (dset kp j Q L).length = 64 * k
  | [], _, _, _, h => h
  | q :: Q, j, L, hq, h => by
    simp only [dset]
    refine dset_len kp k Q (j + 1) _ (fun p hp => hq p (by simp [hp])) ?_
    obtain ⟨h1, h2⟩ := hq q (by simp)
    by_cases hk : kp j = true
    · simp [hk, h2]; omega
    · simp [hk, h]
theorem told_dset (k : Nat) (L : List UInt8) (hL : L.length = 64 * k) (i : Nat) (hi : i < k) : ∀ (n : Nat) (Q : List (Nat × List UInt8)), Q.length = n → AllQ k Q → told L Q i = ((dset (fun _ => true) 0 Q L).drop (i * 64)).take 64
  | 0, Q, hn, _ => by
    obtain rfl := List.eq_nil_of_length_eq_zero hn
    rfl
  | n + 1, Q, hn, hq => by
    obtain ⟨Q', q, rfl⟩ : ∃ Q' q, Q = Q' ++ [q] := by
      have hne : Q ≠ [] := fun e => by simp [e] at hn
      exact ⟨Q.dropLast, Q.getLast hne, (List.dropLast_concat_getLast hne).symm⟩
    have hq' : AllQ k Q' := fun p hp => hq p (by simp [hp])
    have ih := told_dset k L hL i hi n Q' (by simp at hn; exact hn) hq'
    obtain ⟨h1, h2⟩ := hq q (by simp)
    have hl := dset_len (fun _ => true) k Q' 0 L hq' hL
    rw [dset_snoc, if_pos rfl]
    unfold told
    rw [lastW_snoc]
    by_cases he : q.1 = i
    · subst he
      rw [if_pos rfl, win_same' _ _ q.1 k hl h1 h2]
      rfl
    · rw [if_neg he, win_other _ _ q.1 i k hl h1 h2 (fun e => he e.symm), ← ih]
      rfl
theorem Try.write_len {w : World} {F : Nat → Prop} {d k lb cl tb ct : Nat} {vw : Value} {ds : List (Nat × Nat)} {L T : List UInt8} {Q : List (Nat × List UInt8)} (hd : DW w F d k lb cl tb ct vw ds L T Q) (i : Nat) (hi : i < k) (n m : Nat) (A : Option Addr) (hn : n ≠ 64) (hm : n ≤ 1000) :
    Calls Try.prog 13 #[.pointer (some ⟨d, 0, none⟩), .int .i64 i, .slice A n m] w fun e w' => e = .returned (.int .i64 1) ∧ w = w' := by
  have c1 := hd.c1
  have hk := hd.hk
  have h16 : 64 * k ≤ 65536 := by omega
  have hik : (i : Int) < (64 * k : Nat) / 64 := by omega
  have q1 : ((n : Int) == 64) = false := by simp; omega
  have q2 : ((n : Int) != 64) = true := by simp; omega
  have q3 : ¬ (n : Int) = 64 := by omega
  clear hn
  go_enter Try.func13, Try.ntmps13
  go_wp2_with (first
    | (go_at_call 37; refine (Try.has_yes _ _ _ _ _ h16 (by omega) hik _ c1).mono ?_; rintro e w' ⟨rfl, rfl⟩))
  go_ret
  exact ⟨rfl, rfl⟩
theorem Try.rwrite_len {w : World} {F : Nat → Prop} {m k db dc wc : Nat} {A : Option Addr} {ds : List (Nat × Nat)} {D : List UInt8} {Q : List (Nat × List UInt8)} (h : RW w F m k db dc A wc ds D Q) (i : Nat) (hi : i < k) (X : Option Addr) (n mm : Nat) (hn : n ≠ 64) (hm : n ≤ 1000) :
    Calls Try.prog 14 #[.pointer (some ⟨m, 0, none⟩), .int .i64 i, .slice X n mm] w fun e w' => e = .returned (.int .i64 1) ∧ w = w' := by
  have c0 := h.c0
  have hk := h.hk
  have h16 : 64 * k ≤ 65536 := by omega
  have hq : 64 * k / 64 = k := by omega
  have p1 : decide ((i : Int) < 0) = false := by simp
  have p2 : decide ((k : Int) ≤ i) = false := by simp; omega
  have q1 : ((n : Int) == 64) = false := by simp; omega
  have q2 : ((n : Int) != 64) = true := by simp; omega
  have q3 : ¬ (n : Int) = 64 := by omega
  clear hn
  go_enter Try.func14, Try.ntmps14
  go_wp2_with (go_at_call 40; refine (Try.rblocks _ _ _ _ h16 _ c0).mono ?_; rintro e w' ⟨rfl, rfl⟩; rw [hq])
  go_ret
  exact ⟨rfl, rfl⟩
/-- The two devices agree. -/
structure LR (w0 : World) (k d m j : Nat) (wr : World) : Prop where
  ex : ∃ F G L Q, DV wr F d k L (dset (fun _ => true) 0 Q L) Q ∧ RV wr G m k L Q ∧ Q.length ≤ j ∧ Disj F G ∧ (∀ b, F b → w0.heap.size ≤ b) ∧ (∀ b, G b → w0.heap.size ≤ b)
  bel : Below w0.heap.size w0 wr
theorem RV.lt {w : World} {F : Nat → Prop} {m k : Nat} {D : List UInt8} {Q : List (Nat × List UInt8)} (h : RV w F m k D Q) : ∀ b, F b → b < w.heap.size := by
  obtain ⟨_, _, _, _, _, h⟩ := h
  exact h.lt
theorem RV.stay {w w' : World} {F S : Nat → Prop} {m k : Nat} {D : List UInt8} {Q : List (Nat × List UInt8)} (h : RV w F m k D Q) (hc : Chg w w' S) (hS : ∀ b, F b → ¬ S b) : RV w' F m k D Q := by
  obtain ⟨a, b, c, d, e, h⟩ := h
  exact ⟨a, b, c, d, e, h.keep hc hS⟩
theorem RV.other {w w' : World} {F F1 F1' : Nat → Prop} {m k : Nat} {D : List UInt8} {Q : List (Nat × List UInt8)} (h : RV w F m k D Q) (hu : Upd w w' F1 F1') (hx : Disj F1 F) : RV w' F m k D Q ∧ Disj F1' F := by
  refine ⟨h.stay (S := F1) ⟨hu.os, hu.tape, hu.output, hu.size, hu.block⟩ (fun b hb q => hx b q hb), fun b h1 h2 => ?_⟩
  rcases hu.grow b h1 with q | q
  · exact hx b q h2
  · have := h.lt b h2
    omega
theorem LR.mono {w0 wr : World} {k d m j j' : Nat} (h : LR w0 k d m j wr) (hj : j ≤ j') : LR w0 k d m j' wr := by
  obtain ⟨⟨F, G, L, Q, h1, h2, h3, h4⟩, h5⟩ := h
  exact ⟨⟨F, G, L, Q, h1, h2, by omega, h4⟩, h5⟩
theorem LR.below {w0 wr w' : World} {k d m j : Nat} (h : LR w0 k d m j wr) (hb : Below wr.heap.size wr w') : LR w0 k d m j w' := by
  obtain ⟨⟨F, G, L, Q, h1, h2, h3, h4⟩, h5⟩ := h
  exact ⟨⟨F, G, L, Q, h1.stay (Chg.below hb (fun _ => False)) (fun _ _ => id), h2.stay (Chg.below hb (fun _ => False)) (fun _ _ => id), h3, h4⟩, h5.trans (hb.mono h5.size)⟩
/-- Both updated, one behind the other. -/
theorem lr_both {w0 wr w1 w2 : World} {k d m j : Nat} {F F' G G' : Nat → Prop} {L L' T' D' : List UInt8} {Q Q' : List (Nat × List UInt8)} (hr : RV wr G m k L Q) (hx : Disj F G) (y1 : ∀ b, F b → w0.heap.size ≤ b) (y2 : ∀ b, G b → w0.heap.size ≤ b) (hbel : Below w0.heap.size w0 wr)
    (hd1 : DV w1 F' d k L' T' Q') (hu1 : Upd wr w1 F F') (hr2 : RV w2 G' m k L' Q') (hu2 : Upd w1 w2 G G') (hT : T' = dset (fun _ => true) 0 Q' L') (hj : Q'.length ≤ j) : LR w0 k d m j w2 := by
  obtain ⟨r1, x1⟩ := hr.other hu1 hx
  obtain ⟨d2, x2⟩ := hd1.other hu2 x1.symm
  subst hT
  have b1 := hbel.trans (hu1.belowW y1 hbel.size)
  exact ⟨⟨F', G', L', Q', d2, hr2, hj, x2.symm, hu1.lowW y1 hbel.size, hu2.lowW y2 b1.size⟩, b1.trans (hu2.belowW y2 b1.size)⟩
end Go.Proofs
