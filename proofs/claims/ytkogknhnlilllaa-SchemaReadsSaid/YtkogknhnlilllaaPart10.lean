/-
  Texts of a proof over the translated program: proved evaluators and walks, part 10 of 11.
-/
import Derived.Test.YtkogknhnlilllaaPart9
import Derived.Below
import Derived.Deep.Cut
import Derived.Deep.RegionHeld3
import Derived.Deep.RegionWith
import Derived.Handy
import Derived.IntWalk
import Derived.Laws.BytesArg
import Derived.Laws.BytesString
import Derived.Laws.Closers25b
import Derived.Laws.MakeOwn
import Derived.Lib.Hide
import Derived.Lib.SlBytesRow
import Derived.LoopTactic
import Derived.Outline
import Derived.OwnWalk
import Derived.Scope
import Derived.ScopeJumps
import Derived.Test.YtkogknhnlilllaaProg
import Derived.WalkKit
import Derived.WalkMore
import Derived.WalkSpells
set_option linter.unusedVariables false
set_option linter.unusedSimpArgs false
set_option linter.unusedSectionVars false
set_option linter.unnecessarySimpa false
section
namespace Go.Proofs
open Go.RowKit
set_option maxRecDepth 100000
theorem Rd.trans {w w1 w2 : World} {b : Nat} {A : Option Addr} {n c : Nat} {f p p' e e' : Int} (h : Rd w b A n c f p e w1) (k : Rd w1 b A n c f p' e' w2) : Rd w b A n c f p' e' w2 := ⟨k.1, grown_trans h.2 k.2⟩
theorem grown_drew (w : World) (r : Option Nat) : w.grownBy w.drew r := ⟨rfl, rfl, rfl, Nat.le_refl _, fun _ _ _ => rfl⟩
theorem Try.leftI {W w : World} {b : Nat} {A : Option Addr} {n c : Nat} {l : List UInt8} {f : Int} {p : Nat} {e : Int} (h : RdIn W w b A n c l f p e) (q : Int) (hq : (if e = 0 then (n : Int) - p else 0) = q) :
    Calls Try.prog 38 #[.pointer (some ⟨b, 0, none⟩)] w fun y w' => y = .returned (.int .i64 q) ∧ Rd w b A n c f p e w' := by
  refine (Try.rleft h.rb h.hp h.hn).mono ?_
  rintro y w' ⟨rfl, k1, k2⟩
  exact ⟨by rw [hq], h.rb.heap k1, grown_below k2 _⟩
theorem Try.need_no {w : World} {b : Nat} {A : Option Addr} {n c : Nat} {f p e : Int} (h : RB w b A n c f p e) (he : Hid (e ≠ 0)) (ok : Bool) (x : Int) :
    Calls Try.prog 21 #[.pointer (some ⟨b, 0, none⟩), .bool ok, .int .i64 x] w fun y w' => y = .returned (.tuple #[]) ∧ Rd w b A n c f p e w' :=
  Try.rneed h ok x e (by rw [if_neg]; exact fun k => he.out k.2)
set_option maxHeartbeats 4000000 in
theorem Try.byteI {W w : World} {b : Nat} {A : Option Addr} {n c : Nat} {l : List UInt8} {f : Int} {p : Nat} {e : Int} (h : RdIn W w b A n c l f p e) :
    Calls Try.prog 24 #[.pointer (some ⟨b, 0, none⟩)] w fun y w' => y = .returned (.int .u8 (rbyte l p e).1) ∧ Rd w b A n c f (rbyte l p e).2.1 (rbyte l p e).2.2 w' := by
  obtain ⟨R, hR⟩ : ∃ R, rbyte l p e = R := ⟨_, rfl⟩
  rw [hR]
  have HB := Lib.hid h
  have HQ := Lib.hid hR
  have hnn := h.hn
  have hpn := h.hp
  have hln := h.di.len
  clear h hR
  by_cases he : e = 0
  · subst he
    by_cases hlt : p < n
    · obtain ⟨x, hx⟩ : ∃ x, l[p]? = some x := ⟨_, List.getElem?_eq_getElem (by omega)⟩
      have HE : Hid (R = ((x.toNat : Int), p + 1, 0)) := Lib.hid (by have := HQ.out; unfold Go.Proofs.rbyte at this; rw [if_pos rfl, hx] at this; exact this.symm)
      obtain ⟨X, hX, hcell⟩ := (HB.out).di.at' _ _ hx
      subst hX
      unfold u8v at hcell
      have HC := Lib.hid hcell
      obtain ⟨y, hy⟩ : ∃ y, x.toNat = y := ⟨_, rfl⟩
      have hy2 : y < 256 := by rw [← hy]; exact x.toNat_lt
      rw [hy] at HC HE
      have g1 : decide ((0 : Int) < (n : Int) - p) = true := by simp; omega
      have s1 : IntKind.i64.wrap ((p : Int) + 1) = ((p + 1 : Nat) : Int) := by rw [wrapi (by omega) (by omega)]; omega
      have s2 : IntKind.i64.wrap (((p + 1 : Nat) : Int) - 1) = (p : Int) := by rw [wrapi (by omega) (by omega)]; omega
      clear hx hy hcell
      go_enter Try.func24, Try.ntmps24
      go_wp2_with fail
      refine (Try.leftI HB.out ((n : Int) - p) (by rw [if_pos rfl])).mono ?_
      rintro y1 w1 ⟨rfl, r1⟩
      have R1 := Lib.hid r1
      clear r1
      go_wp2_with fail
      refine (Try.rneed (R1.out).1 true 5 0 (by simp)).mono ?_
      rintro y2 w2 ⟨rfl, r2⟩
      have R2 := Lib.hid ((R1.out).trans r2)
      have h3 := r2.1.c3
      have h2 := r2.1.c2
      have hf2 := frozen_of_row w2 b 2 _ 78 r2.1
      clear r2 R1
      go_upto_region 5 with fail
      obtain ⟨wd, hwd⟩ : ∃ wd, w2.setCell ⟨b, 2, none⟩ (.int .i64 ((p : Int) + 1)) = wd := ⟨_, rfl⟩
      have R3 : Hid (Rd w b (some X) n c f (p + 1) 0 wd) := Lib.hid (by rw [← hwd]; exact ⟨(R2.out).1.set2 (p + 1), grown_trans (R2.out).2 (grown_set _ _ _ _)⟩)
      have hd0 := (R3.out).1.c0
      have hd2 : wd.cell? ⟨b, 2, none⟩ = some (.int .i64 ((p : Int) + 1)) := (R3.out).1.c2
      have hd5 : wd.cell? (X.add p) = some (.int .u8 (y : Int)) := cellW HC.out ((HB.out).bel.grown (R3.out).2 (HB.out).bel.size (fun k hk => by cases hk; exact (HB.out).box))
      have s3 : IntKind.i64.wrap ((p : Int) + 1 - 1) = (p : Int) := by rw [wrapi (by omega) (by omega)]; omega
      have s4 : IntKind.i64.wrap (p : Int) = (p : Int) := wrapi (by omega) (by omega)
      have hlc := (HB.out).di.le
      rw [hwd]
      clear hwd h2 h3 hf2 R2
      refine wp_region_noPanic ?_
      refine wp_region_held_drew (S := (fun W => W.cell? ⟨b, 0, none⟩ = some (.slice (some X) n c) ∧ W.cell? ⟨b, 2, none⟩ = some (.int .i64 ((p : Int) + 1)) ∧ W.cell? (X.add p) = some (.int .u8 (y : Int)))) (by kernel_rfl) ?_ (fun hHeld => ?_)
      · exact ⟨hd0, hd2, hd5⟩
      refine wpAnyH_take (i := 0) (oi := { dst := some 20, op := Op.move (Operand.tmp 0), type := 55, pos := "read.go:65", after := #[], guard := none }) (v := ?_) rfl (by kernel_rfl) (by kernel_rfl) (by kernel_rfl) (fun _ _ _ h => h) (Or.inl ⟨by rfl, ?_⟩) (by assumption) ?_
      rotate_left
      · (intro w hSw; (try dsimp only at hSw); go_simp; try with_reducible rfl)
      try simp only [Act.put, List.setIfInBounds_toArray, List.set_cons_zero, List.set_cons_succ]
      refine wpAnyH_take (i := 1) (oi := { dst := some 21, op := Op.nilCheck (Operand.tmp 20), type := 0, pos := "read.go:65", after := #[{ on := 0, ground := Ground.data }], guard := none }) (v := ?_) rfl (by kernel_rfl) (by kernel_rfl) (by kernel_rfl) (fun _ _ _ h => h) (Or.inl ⟨by rfl, ?_⟩) (by assumption) ?_
      rotate_left
      · (intro w hSw; (try dsimp only at hSw); go_simp; try with_reducible rfl)
      try simp only [Act.put, List.setIfInBounds_toArray, List.set_cons_zero, List.set_cons_succ]
      refine wpAnyH_take (i := 2) (oi := { dst := some 22, op := Op.fieldAddr 78 (Operand.tmp 21) 0, type := 0, pos := "read.go:65", after := #[{ on := 1, ground := Ground.data }], guard := none }) (v := ?_) rfl (by kernel_rfl) (by kernel_rfl) (by kernel_rfl) (fun _ _ _ h => h) (Or.inl ⟨by rfl, ?_⟩) (by assumption) ?_
      rotate_left
      · (intro w hSw; (try dsimp only at hSw); go_simp; try with_reducible rfl)
      try simp only [Act.put, List.setIfInBounds_toArray, List.set_cons_zero, List.set_cons_succ]
      refine wpAnyH_take (i := 3) (oi := { dst := some 23, op := Op.load 22 (Operand.tmp 22), type := 22, pos := "read.go:65", after := #[{ on := 2, ground := Ground.data }], guard := none }) (v := ?_) rfl (by kernel_rfl) (by kernel_rfl) (by kernel_rfl) (fun _ _ _ h => h) (Or.inl ⟨by rfl, ?_⟩) (by assumption) ?_
      rotate_left
      · (intro w hSw; (try dsimp only at hSw); go_simp; try with_reducible rfl)
      try simp only [Act.put, List.setIfInBounds_toArray, List.set_cons_zero, List.set_cons_succ]
      refine wpAnyH_take (i := 4) (oi := { dst := some 24, op := Op.move (Operand.tmp 0), type := 55, pos := "read.go:65", after := #[], guard := none }) (v := ?_) rfl (by kernel_rfl) (by kernel_rfl) (by kernel_rfl) (fun _ _ _ h => h) (Or.inl ⟨by rfl, ?_⟩) (by assumption) ?_
      rotate_left
      · (intro w hSw; (try dsimp only at hSw); go_simp; try with_reducible rfl)
      try simp only [Act.put, List.setIfInBounds_toArray, List.set_cons_zero, List.set_cons_succ]
      refine wpAnyH_take (i := 5) (oi := { dst := some 25, op := Op.nilCheck (Operand.tmp 24), type := 0, pos := "read.go:65", after := #[{ on := 4, ground := Ground.data }], guard := none }) (v := ?_) rfl (by kernel_rfl) (by kernel_rfl) (by kernel_rfl) (fun _ _ _ h => h) (Or.inl ⟨by rfl, ?_⟩) (by assumption) ?_
      rotate_left
      · (intro w hSw; (try dsimp only at hSw); go_simp; try with_reducible rfl)
      try simp only [Act.put, List.setIfInBounds_toArray, List.set_cons_zero, List.set_cons_succ]
      refine wpAnyH_take (i := 6) (oi := { dst := some 26, op := Op.fieldAddr 78 (Operand.tmp 25) 2, type := 0, pos := "read.go:65", after := #[{ on := 5, ground := Ground.data }], guard := none }) (v := ?_) rfl (by kernel_rfl) (by kernel_rfl) (by kernel_rfl) (fun _ _ _ h => h) (Or.inl ⟨by rfl, ?_⟩) (by assumption) ?_
      rotate_left
      · (intro w hSw; (try dsimp only at hSw); go_simp; try with_reducible rfl)
      try simp only [Act.put, List.setIfInBounds_toArray, List.set_cons_zero, List.set_cons_succ]
      refine wpAnyH_take (i := 7) (oi := { dst := some 27, op := Op.load 3 (Operand.tmp 26), type := 3, pos := "read.go:65", after := #[{ on := 6, ground := Ground.data }], guard := none }) (v := ?_) rfl (by kernel_rfl) (by kernel_rfl) (by kernel_rfl) (fun _ _ _ h => h) (Or.inl ⟨by rfl, ?_⟩) (by assumption) ?_
      rotate_left
      · (intro w hSw; (try dsimp only at hSw); go_simp; try with_reducible rfl)
      try simp only [Act.put, List.setIfInBounds_toArray, List.set_cons_zero, List.set_cons_succ]
      refine wpAnyH_take (i := 8) (oi := { dst := some 28, op := Op.binOp BinOp.sub 3 (Operand.tmp 27) (Operand.const (Value.int IntKind.i64 1)) 3, type := 3, pos := "read.go:65", after := #[{ on := 7, ground := Ground.data }], guard := none }) (v := ?_) rfl (by kernel_rfl) (by kernel_rfl) (by kernel_rfl) (fun _ _ _ h => h) (Or.inl ⟨by rfl, ?_⟩) (by assumption) ?_
      rotate_left
      · (intro w hSw; (try dsimp only at hSw); go_simp; try with_reducible rfl)
      try simp only [Act.put, List.setIfInBounds_toArray, List.set_cons_zero, List.set_cons_succ]
      refine wpAnyH_take (i := 9) (oi := { dst := some 29, op := Op.indexAddr 22 (Operand.tmp 23) (Operand.tmp 28), type := 0, pos := "read.go:65", after := #[{ on := 3, ground := Ground.data }, { on := 8, ground := Ground.data }], guard := none }) (v := ?_) rfl (by kernel_rfl) (by kernel_rfl) (by kernel_rfl) (fun _ _ _ h => h) (Or.inl ⟨by rfl, ?_⟩) (by assumption) ?_
      rotate_left
      · (intro w hSw; (try dsimp only at hSw); go_simp; try with_reducible rfl)
      try simp only [Act.put, List.setIfInBounds_toArray, List.set_cons_zero, List.set_cons_succ]
      refine wpAnyH_take (i := 10) (oi := { dst := some 30, op := Op.load 5 (Operand.tmp 29), type := 5, pos := "read.go:65", after := #[{ on := 9, ground := Ground.data }], guard := none }) (v := ?_) rfl (by kernel_rfl) (by kernel_rfl) (by kernel_rfl) (fun _ _ _ h => h) (Or.inl ⟨by rfl, ?_⟩) (by assumption) ?_
      rotate_left
      · (intro w hSw; (try dsimp only at hSw); go_simp; try with_reducible rfl)
      try simp only [Act.put, List.setIfInBounds_toArray, List.set_cons_zero, List.set_cons_succ]
      refine wpAnyH_take (i := 11) (oi := { dst := some 2, op := Op.assign (Operand.tmp 30), type := 5, pos := "read.go:65", after := #[{ on := 10, ground := Ground.data }, { on := 0, ground := Ground.phase }, { on := 1, ground := Ground.phase }, { on := 2, ground := Ground.phase }, { on := 3, ground := Ground.phase }, { on := 4, ground := Ground.phase }, { on := 5, ground := Ground.phase }, { on := 6, ground := Ground.phase }, { on := 7, ground := Ground.phase }, { on := 8, ground := Ground.phase }, { on := 9, ground := Ground.phase }, { on := 10, ground := Ground.phase }], guard := none }) (v := ?_) rfl (by kernel_rfl) (by kernel_rfl) (by kernel_rfl) (fun _ _ _ h => h) (Or.inl ⟨by rfl, ?_⟩) (by assumption) ?_
      rotate_left
      · (intro w hSw; (try dsimp only at hSw); go_simp; try with_reducible rfl)
      try simp only [Act.put, List.setIfInBounds_toArray, List.set_cons_zero, List.set_cons_succ]
      refine wpAnyH_done (by kernel_rfl) ?_ _
      refine NoPanic.normal ?_
      go_wp2_with fail
      go_ret
      have := HE.out
      subst this
      exact ⟨rfl, (R3.out).1.heap rfl, grown_trans (R3.out).2 (grown_drew _ _)⟩
    · have hx : l[p]? = none := List.getElem?_eq_none (by omega)
      have HE : Hid (R = (0, p, 5)) := Lib.hid (by have := HQ.out; unfold Go.Proofs.rbyte at this; rw [if_pos rfl, hx] at this; exact this.symm)
      have g1 : decide ((0 : Int) < (n : Int) - p) = false := by simp; omega
      clear hx
      go_enter Try.func24, Try.ntmps24
      go_wp2_with fail
      refine (Try.leftI HB.out ((n : Int) - p) (by rw [if_pos rfl])).mono ?_
      rintro y1 w1 ⟨rfl, r1⟩
      have R1 := Lib.hid r1
      clear r1
      go_wp2_with fail
      refine (Try.rneed (R1.out).1 false 5 5 (by simp)).mono ?_
      rintro y2 w2 ⟨rfl, r2⟩
      have R2 := Lib.hid ((R1.out).trans r2)
      have h3 := r2.1.c3
      clear r2 R1
      go_wp2_with fail
      go_ret
      have := HE.out
      subst this
      exact ⟨rfl, R2.out⟩
  · have g := dec_ne he
    have g' : (e == 0) = false := by simpa using he
    have HE : Hid (R = (0, p, e)) := Lib.hid (by have := HQ.out; unfold Go.Proofs.rbyte at this; rw [if_neg he] at this; exact this.symm)
    have HL := Lib.hid (show (if e = 0 then (n : Int) - p else 0) = 0 by rw [if_neg he])
    have HN := Lib.hid he
    clear he
    go_enter Try.func24, Try.ntmps24
    go_wp2_with fail
    refine (Try.leftI HB.out 0 HL.out).mono ?_
    rintro y1 w1 ⟨rfl, r1⟩
    have R1 := Lib.hid r1
    clear r1
    go_wp2_with fail
    refine (Try.need_no (R1.out).1 HN false 5).mono ?_
    rintro y2 w2 ⟨rfl, r2⟩
    have R2 := Lib.hid ((R1.out).trans r2)
    have h3 := r2.1.c3
    clear r2 R1
    go_wp2_with fail
    go_ret
    have := HE.out
    subst this
    exact ⟨rfl, R2.out⟩
end Go.Proofs
end

section
namespace Go.Proofs
open Go.RowKit
set_option maxRecDepth 100000
theorem RdIn.cells {W w w' : World} {b : Nat} {A : Option Addr} {n c : Nat} {l : List UInt8} {f : Int} {p : Nat} {e : Int} (h : RdIn W w b A n c l f p e) (hg : w.grownBy w' (some b)) : Below W.heap.size W w' :=
  h.bel.grown hg h.bel.size (fun k hk => by cases hk; exact h.box)
theorem addr_add (X : Addr) (p j : Nat) : (X.add p).add j = X.add (p + j) := Addr.add_add X p j
set_option maxHeartbeats 4000000 in
theorem Try.textI {W w : World} {b : Nat} {A : Option Addr} {n c : Nat} {l : List UInt8} {f : Int} {p : Nat} {e : Int} (h : RdIn W w b A n c l f p e) (U : Nat) (hU : U < 18446744073709551616) :
    Calls Try.prog 23 #[.pointer (some ⟨b, 0, none⟩), .int .u64 U] w fun y w' => y = .returned (.string (strOf (rtext l p e U).1)) ∧ Rd w b A n c f (rtext l p e U).2.1 (rtext l p e U).2.2 w' := by
  obtain ⟨R, hR⟩ : ∃ R, rtext l p e U = R := ⟨_, rfl⟩
  rw [hR]
  have HB := Lib.hid h
  have HQ := Lib.hid hR
  have hnn := h.hn
  have hpn := h.hp
  have hln := h.di.len
  have hlc := h.di.le
  clear h hR
  by_cases he : e = 0
  · subst he
    have w1 : IntKind.u64.wrap ((n : Int) - p) = (n : Int) - p := wrapu (by omega) (by omega)
    by_cases hlt : (U : Int) ≤ (n : Int) - p
    · have HE : Hid (R = ((l.drop p).take U, p + U, 0)) := Lib.hid (by have := HQ.out; unfold rtext at this; rw [if_pos rfl, if_pos (by rw [hln]; exact hlt), Int.toNat_natCast] at this; exact this.symm)
      have g1 : decide ((U : Int) ≤ (n : Int) - p) = true := by simp; omega
      have w2 : IntKind.i64.wrap (U : Int) = (U : Int) := wrapi (by omega) (by omega)
      have s1 : IntKind.i64.wrap ((p : Int) + U) = ((p + U : Nat) : Int) := by rw [wrapi (by omega) (by omega)]; omega
      have s1' : IntKind.i64.wrap ((p : Int) + U) = (p : Int) + U := by rw [wrapi (by omega) (by omega)]
      have s4 : IntKind.i64.wrap (p : Int) = (p : Int) := wrapi (by omega) (by omega)
      have s3 : IntKind.i64.wrap ((p : Int) + U - U) = (p : Int) := by rw [wrapi (by omega) (by omega)]; omega
      go_enter Try.func23, Try.ntmps23
      go_wp2_with fail
      refine (Try.leftI HB.out ((n : Int) - p) (by rw [if_pos rfl])).mono ?_
      rintro y1 w1 ⟨rfl, r1⟩
      have R1 := Lib.hid r1
      clear r1
      go_wp2_with fail
      refine (Try.rneed (R1.out).1 true 5 0 (by simp)).mono ?_
      rintro y2 w2 ⟨rfl, r2⟩
      have R2 := Lib.hid ((R1.out).trans r2)
      have h3 := r2.1.c3
      have h2 := r2.1.c2
      have hf2 := frozen_of_row w2 b 2 _ 78 r2.1
      clear r2 R1
      go_upto_region 5 with fail
      obtain ⟨wd, hwd⟩ : ∃ wd, w2.setCell ⟨b, 2, none⟩ (.int .i64 ((p : Int) + U)) = wd := ⟨_, rfl⟩
      have R3 : Hid (Rd w b A n c f (p + U) 0 wd) := Lib.hid (by rw [← hwd]; exact ⟨(R2.out).1.set2 (p + U), grown_trans (R2.out).2 (grown_set _ _ _ _)⟩)
      have hd0 := (R3.out).1.c0
      have hd2 : wd.cell? ⟨b, 2, none⟩ = some (.int .i64 ((p : Int) + U)) := (R3.out).1.c2
      have BD := Lib.hid ((HB.out).cells (R3.out).2)
      rw [hwd]
      clear hwd h2 h3 hf2 R2 HQ
      by_cases hU0 : U = 0
      · subst hU0
        clear g1 w2 s1 s1' s3
        have hd2' : wd.cell? ⟨b, 2, none⟩ = some (.int .i64 (p : Int)) := by rw [hd2]; simp
        have w0 : IntKind.i64.wrap 0 = 0 := by decide
        have s5 : IntKind.i64.wrap ((p : Int) - 0) = (p : Int) := by rw [wrapi (by omega) (by omega)]; omega
        have hpc : p ≤ c := by omega
        clear hd2
        refine wp_region_noPanic ?_
        refine wp_region_held_drew (S := (fun W => W.cell? ⟨b, 0, none⟩ = some (.slice A n c) ∧ W.cell? ⟨b, 2, none⟩ = some (.int .i64 (p : Int)) ∧ ∀ (B : Option Addr) (m : Nat), (convert 22 9 (.slice B 0 m)).run Try.prog W = .ok (.string (strOf [])) W)) (by kernel_rfl) ?_ (fun hHeld => ?_)
        · exact ⟨hd0, hd2', fun B m => str_sl0 _ B m⟩
        refine wpAnyH_take (i := 0) (oi := { dst := some 26, op := Op.move (Operand.tmp 0), type := 55, pos := "read.go:75", after := #[], guard := none }) (v := ?_) rfl (by kernel_rfl) (by kernel_rfl) (by kernel_rfl) (fun _ _ _ h => h) (Or.inl ⟨by rfl, ?_⟩) (by assumption) ?_
        rotate_left
        · (intro w hSw; (try dsimp only at hSw); go_simp; try with_reducible rfl)
        try simp only [Act.put, List.setIfInBounds_toArray, List.set_cons_zero, List.set_cons_succ]
        refine wpAnyH_take (i := 1) (oi := { dst := some 27, op := Op.nilCheck (Operand.tmp 26), type := 0, pos := "read.go:75", after := #[{ on := 0, ground := Ground.data }], guard := none }) (v := ?_) rfl (by kernel_rfl) (by kernel_rfl) (by kernel_rfl) (fun _ _ _ h => h) (Or.inl ⟨by rfl, ?_⟩) (by assumption) ?_
        rotate_left
        · (intro w hSw; (try dsimp only at hSw); go_simp; try with_reducible rfl)
        try simp only [Act.put, List.setIfInBounds_toArray, List.set_cons_zero, List.set_cons_succ]
        refine wpAnyH_take (i := 2) (oi := { dst := some 28, op := Op.fieldAddr 78 (Operand.tmp 27) 0, type := 0, pos := "read.go:75", after := #[{ on := 1, ground := Ground.data }], guard := none }) (v := ?_) rfl (by kernel_rfl) (by kernel_rfl) (by kernel_rfl) (fun _ _ _ h => h) (Or.inl ⟨by rfl, ?_⟩) (by assumption) ?_
        rotate_left
        · (intro w hSw; (try dsimp only at hSw); go_simp; try with_reducible rfl)
        try simp only [Act.put, List.setIfInBounds_toArray, List.set_cons_zero, List.set_cons_succ]
        refine wpAnyH_take (i := 3) (oi := { dst := some 29, op := Op.load 22 (Operand.tmp 28), type := 22, pos := "read.go:75", after := #[{ on := 2, ground := Ground.data }], guard := none }) (v := ?_) rfl (by kernel_rfl) (by kernel_rfl) (by kernel_rfl) (fun _ _ _ h => h) (Or.inl ⟨by rfl, ?_⟩) (by assumption) ?_
        rotate_left
        · (intro w hSw; (try dsimp only at hSw); go_simp; try with_reducible rfl)
        try simp only [Act.put, List.setIfInBounds_toArray, List.set_cons_zero, List.set_cons_succ]
        refine wpAnyH_take (i := 4) (oi := { dst := some 30, op := Op.move (Operand.tmp 0), type := 55, pos := "read.go:75", after := #[], guard := none }) (v := ?_) rfl (by kernel_rfl) (by kernel_rfl) (by kernel_rfl) (fun _ _ _ h => h) (Or.inl ⟨by rfl, ?_⟩) (by assumption) ?_
        rotate_left
        · (intro w hSw; (try dsimp only at hSw); go_simp; try with_reducible rfl)
        try simp only [Act.put, List.setIfInBounds_toArray, List.set_cons_zero, List.set_cons_succ]
        refine wpAnyH_take (i := 5) (oi := { dst := some 31, op := Op.nilCheck (Operand.tmp 30), type := 0, pos := "read.go:75", after := #[{ on := 4, ground := Ground.data }], guard := none }) (v := ?_) rfl (by kernel_rfl) (by kernel_rfl) (by kernel_rfl) (fun _ _ _ h => h) (Or.inl ⟨by rfl, ?_⟩) (by assumption) ?_
        rotate_left
        · (intro w hSw; (try dsimp only at hSw); go_simp; try with_reducible rfl)
        try simp only [Act.put, List.setIfInBounds_toArray, List.set_cons_zero, List.set_cons_succ]
        refine wpAnyH_take (i := 6) (oi := { dst := some 32, op := Op.fieldAddr 78 (Operand.tmp 31) 2, type := 0, pos := "read.go:75", after := #[{ on := 5, ground := Ground.data }], guard := none }) (v := ?_) rfl (by kernel_rfl) (by kernel_rfl) (by kernel_rfl) (fun _ _ _ h => h) (Or.inl ⟨by rfl, ?_⟩) (by assumption) ?_
        rotate_left
        · (intro w hSw; (try dsimp only at hSw); go_simp; try with_reducible rfl)
        try simp only [Act.put, List.setIfInBounds_toArray, List.set_cons_zero, List.set_cons_succ]
        refine wpAnyH_take (i := 7) (oi := { dst := some 33, op := Op.load 3 (Operand.tmp 32), type := 3, pos := "read.go:75", after := #[{ on := 6, ground := Ground.data }], guard := none }) (v := ?_) rfl (by kernel_rfl) (by kernel_rfl) (by kernel_rfl) (fun _ _ _ h => h) (Or.inl ⟨by rfl, ?_⟩) (by assumption) ?_
        rotate_left
        · (intro w hSw; (try dsimp only at hSw); go_simp; try with_reducible rfl)
        try simp only [Act.put, List.setIfInBounds_toArray, List.set_cons_zero, List.set_cons_succ]
        refine wpAnyH_take (i := 8) (oi := { dst := some 34, op := Op.move (Operand.tmp 1), type := 57, pos := "read.go:75", after := #[], guard := none }) (v := ?_) rfl (by kernel_rfl) (by kernel_rfl) (by kernel_rfl) (fun _ _ _ h => h) (Or.inl ⟨by rfl, ?_⟩) (by assumption) ?_
        rotate_left
        · (intro w hSw; (try dsimp only at hSw); go_simp; try with_reducible rfl)
        try simp only [Act.put, List.setIfInBounds_toArray, List.set_cons_zero, List.set_cons_succ]
        refine wpAnyH_take (i := 9) (oi := { dst := some 35, op := Op.convert 57 3 (Operand.tmp 34), type := 3, pos := "read.go:75", after := #[{ on := 8, ground := Ground.data }], guard := none }) (v := ?_) rfl (by kernel_rfl) (by kernel_rfl) (by kernel_rfl) (fun _ _ _ h => h) (Or.inl ⟨by rfl, ?_⟩) (by assumption) ?_
        rotate_left
        · (intro w hSw; (try dsimp only at hSw); go_simp; try with_reducible rfl)
        try simp only [Act.put, List.setIfInBounds_toArray, List.set_cons_zero, List.set_cons_succ]
        refine wpAnyH_take (i := 10) (oi := { dst := some 36, op := Op.binOp BinOp.sub 3 (Operand.tmp 33) (Operand.tmp 35) 3, type := 3, pos := "read.go:75", after := #[{ on := 7, ground := Ground.data }, { on := 9, ground := Ground.data }], guard := none }) (v := ?_) rfl (by kernel_rfl) (by kernel_rfl) (by kernel_rfl) (fun _ _ _ h => h) (Or.inl ⟨by rfl, ?_⟩) (by assumption) ?_
        rotate_left
        · (intro w hSw; (try dsimp only at hSw); go_simp; try with_reducible rfl)
        try simp only [Act.put, List.setIfInBounds_toArray, List.set_cons_zero, List.set_cons_succ]
        refine wpAnyH_take (i := 11) (oi := { dst := some 37, op := Op.move (Operand.tmp 0), type := 55, pos := "read.go:75", after := #[], guard := none }) (v := ?_) rfl (by kernel_rfl) (by kernel_rfl) (by kernel_rfl) (fun _ _ _ h => h) (Or.inl ⟨by rfl, ?_⟩) (by assumption) ?_
        rotate_left
        · (intro w hSw; (try dsimp only at hSw); go_simp; try with_reducible rfl)
        try simp only [Act.put, List.setIfInBounds_toArray, List.set_cons_zero, List.set_cons_succ]
        refine wpAnyH_take (i := 12) (oi := { dst := some 38, op := Op.nilCheck (Operand.tmp 37), type := 0, pos := "read.go:75", after := #[{ on := 11, ground := Ground.data }], guard := none }) (v := ?_) rfl (by kernel_rfl) (by kernel_rfl) (by kernel_rfl) (fun _ _ _ h => h) (Or.inl ⟨by rfl, ?_⟩) (by assumption) ?_
        rotate_left
        · (intro w hSw; (try dsimp only at hSw); go_simp; try with_reducible rfl)
        try simp only [Act.put, List.setIfInBounds_toArray, List.set_cons_zero, List.set_cons_succ]
        refine wpAnyH_take (i := 13) (oi := { dst := some 39, op := Op.fieldAddr 78 (Operand.tmp 38) 2, type := 0, pos := "read.go:75", after := #[{ on := 12, ground := Ground.data }], guard := none }) (v := ?_) rfl (by kernel_rfl) (by kernel_rfl) (by kernel_rfl) (fun _ _ _ h => h) (Or.inl ⟨by rfl, ?_⟩) (by assumption) ?_
        rotate_left
        · (intro w hSw; (try dsimp only at hSw); go_simp; try with_reducible rfl)
        try simp only [Act.put, List.setIfInBounds_toArray, List.set_cons_zero, List.set_cons_succ]
        refine wpAnyH_take (i := 14) (oi := { dst := some 40, op := Op.load 3 (Operand.tmp 39), type := 3, pos := "read.go:75", after := #[{ on := 13, ground := Ground.data }], guard := none }) (v := ?_) rfl (by kernel_rfl) (by kernel_rfl) (by kernel_rfl) (fun _ _ _ h => h) (Or.inl ⟨by rfl, ?_⟩) (by assumption) ?_
        rotate_left
        · (intro w hSw; (try dsimp only at hSw); go_simp; try with_reducible rfl)
        try simp only [Act.put, List.setIfInBounds_toArray, List.set_cons_zero, List.set_cons_succ]
        refine wpAnyH_take (i := 15) (oi := { dst := some 41, op := Op.slice 22 (Operand.tmp 29) (some (Operand.tmp 36)) (some (Operand.tmp 40)) none, type := 22, pos := "read.go:75", after := #[{ on := 3, ground := Ground.data }, { on := 10, ground := Ground.data }, { on := 14, ground := Ground.data }], guard := none }) (v := ?_) rfl (by kernel_rfl) (by kernel_rfl) (by kernel_rfl) (fun _ _ _ h => h) (Or.inl ⟨by rfl, ?_⟩) (by assumption) ?_
        rotate_left
        · (intro w hSw; (try dsimp only at hSw); go_simp; try with_reducible rfl)
        try simp only [Act.put, List.setIfInBounds_toArray, List.set_cons_zero, List.set_cons_succ]
        refine wpAnyH_take (i := 16) (oi := { dst := some 42, op := Op.convert 22 9 (Operand.tmp 41), type := 9, pos := "read.go:75", after := #[{ on := 15, ground := Ground.data }], guard := none }) (v := ?_) rfl (by kernel_rfl) (by kernel_rfl) (by kernel_rfl) (fun _ _ _ h => h) (Or.inl ⟨by rfl, ?_⟩) (by assumption) ?_
        rotate_left
        · (intro w hSw; (try dsimp only at hSw); go_simp; try with_reducible rfl)
        try simp only [Act.put, List.setIfInBounds_toArray, List.set_cons_zero, List.set_cons_succ]
        refine wpAnyH_take (i := 17) (oi := { dst := some 4, op := Op.assign (Operand.tmp 42), type := 9, pos := "read.go:75", after := #[{ on := 16, ground := Ground.data }, { on := 0, ground := Ground.phase }, { on := 1, ground := Ground.phase }, { on := 2, ground := Ground.phase }, { on := 3, ground := Ground.phase }, { on := 4, ground := Ground.phase }, { on := 5, ground := Ground.phase }, { on := 6, ground := Ground.phase }, { on := 7, ground := Ground.phase }, { on := 8, ground := Ground.phase }, { on := 9, ground := Ground.phase }, { on := 10, ground := Ground.phase }, { on := 11, ground := Ground.phase }, { on := 12, ground := Ground.phase }, { on := 13, ground := Ground.phase }, { on := 14, ground := Ground.phase }, { on := 15, ground := Ground.phase }, { on := 16, ground := Ground.phase }], guard := none }) (v := ?_) rfl (by kernel_rfl) (by kernel_rfl) (by kernel_rfl) (fun _ _ _ h => h) (Or.inl ⟨by rfl, ?_⟩) (by assumption) ?_
        rotate_left
        · (intro w hSw; (try dsimp only at hSw); go_simp; try with_reducible rfl)
        try simp only [Act.put, List.setIfInBounds_toArray, List.set_cons_zero, List.set_cons_succ]
        refine wpAnyH_done (by kernel_rfl) ?_ _
        refine NoPanic.normal ?_
        generalize (if c = p then A else Option.map (fun x => x.add p) A) = V
        go_wp2_with fail
        go_ret
        have := HE.out
        subst this
        exact ⟨rfl, (R3.out).1.heap rfl, grown_trans (R3.out).2 (grown_drew _ _)⟩
      · have hp0 : ¬ c = p := by omega
        have hq1 : (0 : Int) ≤ (p : Int) + U := by omega
        have hq2 : (p : Int) + U ≤ c := by omega
        have hq3 : ((p : Int) + U).toNat = p + U := by omega
        obtain ⟨X, hX, _⟩ := (HB.out).di.at' p (l[p]'(by omega)) (List.getElem?_eq_getElem (by omega))
        subst hX
        have hstr : ∀ W' : World, Below W.heap.size W W' → ∀ m : Nat, (convert 22 9 (.slice (some (X.add p)) U m)).run Try.prog W' = .ok (.string (strOf ((l.drop p).take U))) W' := fun W' hW' m => by
          refine str_arg (fun j u hu => ?_) U m (by rw [List.length_take, List.length_drop]; omega)
          rw [List.getElem?_map] at hu
          obtain ⟨x, hx, rfl⟩ := Option.map_eq_some_iff.1 hu
          rw [List.getElem?_take] at hx
          split at hx
          · rw [List.getElem?_drop] at hx
            obtain ⟨X', e, hc⟩ := (HB.out).di.at' _ _ hx
            cases e
            rw [addr_add]
            exact cellW hc hW'
          · cases hx
        refine wp_region_noPanic ?_
        refine wp_region_held_drew (S := (fun W => W.cell? ⟨b, 0, none⟩ = some (.slice (some X) n c) ∧ W.cell? ⟨b, 2, none⟩ = some (.int .i64 ((p : Int) + U)) ∧ ∀ (m : Nat), (convert 22 9 (.slice (some (X.add p)) U m)).run Try.prog W = .ok (.string (strOf ((l.drop p).take U))) W)) (by kernel_rfl) ?_ (fun hHeld => ?_)
        · exact ⟨hd0, hd2, hstr _ (BD.out).drew⟩
        refine wpAnyH_take (i := 0) (oi := { dst := some 26, op := Op.move (Operand.tmp 0), type := 55, pos := "read.go:75", after := #[], guard := none }) (v := ?_) rfl (by kernel_rfl) (by kernel_rfl) (by kernel_rfl) (fun _ _ _ h => h) (Or.inl ⟨by rfl, ?_⟩) (by assumption) ?_
        rotate_left
        · (intro w hSw; (try dsimp only at hSw); go_simp; try with_reducible rfl)
        try simp only [Act.put, List.setIfInBounds_toArray, List.set_cons_zero, List.set_cons_succ]
        refine wpAnyH_take (i := 1) (oi := { dst := some 27, op := Op.nilCheck (Operand.tmp 26), type := 0, pos := "read.go:75", after := #[{ on := 0, ground := Ground.data }], guard := none }) (v := ?_) rfl (by kernel_rfl) (by kernel_rfl) (by kernel_rfl) (fun _ _ _ h => h) (Or.inl ⟨by rfl, ?_⟩) (by assumption) ?_
        rotate_left
        · (intro w hSw; (try dsimp only at hSw); go_simp; try with_reducible rfl)
        try simp only [Act.put, List.setIfInBounds_toArray, List.set_cons_zero, List.set_cons_succ]
        refine wpAnyH_take (i := 2) (oi := { dst := some 28, op := Op.fieldAddr 78 (Operand.tmp 27) 0, type := 0, pos := "read.go:75", after := #[{ on := 1, ground := Ground.data }], guard := none }) (v := ?_) rfl (by kernel_rfl) (by kernel_rfl) (by kernel_rfl) (fun _ _ _ h => h) (Or.inl ⟨by rfl, ?_⟩) (by assumption) ?_
        rotate_left
        · (intro w hSw; (try dsimp only at hSw); go_simp; try with_reducible rfl)
        try simp only [Act.put, List.setIfInBounds_toArray, List.set_cons_zero, List.set_cons_succ]
        refine wpAnyH_take (i := 3) (oi := { dst := some 29, op := Op.load 22 (Operand.tmp 28), type := 22, pos := "read.go:75", after := #[{ on := 2, ground := Ground.data }], guard := none }) (v := ?_) rfl (by kernel_rfl) (by kernel_rfl) (by kernel_rfl) (fun _ _ _ h => h) (Or.inl ⟨by rfl, ?_⟩) (by assumption) ?_
        rotate_left
        · (intro w hSw; (try dsimp only at hSw); go_simp; try with_reducible rfl)
        try simp only [Act.put, List.setIfInBounds_toArray, List.set_cons_zero, List.set_cons_succ]
        refine wpAnyH_take (i := 4) (oi := { dst := some 30, op := Op.move (Operand.tmp 0), type := 55, pos := "read.go:75", after := #[], guard := none }) (v := ?_) rfl (by kernel_rfl) (by kernel_rfl) (by kernel_rfl) (fun _ _ _ h => h) (Or.inl ⟨by rfl, ?_⟩) (by assumption) ?_
        rotate_left
        · (intro w hSw; (try dsimp only at hSw); go_simp; try with_reducible rfl)
        try simp only [Act.put, List.setIfInBounds_toArray, List.set_cons_zero, List.set_cons_succ]
        refine wpAnyH_take (i := 5) (oi := { dst := some 31, op := Op.nilCheck (Operand.tmp 30), type := 0, pos := "read.go:75", after := #[{ on := 4, ground := Ground.data }], guard := none }) (v := ?_) rfl (by kernel_rfl) (by kernel_rfl) (by kernel_rfl) (fun _ _ _ h => h) (Or.inl ⟨by rfl, ?_⟩) (by assumption) ?_
        rotate_left
        · (intro w hSw; (try dsimp only at hSw); go_simp; try with_reducible rfl)
        try simp only [Act.put, List.setIfInBounds_toArray, List.set_cons_zero, List.set_cons_succ]
        refine wpAnyH_take (i := 6) (oi := { dst := some 32, op := Op.fieldAddr 78 (Operand.tmp 31) 2, type := 0, pos := "read.go:75", after := #[{ on := 5, ground := Ground.data }], guard := none }) (v := ?_) rfl (by kernel_rfl) (by kernel_rfl) (by kernel_rfl) (fun _ _ _ h => h) (Or.inl ⟨by rfl, ?_⟩) (by assumption) ?_
        rotate_left
        · (intro w hSw; (try dsimp only at hSw); go_simp; try with_reducible rfl)
        try simp only [Act.put, List.setIfInBounds_toArray, List.set_cons_zero, List.set_cons_succ]
        refine wpAnyH_take (i := 7) (oi := { dst := some 33, op := Op.load 3 (Operand.tmp 32), type := 3, pos := "read.go:75", after := #[{ on := 6, ground := Ground.data }], guard := none }) (v := ?_) rfl (by kernel_rfl) (by kernel_rfl) (by kernel_rfl) (fun _ _ _ h => h) (Or.inl ⟨by rfl, ?_⟩) (by assumption) ?_
        rotate_left
        · (intro w hSw; (try dsimp only at hSw); go_simp; try with_reducible rfl)
        try simp only [Act.put, List.setIfInBounds_toArray, List.set_cons_zero, List.set_cons_succ]
        refine wpAnyH_take (i := 8) (oi := { dst := some 34, op := Op.move (Operand.tmp 1), type := 57, pos := "read.go:75", after := #[], guard := none }) (v := ?_) rfl (by kernel_rfl) (by kernel_rfl) (by kernel_rfl) (fun _ _ _ h => h) (Or.inl ⟨by rfl, ?_⟩) (by assumption) ?_
        rotate_left
        · (intro w hSw; (try dsimp only at hSw); go_simp; try with_reducible rfl)
        try simp only [Act.put, List.setIfInBounds_toArray, List.set_cons_zero, List.set_cons_succ]
        refine wpAnyH_take (i := 9) (oi := { dst := some 35, op := Op.convert 57 3 (Operand.tmp 34), type := 3, pos := "read.go:75", after := #[{ on := 8, ground := Ground.data }], guard := none }) (v := ?_) rfl (by kernel_rfl) (by kernel_rfl) (by kernel_rfl) (fun _ _ _ h => h) (Or.inl ⟨by rfl, ?_⟩) (by assumption) ?_
        rotate_left
        · (intro w hSw; (try dsimp only at hSw); go_simp; try with_reducible rfl)
        try simp only [Act.put, List.setIfInBounds_toArray, List.set_cons_zero, List.set_cons_succ]
        refine wpAnyH_take (i := 10) (oi := { dst := some 36, op := Op.binOp BinOp.sub 3 (Operand.tmp 33) (Operand.tmp 35) 3, type := 3, pos := "read.go:75", after := #[{ on := 7, ground := Ground.data }, { on := 9, ground := Ground.data }], guard := none }) (v := ?_) rfl (by kernel_rfl) (by kernel_rfl) (by kernel_rfl) (fun _ _ _ h => h) (Or.inl ⟨by rfl, ?_⟩) (by assumption) ?_
        rotate_left
        · (intro w hSw; (try dsimp only at hSw); go_simp; try with_reducible rfl)
        try simp only [Act.put, List.setIfInBounds_toArray, List.set_cons_zero, List.set_cons_succ]
        refine wpAnyH_take (i := 11) (oi := { dst := some 37, op := Op.move (Operand.tmp 0), type := 55, pos := "read.go:75", after := #[], guard := none }) (v := ?_) rfl (by kernel_rfl) (by kernel_rfl) (by kernel_rfl) (fun _ _ _ h => h) (Or.inl ⟨by rfl, ?_⟩) (by assumption) ?_
        rotate_left
        · (intro w hSw; (try dsimp only at hSw); go_simp; try with_reducible rfl)
        try simp only [Act.put, List.setIfInBounds_toArray, List.set_cons_zero, List.set_cons_succ]
        refine wpAnyH_take (i := 12) (oi := { dst := some 38, op := Op.nilCheck (Operand.tmp 37), type := 0, pos := "read.go:75", after := #[{ on := 11, ground := Ground.data }], guard := none }) (v := ?_) rfl (by kernel_rfl) (by kernel_rfl) (by kernel_rfl) (fun _ _ _ h => h) (Or.inl ⟨by rfl, ?_⟩) (by assumption) ?_
        rotate_left
        · (intro w hSw; (try dsimp only at hSw); go_simp; try with_reducible rfl)
        try simp only [Act.put, List.setIfInBounds_toArray, List.set_cons_zero, List.set_cons_succ]
        refine wpAnyH_take (i := 13) (oi := { dst := some 39, op := Op.fieldAddr 78 (Operand.tmp 38) 2, type := 0, pos := "read.go:75", after := #[{ on := 12, ground := Ground.data }], guard := none }) (v := ?_) rfl (by kernel_rfl) (by kernel_rfl) (by kernel_rfl) (fun _ _ _ h => h) (Or.inl ⟨by rfl, ?_⟩) (by assumption) ?_
        rotate_left
        · (intro w hSw; (try dsimp only at hSw); go_simp; try with_reducible rfl)
        try simp only [Act.put, List.setIfInBounds_toArray, List.set_cons_zero, List.set_cons_succ]
        refine wpAnyH_take (i := 14) (oi := { dst := some 40, op := Op.load 3 (Operand.tmp 39), type := 3, pos := "read.go:75", after := #[{ on := 13, ground := Ground.data }], guard := none }) (v := ?_) rfl (by kernel_rfl) (by kernel_rfl) (by kernel_rfl) (fun _ _ _ h => h) (Or.inl ⟨by rfl, ?_⟩) (by assumption) ?_
        rotate_left
        · (intro w hSw; (try dsimp only at hSw); go_simp; try with_reducible rfl)
        try simp only [Act.put, List.setIfInBounds_toArray, List.set_cons_zero, List.set_cons_succ]
        refine wpAnyH_take (i := 15) (oi := { dst := some 41, op := Op.slice 22 (Operand.tmp 29) (some (Operand.tmp 36)) (some (Operand.tmp 40)) none, type := 22, pos := "read.go:75", after := #[{ on := 3, ground := Ground.data }, { on := 10, ground := Ground.data }, { on := 14, ground := Ground.data }], guard := none }) (v := ?_) rfl (by kernel_rfl) (by kernel_rfl) (by kernel_rfl) (fun _ _ _ h => h) (Or.inl ⟨by rfl, ?_⟩) (by assumption) ?_
        rotate_left
        · (intro w hSw; (try dsimp only at hSw); go_simp; try with_reducible rfl)
        try simp only [Act.put, List.setIfInBounds_toArray, List.set_cons_zero, List.set_cons_succ]
        refine wpAnyH_take (i := 16) (oi := { dst := some 42, op := Op.convert 22 9 (Operand.tmp 41), type := 9, pos := "read.go:75", after := #[{ on := 15, ground := Ground.data }], guard := none }) (v := ?_) rfl (by kernel_rfl) (by kernel_rfl) (by kernel_rfl) (fun _ _ _ h => h) (Or.inl ⟨by rfl, ?_⟩) (by assumption) ?_
        rotate_left
        · (intro w hSw; (try dsimp only at hSw); go_simp; try with_reducible rfl)
        try simp only [Act.put, List.setIfInBounds_toArray, List.set_cons_zero, List.set_cons_succ]
        refine wpAnyH_take (i := 17) (oi := { dst := some 4, op := Op.assign (Operand.tmp 42), type := 9, pos := "read.go:75", after := #[{ on := 16, ground := Ground.data }, { on := 0, ground := Ground.phase }, { on := 1, ground := Ground.phase }, { on := 2, ground := Ground.phase }, { on := 3, ground := Ground.phase }, { on := 4, ground := Ground.phase }, { on := 5, ground := Ground.phase }, { on := 6, ground := Ground.phase }, { on := 7, ground := Ground.phase }, { on := 8, ground := Ground.phase }, { on := 9, ground := Ground.phase }, { on := 10, ground := Ground.phase }, { on := 11, ground := Ground.phase }, { on := 12, ground := Ground.phase }, { on := 13, ground := Ground.phase }, { on := 14, ground := Ground.phase }, { on := 15, ground := Ground.phase }, { on := 16, ground := Ground.phase }], guard := none }) (v := ?_) rfl (by kernel_rfl) (by kernel_rfl) (by kernel_rfl) (fun _ _ _ h => h) (Or.inl ⟨by rfl, ?_⟩) (by assumption) ?_
        rotate_left
        · (intro w hSw; (try dsimp only at hSw); go_simp; try with_reducible rfl)
        try simp only [Act.put, List.setIfInBounds_toArray, List.set_cons_zero, List.set_cons_succ]
        refine wpAnyH_done (by kernel_rfl) ?_ _
        refine NoPanic.normal ?_
        go_wp2_with fail
        go_ret
        have := HE.out
        subst this
        exact ⟨rfl, (R3.out).1.heap rfl, grown_trans (R3.out).2 (grown_drew _ _)⟩
    · have HE : Hid (R = ([], p, 5)) := Lib.hid (by have := HQ.out; unfold rtext at this; rw [if_pos rfl, if_neg (by rw [hln]; exact hlt)] at this; exact this.symm)
      have g1 : decide ((U : Int) ≤ (n : Int) - p) = false := by simp; omega
      go_enter Try.func23, Try.ntmps23
      go_wp2_with fail
      refine (Try.leftI HB.out ((n : Int) - p) (by rw [if_pos rfl])).mono ?_
      rintro y1 w1 ⟨rfl, r1⟩
      have R1 := Lib.hid r1
      clear r1
      go_wp2_with fail
      refine (Try.rneed (R1.out).1 false 5 5 (by simp)).mono ?_
      rintro y2 w2 ⟨rfl, r2⟩
      have R2 := Lib.hid ((R1.out).trans r2)
      have h3 := r2.1.c3
      clear r2 R1
      go_wp2_with fail
      go_ret
      have := HE.out
      subst this
      exact ⟨rfl, R2.out⟩
  · have g := dec_ne he
    have g' : (e == 0) = false := by simpa using he
    have HE : Hid (R = ([], p, e)) := Lib.hid (by have := HQ.out; unfold rtext at this; rw [if_neg he] at this; exact this.symm)
    have HL := Lib.hid (show (if e = 0 then (n : Int) - p else 0) = 0 by rw [if_neg he])
    have HN := Lib.hid he
    obtain ⟨ok, hok⟩ : ∃ ok, decide ((U : Int) ≤ 0) = ok := ⟨_, rfl⟩
    have hok' : decide (U = 0) = ok := by rw [← hok]; simp
    clear he
    go_enter Try.func23, Try.ntmps23
    go_wp2_with fail
    refine (Try.leftI HB.out 0 HL.out).mono ?_
    rintro y1 w1 ⟨rfl, r1⟩
    have R1 := Lib.hid r1
    clear r1
    go_wp2_with fail
    refine (Try.need_no (R1.out).1 HN ok 5).mono ?_
    rintro y2 w2 ⟨rfl, r2⟩
    have R2 := Lib.hid ((R1.out).trans r2)
    have h3 := r2.1.c3
    clear r2 R1
    go_wp2_with fail
    go_ret
    have := HE.out
    subst this
    exact ⟨rfl, R2.out⟩
end Go.Proofs
end

section
namespace Go.Proofs
open Go.RowKit
set_option maxRecDepth 100000
def NewR (w : World) (A : Option Addr) (n c : Nat) (a e : Int) (x : Ending) (w' : World) : Prop := ∃ b, x = .returned (.pointer (some ⟨b, 0, none⟩)) ∧ w.heap.size ≤ b ∧ RB w' b A n c a a e ∧ Below w.heap.size w w'
theorem Try.rnew (w : World) (A : Option Addr) (n c : Nat) (a e : Int) (hn : n ≤ 400) (he : (if 0 ≤ a ∧ a ≤ n then 0 else 1) = e) :
    Calls Try.prog 19 #[.slice A n c, .int .i64 a] w (NewR w A n c a e) := by
  by_cases h0 : a < 0
  · have g1 : decide (a < 0) = true := by simpa using h0
    have HE : Hid (e = 1) := Lib.hid (by rw [← he, if_neg]; omega)
    clear he h0
    go_enter Try.func19, Try.ntmps19
    go_wp2_with fail
    go_ret
    have := HE.out
    subst this
    exact ⟨_, rfl, Nat.le_refl _, heap_alloc_new w _, (Below.refl _ w).alloc (Nat.le_refl _) _⟩
  · have g1 : decide (a < 0) = false := by simpa using h0
    by_cases h1 : (n : Int) < a
    · have g2 : decide ((n : Int) < a) = true := by simpa using h1
      have HE : Hid (e = 1) := Lib.hid (by rw [← he, if_neg]; omega)
      clear he h0 h1
      go_enter Try.func19, Try.ntmps19
      go_wp2_with fail
      go_ret
      have := HE.out
      subst this
      exact ⟨_, rfl, Nat.le_refl _, heap_alloc_new w _, (Below.refl _ w).alloc (Nat.le_refl _) _⟩
    · have g2 : decide ((n : Int) < a) = false := by simpa using h1
      have HE : Hid (e = 0) := Lib.hid (by rw [← he, if_pos]; omega)
      clear he h0 h1
      go_enter Try.func19, Try.ntmps19
      go_wp2_with fail
      go_ret
      have := HE.out
      subst this
      exact ⟨_, rfl, Nat.le_refl _, heap_alloc_new w _, (Below.refl _ w).alloc (Nat.le_refl _) _⟩
theorem Try.rnum_no {w : World} {b : Nat} {A : Option Addr} {n c : Nat} {f p e : Int} (h : RB w b A n c f p e) (he : Hid (e ≠ 0)) :
    Calls Try.prog 20 #[.pointer (some ⟨b, 0, none⟩)] w fun y w' => y = .returned (.int .u64 0) ∧ w' = w := by
  have h3 := h.c3
  have g := dec_ne he.out
  have g' : (e == 0) = false := by simpa using he.out
  have key : Calls Try.prog 36 #[.pointer (some ⟨b, 0, none⟩), .func (.func 37) #[] #[]] w fun y w' => y = .returned (.int .u64 0) ∧ w' = w := by
    go_enter Try.func36, Try.ntmps36
    go_wp2_with fail
    go_ret
    exact ⟨rfl, rfl⟩
  have K := Lib.hid key
  clear key h3 g g'
  go_enter Try.func20, Try.ntmps20
  go_wp2_with fail
  refine (K.out).mono ?_
  rintro y w' ⟨rfl, rfl⟩
  go_wp2_with fail
  go_ret
  exact ⟨rfl, rfl⟩
theorem isName_eq (s : List UInt8) : isName s = true ↔ 1 ≤ s.length ∧ s.length ≤ 8 ∧ ∀ c ∈ s, 97 ≤ c.toNat ∧ c.toNat ≤ 122 := by
  simp [isName, and_assoc]
set_option maxHeartbeats 2000000 in
theorem Try.isName1 (w : World) (s : List UInt8) (hs : s.length ≤ 400) :
    Calls Try.prog 35 #[.string (strOf s)] w fun x w' => x = .returned (.bool (isName s)) ∧ w' = w := by
  obtain ⟨R, hR⟩ : ∃ R, isName s = R := ⟨_, rfl⟩
  rw [hR]
  have HR := Lib.hid hR
  have hz := strOf_size s
  clear hR
  by_cases h1 : s.length < 1
  · have g1 : decide ((s.length : Int) < 1) = true := decide_eq_true (by omega)
    have g1' : decide (s.length < 1) = true := decide_eq_true (by omega)
    have HE : Hid (R = false) := Lib.hid (by rw [← HR.out]; apply Bool.eq_false_iff.2; intro h; have := ((isName_eq s).1 h).1; omega)
    clear h1
    go_enter Try.func35, Try.ntmps35
    go_wp2_with fail
    go_ret
    have := HE.out
    subst this
    exact ⟨rfl, rfl⟩
  · have g1 : decide ((s.length : Int) < 1) = false := decide_eq_false (by omega)
    have g1' : decide (s.length < 1) = false := decide_eq_false (by omega)
    by_cases h2 : 8 < s.length
    · have g2 : decide ((8 : Int) < (s.length : Int)) = true := decide_eq_true (by omega)
      have g2' : decide (8 < s.length) = true := decide_eq_true (by omega)
      have HE : Hid (R = false) := Lib.hid (by rw [← HR.out]; apply Bool.eq_false_iff.2; intro h; have := ((isName_eq s).1 h).2.1; omega)
      clear h1 h2
      go_enter Try.func35, Try.ntmps35
      go_wp2_with fail
      go_ret
      have := HE.out
      subst this
      exact ⟨rfl, rfl⟩
    · have g2 : decide ((8 : Int) < (s.length : Int)) = false := decide_eq_false (by omega)
      have g2' : decide (8 < s.length) = false := decide_eq_false (by omega)
      have HL := Lib.hid h1
      have HL2 := Lib.hid h2
      clear h1 h2
      go_enter Try.func35, Try.ntmps35
      go_wp2_with fail
      go_loop [3, 14] (fun tt t => ∃ i : Nat, i ≤ s.length ∧ t = .int .i64 i ∧ ∀ j x, j < i → s[j]? = some x → 97 ≤ x.toNat ∧ x.toNat ≤ 122) (fun _ t => s.length - (intOf t).toNat)
      case atStart => exact ⟨0, Nat.zero_le _, rfl, fun j x hj => absurd hj (Nat.not_lt_zero _)⟩
      case round =>
        obtain ⟨i, hi, rfl, hj⟩ := hrel
        have HJ := Lib.hid hj
        clear hj
        by_cases hlt : i < s.length
        · have hD : decide ((i : Int) < (s.length : Int)) = true := decide_eq_true (by omega)
          have hD' : decide (i < s.length) = true := decide_eq_true (by omega)
          obtain ⟨x, hx⟩ : ∃ x, s[i]? = some x := ⟨_, List.getElem?_eq_getElem hlt⟩
          have HX := Lib.hid hx
          have hsx : s[i] = x := by
            rw [List.getElem?_eq_getElem hlt] at hx; exact Option.some.inj hx
          obtain ⟨y, hy⟩ : ∃ y, x.toNat = y := ⟨_, rfl⟩
          have hsi : i < (strOf s).size := by rw [strOf_size]; exact hlt
          have hidx : (strOf s)[i]'hsi = x := by rw [← hsx]; rfl
          by_cases hl : y < 97
          · have c1 : decide ((y : Int) < 97) = true := decide_eq_true (by omega)
            have c1' : decide (y < 97) = true := decide_eq_true (by omega)
            have HE : Hid (R = false) := Lib.hid (by
              rw [← HR.out]
              apply Bool.eq_false_iff.2
              intro h
              have := ((isName_eq s).1 h).2.2 x (by rw [← hsx]; exact List.getElem_mem _)
              omega)
            clear hx hsx
            try clear hl
            try clear hh
            go_wp2_with fail
            go_ret
            have := HE.out
            subst this
            exact ⟨rfl, rfl⟩
          · have c1 : decide ((y : Int) < 97) = false := decide_eq_false (by omega)
            have c1' : decide (y < 97) = false := decide_eq_false (by omega)
            by_cases hh : 122 < y
            · have c2 : decide ((122 : Int) < y) = true := decide_eq_true (by omega)
              have c2' : decide (122 < y) = true := decide_eq_true (by omega)
              have HE : Hid (R = false) := Lib.hid (by
                rw [← HR.out]
                apply Bool.eq_false_iff.2
                intro h
                have := ((isName_eq s).1 h).2.2 x (by rw [← hsx]; exact List.getElem_mem _)
                omega)
              clear hx hsx
              try clear hl
              try clear hh
              go_wp2_with fail
              go_ret
              have := HE.out
              subst this
              exact ⟨rfl, rfl⟩
            · have c2 : decide ((122 : Int) < y) = false := decide_eq_false (by omega)
              have c2' : decide (122 < y) = false := decide_eq_false (by omega)
              have HN : Hid (∀ j x, j < i + 1 → s[j]? = some x → 97 ≤ x.toNat ∧ x.toNat ≤ 122) := Lib.hid (by
                intro j z hj hz
                by_cases hji : j = i
                · subst hji
                  rw [hx] at hz
                  cases hz
                  omega
                · exact HJ.out j z (by omega) hz)
              clear hx hsx hl hh
              go_wp2_with fail
              exact ⟨⟨i + 1, by omega, rfl, HN.out⟩, by simp [intOf]; omega⟩
        · obtain rfl : i = s.length := by omega
          have hD : decide ((s.length : Int) < (s.length : Int)) = false := by simp
          have hD' : decide (s.length < s.length) = false := by simp
          have HE : Hid (R = true) := Lib.hid (by
            rw [← HR.out]
            refine (isName_eq s).2 ⟨by have := HL.out; omega, by have := HL2.out; omega, fun c hc => ?_⟩
            obtain ⟨j, hj, hjc⟩ := List.mem_iff_getElem.1 hc
            exact HJ.out j c hj (by rw [List.getElem?_eq_getElem hj, hjc]))
          go_wp2_with fail
          go_ret
          have := HE.out
          subst this
          exact ⟨rfl, rfl⟩
set_option maxHeartbeats 2000000 in
theorem Try.goodName (w : World) (s : List UInt8) (hs : s.length ≤ 400) :
    Calls Try.prog 39 #[.string (strOf s)] w fun x w' => x = .returned (.bool (isName s)) ∧ w' = w := by
  obtain ⟨R, hR⟩ : ∃ R, isName s = R := ⟨_, rfl⟩
  rw [hR]
  have HR := Lib.hid hR
  have hz := strOf_size s
  clear hR
  by_cases h1 : s.length < 1
  · have g1 : decide ((s.length : Int) < 1) = true := decide_eq_true (by omega)
    have g1' : decide (s.length < 1) = true := decide_eq_true (by omega)
    have HE : Hid (R = false) := Lib.hid (by rw [← HR.out]; apply Bool.eq_false_iff.2; intro h; have := ((isName_eq s).1 h).1; omega)
    clear h1
    go_enter Try.func39, Try.ntmps39
    go_wp2_with fail
    go_ret
    have := HE.out
    subst this
    exact ⟨rfl, rfl⟩
  · have g1 : decide ((s.length : Int) < 1) = false := decide_eq_false (by omega)
    have g1' : decide (s.length < 1) = false := decide_eq_false (by omega)
    by_cases h2 : 8 < s.length
    · have g2 : decide ((8 : Int) < (s.length : Int)) = true := decide_eq_true (by omega)
      have g2' : decide (8 < s.length) = true := decide_eq_true (by omega)
      have HE : Hid (R = false) := Lib.hid (by rw [← HR.out]; apply Bool.eq_false_iff.2; intro h; have := ((isName_eq s).1 h).2.1; omega)
      clear h1 h2
      go_enter Try.func39, Try.ntmps39
      go_wp2_with fail
      go_ret
      have := HE.out
      subst this
      exact ⟨rfl, rfl⟩
    · have g2 : decide ((8 : Int) < (s.length : Int)) = false := decide_eq_false (by omega)
      have g2' : decide (8 < s.length) = false := decide_eq_false (by omega)
      have HL := Lib.hid h1
      have HL2 := Lib.hid h2
      clear h1 h2
      go_enter Try.func39, Try.ntmps39
      go_wp2_with fail
      go_loop [3] (fun t => ∃ i : Nat, i ≤ s.length ∧ t = .int .i64 i ∧ ∀ j x, j < i → s[j]? = some x → 97 ≤ x.toNat ∧ x.toNat ≤ 122) (fun t => s.length - (intOf t).toNat)
      case atStart => exact ⟨0, Nat.zero_le _, rfl, fun j x hj => absurd hj (Nat.not_lt_zero _)⟩
      case round =>
        obtain ⟨i, hi, rfl, hj⟩ := hrel
        have HJ := Lib.hid hj
        clear hj
        by_cases hlt : i < s.length
        · have hD : decide ((i : Int) < (s.length : Int)) = true := decide_eq_true (by omega)
          have hD' : decide (i < s.length) = true := decide_eq_true (by omega)
          obtain ⟨x, hx⟩ : ∃ x, s[i]? = some x := ⟨_, List.getElem?_eq_getElem hlt⟩
          have HX := Lib.hid hx
          have hsx : s[i] = x := by
            rw [List.getElem?_eq_getElem hlt] at hx; exact Option.some.inj hx
          obtain ⟨y, hy⟩ : ∃ y, x.toNat = y := ⟨_, rfl⟩
          have hsi : i < (strOf s).size := by rw [strOf_size]; exact hlt
          have hidx : (strOf s)[i]'hsi = x := by rw [← hsx]; rfl
          by_cases hl : y < 97
          · have c1 : decide ((y : Int) < 97) = true := decide_eq_true (by omega)
            have c1' : decide (y < 97) = true := decide_eq_true (by omega)
            have HE : Hid (R = false) := Lib.hid (by
              rw [← HR.out]
              apply Bool.eq_false_iff.2
              intro h
              have := ((isName_eq s).1 h).2.2 x (by rw [← hsx]; exact List.getElem_mem _)
              omega)
            clear hx hsx
            try clear hl
            try clear hh
            go_wp2_with fail
            go_ret
            have := HE.out
            subst this
            exact ⟨rfl, rfl⟩
          · have c1 : decide ((y : Int) < 97) = false := decide_eq_false (by omega)
            have c1' : decide (y < 97) = false := decide_eq_false (by omega)
            by_cases hh : 122 < y
            · have c2 : decide ((122 : Int) < y) = true := decide_eq_true (by omega)
              have c2' : decide (122 < y) = true := decide_eq_true (by omega)
              have HE : Hid (R = false) := Lib.hid (by
                rw [← HR.out]
                apply Bool.eq_false_iff.2
                intro h
                have := ((isName_eq s).1 h).2.2 x (by rw [← hsx]; exact List.getElem_mem _)
                omega)
              clear hx hsx
              try clear hl
              try clear hh
              go_wp2_with fail
              go_ret
              have := HE.out
              subst this
              exact ⟨rfl, rfl⟩
            · have c2 : decide ((122 : Int) < y) = false := decide_eq_false (by omega)
              have c2' : decide (122 < y) = false := decide_eq_false (by omega)
              have HN : Hid (∀ j x, j < i + 1 → s[j]? = some x → 97 ≤ x.toNat ∧ x.toNat ≤ 122) := Lib.hid (by
                intro j z hj hz
                by_cases hji : j = i
                · subst hji
                  rw [hx] at hz
                  cases hz
                  omega
                · exact HJ.out j z (by omega) hz)
              clear hx hsx hl hh
              go_wp2_with fail
              exact ⟨⟨i + 1, by omega, rfl, HN.out⟩, by simp [intOf]; omega⟩
        · obtain rfl : i = s.length := by omega
          have hD : decide ((s.length : Int) < (s.length : Int)) = false := by simp
          have hD' : decide (s.length < s.length) = false := by simp
          have HE : Hid (R = true) := Lib.hid (by
            rw [← HR.out]
            refine (isName_eq s).2 ⟨by have := HL.out; omega, by have := HL2.out; omega, fun c hc => ?_⟩
            obtain ⟨j, hj, hjc⟩ := List.mem_iff_getElem.1 hc
            exact HJ.out j c hj (by rw [List.getElem?_eq_getElem hj, hjc]))
          go_wp2_with fail
          go_ret
          have := HE.out
          subst this
          exact ⟨rfl, rfl⟩
end Go.Proofs
end

section
namespace Go.Proofs
open Go.RowKit
set_option maxRecDepth 100000
structure CR (w : World) (A : Option Addr) (n c : Nat) (cs : List (List UInt8 × Int)) : Prop where
  len : cs.length = n
  le : n ≤ c
  max : c ≤ maxLen
  at' : ∀ j q, cs[j]? = some q → ∃ b, A = some ⟨b, 0, none⟩ ∧ w.cell? ⟨b, j * 2, none⟩ = some (.string (strOf q.1)) ∧ w.cell? ⟨b, j * 2 + 1, none⟩ = some (.int .i64 q.2)
theorem CR.below {w w' : World} {A : Option Addr} {n c : Nat} {cs : List (List UInt8 × Int)} (h : CR w A n c cs) (hb : Below w.heap.size w w') : CR w' A n c cs :=
  ⟨h.len, h.le, h.max, fun j q hj => by obtain ⟨X, e, h1, h2⟩ := h.at' j q hj; exact ⟨X, e, cellW h1 hb, cellW h2 hb⟩⟩
theorem CR.take {w : World} {A : Option Addr} {n c : Nat} {cs : List (List UInt8 × Int)} (h : CR w A n c cs) (i : Nat) (hi : i ≤ n) : CR w A i c (cs.take i) :=
  ⟨by rw [List.length_take, h.len]; omega, by have := h.le; omega, h.max, fun j q hj => by
    rw [List.getElem?_take] at hj
    split at hj
    · exact h.at' j q hj
    · cases hj⟩
theorem mem_fst {cs : List (List UInt8 × Int)} {nm : List UInt8} : nm ∈ cs.map Prod.fst ↔ ∃ (j : Nat) (q : List UInt8 × Int), cs[j]? = some q ∧ q.1 = nm := by
  constructor
  · intro h
    obtain ⟨q, hq, e⟩ := List.mem_map.1 h
    obtain ⟨j, hj, e2⟩ := List.mem_iff_getElem.1 hq
    exact ⟨j, q, by rw [List.getElem?_eq_getElem hj, e2], e⟩
  · rintro ⟨j, q, hq, rfl⟩
    exact List.mem_map.2 ⟨q, List.mem_of_getElem? hq, rfl⟩
theorem strOf_list (a : List UInt8) : (strOf a).toList = a := ByteArray.toList_mk a
theorem str_eq (a b : List UInt8) : ((strOf a).toList == (strOf b).toList) = decide (a = b) := by
  rw [strOf_list, strOf_list]
  by_cases h : a = b
  · subst h; simp
  · simp [h]
def FindP (nm : List UInt8) (cs : List (List UInt8 × Int)) (x : Ending) : Prop := ∃ k : Int, x = .returned (.tuple #[.int .i64 k, .bool (decide (nm ∈ cs.map Prod.fst))])
set_option maxHeartbeats 4000000 in
theorem Try.find (w : World) (A : Option Addr) (n c : Nat) (cs : List (List UInt8 × Int)) (hC : CR w A n c cs) (hn : n ≤ 400) (nm : List UInt8) :
    Calls Try.prog 14 #[.slice A n c, .string (strOf nm)] w fun x w' => FindP nm cs x ∧ w' = w := by
  unfold FindP
  obtain ⟨R, hR⟩ : ∃ R, decide (nm ∈ cs.map Prod.fst) = R := ⟨_, rfl⟩
  rw [hR]
  have HR := Lib.hid hR
  have HC := Lib.hid hC
  have hlc := hC.le
  clear hR hC
  go_enter Try.func14, Try.ntmps14
  go_wp2_with fail
  refine wp_scope_once 0 (fun a' wr => wr = w ∧ ∃ i : Nat, i ≤ n ∧ (∀ (j : Nat) (q : List UInt8 × Int), j < i → cs[j]? = some q → q.1 ≠ nm) ∧ ∃ u2 u3 u7 u8 u9 u10 u11 u12 u13 u14 u15 u16 u17 u18 u19 u20 : Value, a' = { tmps := #[.slice A n c, .string (strOf nm), u2, u3, .int .i64 0, .bool false, .int .i64 i, u7, u8, u9, u10, u11, u12, u13, u14, u15, u16, u17, u18, u19, u20], defers := [] }) (fun a' _ => n - (intOf (a'.tmps.getD 6 undef)).toNat) rfl ?_ ?_
  · intro hL
    go_wp2_with (refine wp_label ?_; rename_i Q0 K0 hK; refine hK _ _ (hL _ _ ?_); exact ⟨rfl, 0, by omega, fun j q hj => absurd hj (Nat.not_lt_zero _), _, _, _, _, _, _, _, _, _, _, _, _, _, _, _, _, rfl⟩)
  · rintro a' wr ⟨rfl, i, hi, hj, u2, u3, u7, u8, u9, u10, u11, u12, u13, u14, u15, u16, u17, u18, u19, u20, rfl⟩
    have HJ := Lib.hid hj
    clear hj
    by_cases hlt : i < n
    · obtain ⟨q, hq⟩ : ∃ q, cs[i]? = some q := ⟨_, List.getElem?_eq_getElem (by rw [HC.out.len]; exact hlt)⟩
      obtain ⟨X, hX, hc1, _⟩ := (HC.out).at' _ _ hq
      subst hX
      have HQ := Lib.hid hq
      have e1 : decide ((i : Int) = n) = false := decide_eq_false (by omega)
      have e1' : ((i : Int) == n) = false := by simpa using e1
      obtain ⟨qn, hqn⟩ : ∃ qn, q.1 = qn := ⟨_, rfl⟩
      rw [hqn] at hc1
      have HN := Lib.hid hqn
      by_cases hs : qn = nm
      · have HE : Hid (R = true) := Lib.hid (by rw [← HR.out]; exact decide_eq_true (mem_fst.2 ⟨i, q, hq, by rw [hqn, hs]⟩))
        have d1 : ((strOf qn).toList == (strOf nm).toList) = true := by rw [str_eq]; exact decide_eq_true hs
        clear hs hq hqn
        go_wp2_with fail
        simp only [Exit.jump]
        go_ret2
        have := HE.out
        subst this
        exact ⟨⟨_, rfl⟩, rfl⟩
      · have HN2 : Hid (∀ (j : Nat) (q : List UInt8 × Int), j < i + 1 → cs[j]? = some q → q.1 ≠ nm) := Lib.hid (by
          intro j q' hji hq'
          by_cases hji2 : j = i
          · subst hji2
            rw [hq] at hq'
            cases hq'
            rw [hqn]; exact hs
          · exact HJ.out j q' (by omega) hq')
        have d1 : ((strOf qn).toList == (strOf nm).toList) = false := by rw [str_eq]; exact decide_eq_false hs
        clear hs hq hqn
        go_wp2_with fail
        go_step3
        exact ⟨rfl, ⟨rfl, i + 1, by omega, HN2.out, _, _, _, _, _, _, _, _, _, _, _, _, _, _, _, _, rfl⟩, by simp [intOf]; omega⟩
    · obtain rfl : i = n := by omega
      have e1 : decide ((i : Int) = i) = true := decide_eq_true rfl
      have HE : Hid (R = false) := Lib.hid (by
        rw [← HR.out]
        refine decide_eq_false fun h => ?_
        obtain ⟨j, q, hq, e⟩ := mem_fst.1 h
        have : j < i := by
          have := (List.getElem?_eq_some_iff.1 hq).1
          rwa [HC.out.len] at this
        exact HJ.out j q this hq e)
      go_wp2_with fail
      simp only [Exit.jump]
      go_ret2
      have := HE.out
      subst this
      exact ⟨⟨_, rfl⟩, rfl⟩
end Go.Proofs
end

section
namespace Go.Proofs
open Go.RowKit
set_option maxRecDepth 100000
theorem chkAt_get {cs : List (List UInt8 × Int)} {i : Nat} {q : List UInt8 × Int} (h : cs[i]? = some q) : cs.getD i ([], 0) = q := by rw [List.getD_eq_getElem?_getD, h]; rfl
theorem chkAt_name {cs : List (List UInt8 × Int)} {i : Nat} {q : List UInt8 × Int} (h : cs[i]? = some q) (hn : isName q.1 = false) : chkAt cs i = 3 := by
  unfold chkAt; rw [chkAt_get h, hn]; rfl
theorem chkAt_twice {cs : List (List UInt8 × Int)} {i : Nat} {q : List UInt8 × Int} (h : cs[i]? = some q) (hn : isName q.1 = true) (ht : decide (q.1 ∈ (cs.take i).map Prod.fst) = true) : chkAt cs i = 7 := by
  unfold chkAt; rw [chkAt_get h, if_pos hn, if_pos (of_decide_eq_true ht)]
theorem chkAt_kind {cs : List (List UInt8 × Int)} {i : Nat} {q : List UInt8 × Int} (h : cs[i]? = some q) (hn : isName q.1 = true) (ht : decide (q.1 ∈ (cs.take i).map Prod.fst) = false) : chkAt cs i = if 1 ≤ q.2 ∧ q.2 ≤ 3 then 0 else 6 := by
  unfold chkAt; rw [chkAt_get h, if_pos hn, if_neg (of_decide_eq_false ht)]
set_option maxHeartbeats 4000000 in
theorem Try.check (w : World) (A : Option Addr) (n c : Nat) (cs : List (List UInt8 × Int)) (hC : CR w A n c cs) (hnm : ∀ (j : Nat) (q : List UInt8 × Int), cs[j]? = some q → q.1.length ≤ 400) :
    Calls Try.prog 18 #[.slice A n c] w fun x w' => x = .returned (.int .i64 (chk cs)) ∧ Below w.heap.size w w' := by
  obtain ⟨R, hR⟩ : ∃ R, chk cs = R := ⟨_, rfl⟩
  rw [hR]
  have HR := Lib.hid hR
  have HC := Lib.hid hC
  have HNM := Lib.hid hnm
  have hlc := hC.le
  clear hR hC hnm
  by_cases h1 : n < 1 ∨ 8 < n
  · have HE : Hid (R = 4) := Lib.hid (by rw [← HR.out]; unfold chk; rw [if_neg]; rw [HC.out.len]; omega)
    by_cases h2 : n < 1
    · have g1 : decide ((n : Int) < 1) = true := decide_eq_true (by omega)
      have g1' : decide (n < 1) = true := decide_eq_true h2
      clear h1 h2
      go_enter Try.func18, Try.ntmps18
      go_wp2_with fail
      go_ret
      have := HE.out
      subst this
      exact ⟨rfl, Below.refl _ _⟩
    · have g1 : decide ((n : Int) < 1) = false := decide_eq_false (by omega)
      have g1' : decide (n < 1) = false := decide_eq_false h2
      have g2 : decide ((8 : Int) < n) = true := decide_eq_true (by omega)
      have g2' : decide (8 < n) = true := decide_eq_true (by omega)
      clear h1 h2
      go_enter Try.func18, Try.ntmps18
      go_wp2_with fail
      go_ret
      have := HE.out
      subst this
      exact ⟨rfl, Below.refl _ _⟩
  · have HL : Hid (1 ≤ cs.length ∧ cs.length ≤ 8) := Lib.hid (by rw [HC.out.len]; omega)
    have hn8 : n ≤ 8 := by omega
    have g1 : decide ((n : Int) < 1) = false := decide_eq_false (by omega)
    have g1' : decide (n < 1) = false := decide_eq_false (by omega)
    have g2 : decide ((8 : Int) < n) = false := decide_eq_false (by omega)
    have g2' : decide (8 < n) = false := decide_eq_false (by omega)
    clear h1
    go_enter Try.func18, Try.ntmps18
    go_wp2_with fail
    go_loopw [3, 4, 5, 6, 17] (fun a3 a4 a5 a6 t wr => ∃ i : Nat, i ≤ n ∧ t = .int .i64 i ∧ chkTo cs i = 0 ∧ Below w.heap.size w wr) (fun _ _ _ _ t _ => n - (intOf t).toNat)
    case atStart => exact ⟨0, Nat.zero_le _, rfl, rfl, Below.refl _ _⟩
    case round =>
      obtain ⟨i, hi, rfl, h0, hb⟩ := hrel
      have H0 := Lib.hid h0
      have HB := Lib.hid hb
      clear h0 hb
      by_cases hlt : i < n
      · have hD : decide ((i : Int) < n) = true := decide_eq_true (by omega)
        have hD' : decide (i < n) = true := decide_eq_true hlt
        have HCr := Lib.hid ((HC.out).below HB.out)
        obtain ⟨q, hq⟩ : ∃ q, cs[i]? = some q := ⟨_, List.getElem?_eq_getElem (by rw [HC.out.len]; exact hlt)⟩
        have HQL := Lib.hid (HNM.out i q hq)
        have HQ := Lib.hid hq
        obtain ⟨X, hX, hc1, hc2⟩ := (HCr.out).at' _ _ hq
        subst hX
        obtain ⟨nm, kd⟩ := q
        dsimp only at hc1 hc2
        clear hq
        go_upto_region 6 with fail
        obtain ⟨wa, hwa⟩ : ∃ wa, wr.alloc (.cells #[.string (strOf nm), .int .i64 kd] 54) = wa := ⟨_, rfl⟩
        obtain ⟨bx, hbx⟩ : ∃ bx, wr.heap.size = bx := ⟨_, rfl⟩
        have VB : wa.heap[bx]? = some (.cells #[.string (strOf nm), .int .i64 kd] 54 (0, 0)) := by rw [← hwa, ← hbx]; exact heap_alloc_new wr _
        have WB := Lib.hid ((HB.out).alloc (HB.out).size (.cells #[.string (strOf nm), .int .i64 kd] 54))
        rw [hwa] at WB
        have b0 : wa.cell? ⟨bx, 0, none⟩ = some (.string (strOf nm)) := cell_of_row wa bx 0 _ 54 _ VB
        have b1 : wa.cell? ⟨bx, 1, none⟩ = some (.int .i64 kd) := cell_of_row wa bx 1 _ 54 _ VB
        rw [hwa, hbx]
        have HT := Lib.hid ((HC.out).below WB.out |>.take i hi)
        clear hwa hbx VB hc1 hc2
        go_wp2_with fail
        refine (Try.isName1 _ nm HQL.out).mono ?_
        rintro x w1 ⟨rfl, hw1⟩
        rw [hw1]
        clear hw1 w1
        have hic : i ≤ c := by omega
        obtain ⟨g, hg⟩ : ∃ g, isName nm = g := ⟨_, rfl⟩
        have HG := Lib.hid hg
        rw [hg]
        clear hg
        have key : ∀ e : Int, chkAt cs i = e → e ≠ 0 → R = e := fun e h h2 => by rw [← HR.out, ← h]; exact chkTo_end cs i (by rw [HC.out.len]; exact hlt) H0.out (by rw [h]; exact h2) HL.out
        have KEY := Lib.hid key
        clear key
        cases g
        · have HE : Hid (R = 3) := Lib.hid (KEY.out 3 (chkAt_name HQ.out HG.out) (by decide))
          go_wp2_with fail
          go_ret
          have := HE.out
          subst this
          exact ⟨rfl, WB.out⟩
        · go_upto_region 8 with fail
          obtain ⟨T, hT⟩ : ∃ T, decide (nm ∈ (cs.take i).map Prod.fst) = T := ⟨_, rfl⟩
          have HTW := Lib.hid hT
          clear hT
          refine wp_region_noPanic ?_
          refine wp_region_held_drew (S := (fun W => W.heap = wa.heap ∧ W.cell? ⟨bx, 0, none⟩ = some (.string (strOf nm)))) (by kernel_rfl) ?_ (fun hHeld => ?_)
          · exact ⟨rfl, b0⟩
          refine wpAnyH_take (i := 0) (oi := { dst := some 27, op := Op.move (Operand.tmp 0), type := 25, pos := "schema.go:33", after := #[], guard := none }) (v := ?_) rfl (by kernel_rfl) (by kernel_rfl) (by kernel_rfl) (fun _ _ _ h => h) (Or.inl ⟨by rfl, ?_⟩) (by assumption) ?_
          rotate_left
          · (intro w hSw; (try dsimp only at hSw); go_simp; try with_reducible rfl)
          try simp only [Act.put, List.setIfInBounds_toArray, List.set_cons_zero, List.set_cons_succ]
          refine wpAnyH_take (i := 1) (oi := { dst := some 28, op := Op.move (Operand.tmp 3), type := 3, pos := "schema.go:33", after := #[], guard := none }) (v := ?_) rfl (by kernel_rfl) (by kernel_rfl) (by kernel_rfl) (fun _ _ _ h => h) (Or.inl ⟨by rfl, ?_⟩) (by assumption) ?_
          rotate_left
          · (intro w hSw; (try dsimp only at hSw); go_simp; try with_reducible rfl)
          try simp only [Act.put, List.setIfInBounds_toArray, List.set_cons_zero, List.set_cons_succ]
          refine wpAnyH_take (i := 2) (oi := { dst := some 29, op := Op.slice 25 (Operand.tmp 27) none (some (Operand.tmp 28)) none, type := 25, pos := "schema.go:33", after := #[{ on := 0, ground := Ground.data }, { on := 1, ground := Ground.data }], guard := none }) (v := ?_) rfl (by kernel_rfl) (by kernel_rfl) (by kernel_rfl) (fun _ _ _ h => h) (Or.inl ⟨by rfl, ?_⟩) (by assumption) ?_
          rotate_left
          · (intro w hSw; (try dsimp only at hSw); go_simp; try with_reducible rfl)
          try simp only [Act.put, List.setIfInBounds_toArray, List.set_cons_zero, List.set_cons_succ]
          refine wpAnyH_take (i := 3) (oi := { dst := some 30, op := Op.fieldAddr 54 (Operand.tmp 4) 0, type := 0, pos := "schema.go:33", after := #[], guard := none }) (v := ?_) rfl (by kernel_rfl) (by kernel_rfl) (by kernel_rfl) (fun _ _ _ h => h) (Or.inl ⟨by rfl, ?_⟩) (by assumption) ?_
          rotate_left
          · (intro w hSw; (try dsimp only at hSw); go_simp; try with_reducible rfl)
          try simp only [Act.put, List.setIfInBounds_toArray, List.set_cons_zero, List.set_cons_succ]
          refine wpAnyH_take (i := 4) (oi := { dst := some 31, op := Op.load 9 (Operand.tmp 30), type := 9, pos := "schema.go:33", after := #[{ on := 3, ground := Ground.data }], guard := none }) (v := ?_) rfl (by kernel_rfl) (by kernel_rfl) (by kernel_rfl) (fun _ _ _ h => h) (Or.inl ⟨by rfl, ?_⟩) (by assumption) ?_
          rotate_left
          · (intro w hSw; (try dsimp only at hSw); go_simp; try with_reducible rfl)
          try simp only [Act.put, List.setIfInBounds_toArray, List.set_cons_zero, List.set_cons_succ]
          refine wpAnyH_ready (rs := [5]) (by kernel_rfl) (by simp) ?_
          refine AllReadyH.cons (o := { dst := some 32, op := Op.call { callee := Callee.value (Operand.func 14), args := #[Operand.tmp 29, Operand.tmp 31], argTypes := #[25, 9] }, type := 46, pos := "schema.go:33", after := #[{ on := 2, ground := Ground.data }, { on := 4, ground := Ground.data }], guard := none }) rfl (fun K hK => ?_) AllReadyH.nil
          go_simp
          have HT2 := Lib.hid ((HT.out).below ((Below.refl _ wa).drew))
          with_reducible refine (Try.find _ _ _ _ _ HT2.out (by omega) nm).mono ?_
          rintro x2 w2 ⟨⟨k, rfl⟩, hw2⟩
          rw [hw2]
          clear hw2 w2
          rw [HTW.out]
          refine hK.out _ _ ?_ (fun hHeld => ?_)
          · assumption
          clear hK K
          try simp only [Act.put, List.setIfInBounds_toArray, List.set_cons_zero, List.set_cons_succ]
          refine wpAnyH_take (i := 6) (oi := { dst := some 26, op := Op.move (Operand.tmp 32), type := 46, pos := "schema.go:33", after := #[{ on := 5, ground := Ground.data }], guard := none }) (v := ?_) rfl (by kernel_rfl) (by kernel_rfl) (by kernel_rfl) (fun _ _ _ h => h) (Or.inl ⟨by rfl, ?_⟩) (by assumption) ?_
          rotate_left
          · (intro w hSw; (try dsimp only at hSw); go_simp; try with_reducible rfl)
          try simp only [Act.put, List.setIfInBounds_toArray, List.set_cons_zero, List.set_cons_succ]
          refine wpAnyH_take (i := 7) (oi := { dst := some 33, op := Op.extract (Operand.tmp 26) 0, type := 3, pos := "schema.go:33", after := #[{ on := 6, ground := Ground.data }], guard := none }) (v := ?_) rfl (by kernel_rfl) (by kernel_rfl) (by kernel_rfl) (fun _ _ _ h => h) (Or.inl ⟨by rfl, ?_⟩) (by assumption) ?_
          rotate_left
          · (intro w hSw; (try dsimp only at hSw); go_simp; try with_reducible rfl)
          try simp only [Act.put, List.setIfInBounds_toArray, List.set_cons_zero, List.set_cons_succ]
          refine wpAnyH_take (i := 8) (oi := { dst := some 34, op := Op.extract (Operand.tmp 26) 1, type := 4, pos := "schema.go:33", after := #[{ on := 6, ground := Ground.data }, { on := 9, ground := Ground.gcOnly Departure.lateStores }], guard := none }) (v := ?_) rfl (by kernel_rfl) (by kernel_rfl) (by kernel_rfl) (fun _ _ _ h => h) (Or.inl ⟨by rfl, ?_⟩) (by assumption) ?_
          rotate_left
          · (intro w hSw; (try dsimp only at hSw); go_simp; try with_reducible rfl)
          try simp only [Act.put, List.setIfInBounds_toArray, List.set_cons_zero, List.set_cons_succ]
          refine wpAnyH_take (i := 9) (oi := { dst := some 5, op := Op.assign (Operand.tmp 33), type := 3, pos := "schema.go:33", after := #[{ on := 7, ground := Ground.data }, { on := 5, ground := Ground.chain }, { on := 0, ground := Ground.phase }, { on := 1, ground := Ground.phase }, { on := 2, ground := Ground.phase }, { on := 3, ground := Ground.phase }, { on := 4, ground := Ground.phase }, { on := 5, ground := Ground.phase }, { on := 6, ground := Ground.phase }, { on := 7, ground := Ground.phase }, { on := 8, ground := Ground.textOnly Departure.lateStores }], guard := none }) (v := ?_) rfl (by kernel_rfl) (by kernel_rfl) (by kernel_rfl) (fun _ _ _ h => h) (Or.inl ⟨by rfl, ?_⟩) (by assumption) ?_
          rotate_left
          · (intro w hSw; (try dsimp only at hSw); go_simp; try with_reducible rfl)
          try simp only [Act.put, List.setIfInBounds_toArray, List.set_cons_zero, List.set_cons_succ]
          refine wpAnyH_take (i := 10) (oi := { dst := some 6, op := Op.assign (Operand.tmp 34), type := 4, pos := "schema.go:33", after := #[{ on := 8, ground := Ground.data }, { on := 9, ground := Ground.chain }, { on := 0, ground := Ground.phase }, { on := 1, ground := Ground.phase }, { on := 2, ground := Ground.phase }, { on := 3, ground := Ground.phase }, { on := 4, ground := Ground.phase }, { on := 5, ground := Ground.phase }, { on := 6, ground := Ground.phase }, { on := 7, ground := Ground.phase }, { on := 8, ground := Ground.phase }, { on := 9, ground := Ground.phase }], guard := none }) (v := ?_) rfl (by kernel_rfl) (by kernel_rfl) (by kernel_rfl) (fun _ _ _ h => h) (Or.inl ⟨by rfl, ?_⟩) (by assumption) ?_
          rotate_left
          · (intro w hSw; (try dsimp only at hSw); go_simp; try with_reducible rfl)
          try simp only [Act.put, List.setIfInBounds_toArray, List.set_cons_zero, List.set_cons_succ]
          refine wpAnyH_done (by kernel_rfl) ?_ _
          refine NoPanic.normal ?_
          obtain ⟨wd, hwd⟩ : ∃ wd, wa.drew = wd := ⟨_, rfl⟩
          have d1 : wd.cell? ⟨bx, 1, none⟩ = some (.int .i64 kd) := by rw [← hwd]; exact b1
          have DB := Lib.hid ((WB.out).drew)
          rw [hwd] at DB ⊢
          clear hwd b0 b1 hHeld
          cases T
          · by_cases hk1 : kd = 1
            · have HN : Hid (chkTo cs (i + 1) = 0) := Lib.hid (by rw [chkTo, if_pos H0.out, chkAt_kind HQ.out HG.out HTW.out, if_pos]; constructor <;> (dsimp only; omega))
              subst hk1
              clear HQ
              go_wp2_with fail
              exact ⟨⟨i + 1, by omega, rfl, HN.out, DB.out⟩, by simp [intOf]; omega⟩
            · by_cases hk2 : kd = 2
              · have HN : Hid (chkTo cs (i + 1) = 0) := Lib.hid (by rw [chkTo, if_pos H0.out, chkAt_kind HQ.out HG.out HTW.out, if_pos]; constructor <;> (dsimp only; omega))
                subst hk2
                clear HQ
                go_wp2_with fail
                exact ⟨⟨i + 1, by omega, rfl, HN.out, DB.out⟩, by simp [intOf]; omega⟩
              · by_cases hk3 : kd = 3
                · have HN : Hid (chkTo cs (i + 1) = 0) := Lib.hid (by rw [chkTo, if_pos H0.out, chkAt_kind HQ.out HG.out HTW.out, if_pos]; constructor <;> (dsimp only; omega))
                  subst hk3
                  clear HQ
                  go_wp2_with fail
                  exact ⟨⟨i + 1, by omega, rfl, HN.out, DB.out⟩, by simp [intOf]; omega⟩
                · have k1 : (kd != 1) = true := by simpa using hk1
                  have k2 : (kd != 2) = true := by simpa using hk2
                  have k3 : (kd != 3) = true := by simpa using hk3
                  have HE : Hid (R = 6) := Lib.hid (KEY.out 6 (by rw [chkAt_kind HQ.out HG.out HTW.out, if_neg]; dsimp only; omega) (by decide))
                  go_wp2_with fail
                  go_ret
                  have := HE.out
                  subst this
                  exact ⟨rfl, DB.out⟩
          · have HE : Hid (R = 7) := Lib.hid (KEY.out 7 (chkAt_twice HQ.out HG.out HTW.out) (by decide))
            go_wp2_with fail
            go_ret
            have := HE.out
            subst this
            exact ⟨rfl, DB.out⟩
      · obtain rfl : i = n := by omega
        have hD : decide ((i : Int) < i) = false := by simp
        have hD' : decide (i < i) = false := by simp
        have HE : Hid (R = 0) := Lib.hid (by rw [← HR.out]; unfold chk; rw [if_pos HL.out, HC.out.len]; exact H0.out)
        go_wp2_with fail
        go_ret
        have := HE.out
        subst this
        exact ⟨rfl, HB.out⟩
end Go.Proofs
end

section
namespace Go.Proofs
open Go.RowKit
set_option maxRecDepth 100000
set_option maxHeartbeats 4000000 in
theorem Try.checkR (w : World) (A : Option Addr) (n c : Nat) (cs : List (List UInt8 × Int)) (hC : CR w A n c cs) (hnm : ∀ (j : Nat) (q : List UInt8 × Int), cs[j]? = some q → q.1.length ≤ 400) :
    Calls Try.prog 29 #[.slice A n c] w fun x w' => x = .returned (.int .i64 (chk cs)) ∧ Below w.heap.size w w' := by
  obtain ⟨R, hR⟩ : ∃ R, chk cs = R := ⟨_, rfl⟩
  rw [hR]
  have HR := Lib.hid hR
  have HC := Lib.hid hC
  have HNM := Lib.hid hnm
  have hlc := hC.le
  clear hR hC hnm
  by_cases h1 : n < 1 ∨ 8 < n
  · have HE : Hid (R = 4) := Lib.hid (by rw [← HR.out]; unfold chk; rw [if_neg]; rw [HC.out.len]; omega)
    by_cases h2 : n < 1
    · have g1 : decide ((n : Int) < 1) = true := decide_eq_true (by omega)
      have g1' : decide (n < 1) = true := decide_eq_true h2
      clear h1 h2
      go_enter Try.func29, Try.ntmps29
      go_wp2_with fail
      go_ret
      have := HE.out
      subst this
      exact ⟨rfl, Below.refl _ _⟩
    · have g1 : decide ((n : Int) < 1) = false := decide_eq_false (by omega)
      have g1' : decide (n < 1) = false := decide_eq_false h2
      have g2 : decide ((8 : Int) < n) = true := decide_eq_true (by omega)
      have g2' : decide (8 < n) = true := decide_eq_true (by omega)
      clear h1 h2
      go_enter Try.func29, Try.ntmps29
      go_wp2_with fail
      go_ret
      have := HE.out
      subst this
      exact ⟨rfl, Below.refl _ _⟩
  · have HL : Hid (1 ≤ cs.length ∧ cs.length ≤ 8) := Lib.hid (by rw [HC.out.len]; omega)
    have hn8 : n ≤ 8 := by omega
    have g1 : decide ((n : Int) < 1) = false := decide_eq_false (by omega)
    have g1' : decide (n < 1) = false := decide_eq_false (by omega)
    have g2 : decide ((8 : Int) < n) = false := decide_eq_false (by omega)
    have g2' : decide (8 < n) = false := decide_eq_false (by omega)
    clear h1
    go_enter Try.func29, Try.ntmps29
    go_wp2_with fail
    go_loopw [3, 4] (fun t a4 wr => ∃ i : Nat, i ≤ n ∧ t = .int .i64 i ∧ chkTo cs i = 0 ∧ Below w.heap.size w wr) (fun t _ _ => n - (intOf t).toNat)
    case atStart => exact ⟨0, Nat.zero_le _, rfl, rfl, Below.refl _ _⟩
    case round =>
      obtain ⟨i, hi, rfl, h0, hb⟩ := hrel
      have H0 := Lib.hid h0
      have HB := Lib.hid hb
      clear h0 hb
      by_cases hlt : i < n
      · have hD : decide ((i : Int) < n) = true := decide_eq_true (by omega)
        have hD' : decide (i < n) = true := decide_eq_true hlt
        have HCr := Lib.hid ((HC.out).below HB.out)
        obtain ⟨q, hq⟩ : ∃ q, cs[i]? = some q := ⟨_, List.getElem?_eq_getElem (by rw [HC.out.len]; exact hlt)⟩
        have HQL := Lib.hid (HNM.out i q hq)
        have HQ := Lib.hid hq
        obtain ⟨X, hX, hc1, hc2⟩ := (HCr.out).at' _ _ hq
        subst hX
        obtain ⟨nm, kd⟩ := q
        dsimp only at hc1 hc2
        have b0 := Lib.hid hc1
        have b1 := Lib.hid hc2
        clear hq
        go_wp2_with fail
        refine (Try.goodName _ nm HQL.out).mono ?_
        rintro x w1 ⟨rfl, hw1⟩
        rw [hw1]
        clear hw1 w1
        obtain ⟨g, hg⟩ : ∃ g, isName nm = g := ⟨_, rfl⟩
        have HG := Lib.hid hg
        rw [hg]
        clear hg
        have key : ∀ e : Int, chkAt cs i = e → e ≠ 0 → R = e := fun e h h2 => by rw [← HR.out, ← h]; exact chkTo_end cs i (by rw [HC.out.len]; exact hlt) H0.out (by rw [h]; exact h2) HL.out
        have KEY := Lib.hid key
        clear key
        cases g
        · have HE : Hid (R = 3) := Lib.hid (KEY.out 3 (chkAt_name HQ.out HG.out) (by decide))
          go_wp2_with fail
          go_ret
          have := HE.out
          subst this
          exact ⟨rfl, HB.out⟩
        · clear hc1 hc2
          go_wp2_with fail
          go_loopw [4] (fun t v => ∃ k : Nat, k ≤ i ∧ t = .int .i64 k ∧ (∀ (j : Nat) (q : List UInt8 × Int), j < k → cs[j]? = some q → q.1 ≠ nm) ∧ Below wr.heap.size wr v) (fun t _ => i - (intOf t).toNat)
          case atStart => exact ⟨0, Nat.zero_le _, rfl, fun j q hj => absurd hj (Nat.not_lt_zero _), Below.refl _ _⟩
          case round =>
            obtain ⟨k, hk, rfl, hj, hv⟩ := hrel
            have HJ := Lib.hid hj
            have HV := Lib.hid hv
            clear hj hv
            have HBI := Lib.hid ((HB.out).trans ((HV.out).mono (HB.out).size))
            have HCI := Lib.hid ((HC.out).below HBI.out)
            obtain ⟨X2, hX2, c2, c3⟩ := (HCI.out).at' _ _ HQ.out
            cases hX2
            dsimp only at c2 c3
            by_cases hki : k < i
            · have hE : decide ((k : Int) < i) = true := decide_eq_true (by omega)
              have hE' : decide (k < i) = true := decide_eq_true hki
              obtain ⟨q2, hq2⟩ : ∃ q2, cs[k]? = some q2 := ⟨_, List.getElem?_eq_getElem (by rw [HC.out.len]; omega)⟩
              have HQ2 := Lib.hid hq2
              obtain ⟨X3, hX3, c1, _⟩ := (HCI.out).at' _ _ hq2
              cases hX3
              obtain ⟨nk, kk⟩ := q2
              dsimp only at c1
              have hkn : k < n := by omega
              clear hq2
              by_cases hs : nk = nm
              · have d1 : ((strOf nk).toList == (strOf nm).toList) = true := by rw [str_eq]; exact decide_eq_true hs
                have HE : Hid (R = 7) := Lib.hid (KEY.out 7 (chkAt_twice HQ.out HG.out (decide_eq_true (mem_fst.2 ⟨k, (nk, kk), by rw [List.getElem?_take, if_pos hki]; exact HQ2.out, hs⟩))) (by decide))
                clear hs
                go_upto_region 11 with fail
                refine wp_region_noPanic ?_
                refine wp_region_held_drew (S := (fun W => W.cell? ⟨X, k * 2, none⟩ = some (.string (strOf nk)) ∧ W.cell? ⟨X, i * 2, none⟩ = some (.string (strOf nm)))) (by kernel_rfl) ?_ (fun hHeld => ?_)
                · exact ⟨c1, c2⟩
                refine wpAnyH_take (i := 0) (oi := { dst := some 31, op := Op.move (Operand.tmp 0), type := 29, pos := "ref.go:1181", after := #[], guard := none }) (v := ?_) rfl (by kernel_rfl) (by kernel_rfl) (by kernel_rfl) (fun _ _ _ h => h) (Or.inl ⟨by rfl, ?_⟩) (by assumption) ?_
                rotate_left
                · (intro w hSw; (try dsimp only at hSw); go_simp; try with_reducible rfl)
                try simp only [Act.put, List.setIfInBounds_toArray, List.set_cons_zero, List.set_cons_succ]
                refine wpAnyH_take (i := 1) (oi := { dst := some 32, op := Op.move (Operand.tmp 4), type := 3, pos := "ref.go:1181", after := #[], guard := none }) (v := ?_) rfl (by kernel_rfl) (by kernel_rfl) (by kernel_rfl) (fun _ _ _ h => h) (Or.inl ⟨by rfl, ?_⟩) (by assumption) ?_
                rotate_left
                · (intro w hSw; (try dsimp only at hSw); go_simp; try with_reducible rfl)
                try simp only [Act.put, List.setIfInBounds_toArray, List.set_cons_zero, List.set_cons_succ]
                refine wpAnyH_take (i := 2) (oi := { dst := some 33, op := Op.indexAddr 29 (Operand.tmp 31) (Operand.tmp 32), type := 0, pos := "ref.go:1181", after := #[{ on := 0, ground := Ground.data }, { on := 1, ground := Ground.data }], guard := none }) (v := ?_) rfl (by kernel_rfl) (by kernel_rfl) (by kernel_rfl) (fun _ _ _ h => h) (Or.inl ⟨by rfl, ?_⟩) (by assumption) ?_
                rotate_left
                · (intro w hSw; (try dsimp only at hSw); go_simp; try with_reducible rfl)
                try simp only [Act.put, List.setIfInBounds_toArray, List.set_cons_zero, List.set_cons_succ]
                refine wpAnyH_take (i := 3) (oi := { dst := some 34, op := Op.fieldAddr 69 (Operand.tmp 33) 0, type := 0, pos := "ref.go:1181", after := #[{ on := 2, ground := Ground.data }], guard := none }) (v := ?_) rfl (by kernel_rfl) (by kernel_rfl) (by kernel_rfl) (fun _ _ _ h => h) (Or.inl ⟨by rfl, ?_⟩) (by assumption) ?_
                rotate_left
                · (intro w hSw; (try dsimp only at hSw); go_simp; try with_reducible rfl)
                try simp only [Act.put, List.setIfInBounds_toArray, List.set_cons_zero, List.set_cons_succ]
                refine wpAnyH_take (i := 4) (oi := { dst := some 35, op := Op.load 9 (Operand.tmp 34), type := 9, pos := "ref.go:1181", after := #[{ on := 3, ground := Ground.data }], guard := none }) (v := ?_) rfl (by kernel_rfl) (by kernel_rfl) (by kernel_rfl) (fun _ _ _ h => h) (Or.inl ⟨by rfl, ?_⟩) (by assumption) ?_
                rotate_left
                · (intro w hSw; (try dsimp only at hSw); go_simp; try with_reducible rfl)
                try simp only [Act.put, List.setIfInBounds_toArray, List.set_cons_zero, List.set_cons_succ]
                refine wpAnyH_take (i := 5) (oi := { dst := some 36, op := Op.move (Operand.tmp 0), type := 29, pos := "ref.go:1181", after := #[], guard := none }) (v := ?_) rfl (by kernel_rfl) (by kernel_rfl) (by kernel_rfl) (fun _ _ _ h => h) (Or.inl ⟨by rfl, ?_⟩) (by assumption) ?_
                rotate_left
                · (intro w hSw; (try dsimp only at hSw); go_simp; try with_reducible rfl)
                try simp only [Act.put, List.setIfInBounds_toArray, List.set_cons_zero, List.set_cons_succ]
                refine wpAnyH_take (i := 6) (oi := { dst := some 37, op := Op.move (Operand.tmp 3), type := 3, pos := "ref.go:1181", after := #[], guard := none }) (v := ?_) rfl (by kernel_rfl) (by kernel_rfl) (by kernel_rfl) (fun _ _ _ h => h) (Or.inl ⟨by rfl, ?_⟩) (by assumption) ?_
                rotate_left
                · (intro w hSw; (try dsimp only at hSw); go_simp; try with_reducible rfl)
                try simp only [Act.put, List.setIfInBounds_toArray, List.set_cons_zero, List.set_cons_succ]
                refine wpAnyH_take (i := 7) (oi := { dst := some 38, op := Op.indexAddr 29 (Operand.tmp 36) (Operand.tmp 37), type := 0, pos := "ref.go:1181", after := #[{ on := 5, ground := Ground.data }, { on := 6, ground := Ground.data }], guard := none }) (v := ?_) rfl (by kernel_rfl) (by kernel_rfl) (by kernel_rfl) (fun _ _ _ h => h) (Or.inl ⟨by rfl, ?_⟩) (by assumption) ?_
                rotate_left
                · (intro w hSw; (try dsimp only at hSw); go_simp; try with_reducible rfl)
                try simp only [Act.put, List.setIfInBounds_toArray, List.set_cons_zero, List.set_cons_succ]
                refine wpAnyH_take (i := 8) (oi := { dst := some 39, op := Op.fieldAddr 69 (Operand.tmp 38) 0, type := 0, pos := "ref.go:1181", after := #[{ on := 7, ground := Ground.data }], guard := none }) (v := ?_) rfl (by kernel_rfl) (by kernel_rfl) (by kernel_rfl) (fun _ _ _ h => h) (Or.inl ⟨by rfl, ?_⟩) (by assumption) ?_
                rotate_left
                · (intro w hSw; (try dsimp only at hSw); go_simp; try with_reducible rfl)
                try simp only [Act.put, List.setIfInBounds_toArray, List.set_cons_zero, List.set_cons_succ]
                refine wpAnyH_take (i := 9) (oi := { dst := some 40, op := Op.load 9 (Operand.tmp 39), type := 9, pos := "ref.go:1181", after := #[{ on := 8, ground := Ground.data }], guard := none }) (v := ?_) rfl (by kernel_rfl) (by kernel_rfl) (by kernel_rfl) (fun _ _ _ h => h) (Or.inl ⟨by rfl, ?_⟩) (by assumption) ?_
                rotate_left
                · (intro w hSw; (try dsimp only at hSw); go_simp; try with_reducible rfl)
                try simp only [Act.put, List.setIfInBounds_toArray, List.set_cons_zero, List.set_cons_succ]
                refine wpAnyH_take (i := 10) (oi := { dst := some 41, op := Op.binOp BinOp.eql 9 (Operand.tmp 35) (Operand.tmp 40) 9, type := 4, pos := "ref.go:1181", after := #[{ on := 4, ground := Ground.data }, { on := 9, ground := Ground.data }], guard := none }) (v := ?_) rfl (by kernel_rfl) (by kernel_rfl) (by kernel_rfl) (fun _ _ _ h => h) (Or.inl ⟨by rfl, ?_⟩) (by assumption) ?_
                rotate_left
                · (intro w hSw; (try dsimp only at hSw); go_simp; try with_reducible rfl)
                try simp only [Act.put, List.setIfInBounds_toArray, List.set_cons_zero, List.set_cons_succ]
                refine wpAnyH_done (by kernel_rfl) ?_ _
                refine NoPanic.normal ?_
                go_wp2_with fail
                go_ret
                have := HE.out
                subst this
                exact ⟨rfl, (HBI.out).drew⟩
              · have d1 : ((strOf nk).toList == (strOf nm).toList) = false := by rw [str_eq]; exact decide_eq_false hs
                have HN2 : Hid (∀ (j : Nat) (q : List UInt8 × Int), j < k + 1 → cs[j]? = some q → q.1 ≠ nm) := Lib.hid (by
                  intro j q' hji hq'
                  by_cases hji2 : j = k
                  · subst hji2
                    rw [HQ2.out] at hq'
                    cases hq'
                    exact hs
                  · exact HJ.out j q' (by omega) hq')
                clear hs
                go_upto_region 11 with fail
                refine wp_region_noPanic ?_
                refine wp_region_held_drew (S := (fun W => W.cell? ⟨X, k * 2, none⟩ = some (.string (strOf nk)) ∧ W.cell? ⟨X, i * 2, none⟩ = some (.string (strOf nm)))) (by kernel_rfl) ?_ (fun hHeld => ?_)
                · exact ⟨c1, c2⟩
                refine wpAnyH_take (i := 0) (oi := { dst := some 31, op := Op.move (Operand.tmp 0), type := 29, pos := "ref.go:1181", after := #[], guard := none }) (v := ?_) rfl (by kernel_rfl) (by kernel_rfl) (by kernel_rfl) (fun _ _ _ h => h) (Or.inl ⟨by rfl, ?_⟩) (by assumption) ?_
                rotate_left
                · (intro w hSw; (try dsimp only at hSw); go_simp; try with_reducible rfl)
                try simp only [Act.put, List.setIfInBounds_toArray, List.set_cons_zero, List.set_cons_succ]
                refine wpAnyH_take (i := 1) (oi := { dst := some 32, op := Op.move (Operand.tmp 4), type := 3, pos := "ref.go:1181", after := #[], guard := none }) (v := ?_) rfl (by kernel_rfl) (by kernel_rfl) (by kernel_rfl) (fun _ _ _ h => h) (Or.inl ⟨by rfl, ?_⟩) (by assumption) ?_
                rotate_left
                · (intro w hSw; (try dsimp only at hSw); go_simp; try with_reducible rfl)
                try simp only [Act.put, List.setIfInBounds_toArray, List.set_cons_zero, List.set_cons_succ]
                refine wpAnyH_take (i := 2) (oi := { dst := some 33, op := Op.indexAddr 29 (Operand.tmp 31) (Operand.tmp 32), type := 0, pos := "ref.go:1181", after := #[{ on := 0, ground := Ground.data }, { on := 1, ground := Ground.data }], guard := none }) (v := ?_) rfl (by kernel_rfl) (by kernel_rfl) (by kernel_rfl) (fun _ _ _ h => h) (Or.inl ⟨by rfl, ?_⟩) (by assumption) ?_
                rotate_left
                · (intro w hSw; (try dsimp only at hSw); go_simp; try with_reducible rfl)
                try simp only [Act.put, List.setIfInBounds_toArray, List.set_cons_zero, List.set_cons_succ]
                refine wpAnyH_take (i := 3) (oi := { dst := some 34, op := Op.fieldAddr 69 (Operand.tmp 33) 0, type := 0, pos := "ref.go:1181", after := #[{ on := 2, ground := Ground.data }], guard := none }) (v := ?_) rfl (by kernel_rfl) (by kernel_rfl) (by kernel_rfl) (fun _ _ _ h => h) (Or.inl ⟨by rfl, ?_⟩) (by assumption) ?_
                rotate_left
                · (intro w hSw; (try dsimp only at hSw); go_simp; try with_reducible rfl)
                try simp only [Act.put, List.setIfInBounds_toArray, List.set_cons_zero, List.set_cons_succ]
                refine wpAnyH_take (i := 4) (oi := { dst := some 35, op := Op.load 9 (Operand.tmp 34), type := 9, pos := "ref.go:1181", after := #[{ on := 3, ground := Ground.data }], guard := none }) (v := ?_) rfl (by kernel_rfl) (by kernel_rfl) (by kernel_rfl) (fun _ _ _ h => h) (Or.inl ⟨by rfl, ?_⟩) (by assumption) ?_
                rotate_left
                · (intro w hSw; (try dsimp only at hSw); go_simp; try with_reducible rfl)
                try simp only [Act.put, List.setIfInBounds_toArray, List.set_cons_zero, List.set_cons_succ]
                refine wpAnyH_take (i := 5) (oi := { dst := some 36, op := Op.move (Operand.tmp 0), type := 29, pos := "ref.go:1181", after := #[], guard := none }) (v := ?_) rfl (by kernel_rfl) (by kernel_rfl) (by kernel_rfl) (fun _ _ _ h => h) (Or.inl ⟨by rfl, ?_⟩) (by assumption) ?_
                rotate_left
                · (intro w hSw; (try dsimp only at hSw); go_simp; try with_reducible rfl)
                try simp only [Act.put, List.setIfInBounds_toArray, List.set_cons_zero, List.set_cons_succ]
                refine wpAnyH_take (i := 6) (oi := { dst := some 37, op := Op.move (Operand.tmp 3), type := 3, pos := "ref.go:1181", after := #[], guard := none }) (v := ?_) rfl (by kernel_rfl) (by kernel_rfl) (by kernel_rfl) (fun _ _ _ h => h) (Or.inl ⟨by rfl, ?_⟩) (by assumption) ?_
                rotate_left
                · (intro w hSw; (try dsimp only at hSw); go_simp; try with_reducible rfl)
                try simp only [Act.put, List.setIfInBounds_toArray, List.set_cons_zero, List.set_cons_succ]
                refine wpAnyH_take (i := 7) (oi := { dst := some 38, op := Op.indexAddr 29 (Operand.tmp 36) (Operand.tmp 37), type := 0, pos := "ref.go:1181", after := #[{ on := 5, ground := Ground.data }, { on := 6, ground := Ground.data }], guard := none }) (v := ?_) rfl (by kernel_rfl) (by kernel_rfl) (by kernel_rfl) (fun _ _ _ h => h) (Or.inl ⟨by rfl, ?_⟩) (by assumption) ?_
                rotate_left
                · (intro w hSw; (try dsimp only at hSw); go_simp; try with_reducible rfl)
                try simp only [Act.put, List.setIfInBounds_toArray, List.set_cons_zero, List.set_cons_succ]
                refine wpAnyH_take (i := 8) (oi := { dst := some 39, op := Op.fieldAddr 69 (Operand.tmp 38) 0, type := 0, pos := "ref.go:1181", after := #[{ on := 7, ground := Ground.data }], guard := none }) (v := ?_) rfl (by kernel_rfl) (by kernel_rfl) (by kernel_rfl) (fun _ _ _ h => h) (Or.inl ⟨by rfl, ?_⟩) (by assumption) ?_
                rotate_left
                · (intro w hSw; (try dsimp only at hSw); go_simp; try with_reducible rfl)
                try simp only [Act.put, List.setIfInBounds_toArray, List.set_cons_zero, List.set_cons_succ]
                refine wpAnyH_take (i := 9) (oi := { dst := some 40, op := Op.load 9 (Operand.tmp 39), type := 9, pos := "ref.go:1181", after := #[{ on := 8, ground := Ground.data }], guard := none }) (v := ?_) rfl (by kernel_rfl) (by kernel_rfl) (by kernel_rfl) (fun _ _ _ h => h) (Or.inl ⟨by rfl, ?_⟩) (by assumption) ?_
                rotate_left
                · (intro w hSw; (try dsimp only at hSw); go_simp; try with_reducible rfl)
                try simp only [Act.put, List.setIfInBounds_toArray, List.set_cons_zero, List.set_cons_succ]
                refine wpAnyH_take (i := 10) (oi := { dst := some 41, op := Op.binOp BinOp.eql 9 (Operand.tmp 35) (Operand.tmp 40) 9, type := 4, pos := "ref.go:1181", after := #[{ on := 4, ground := Ground.data }, { on := 9, ground := Ground.data }], guard := none }) (v := ?_) rfl (by kernel_rfl) (by kernel_rfl) (by kernel_rfl) (fun _ _ _ h => h) (Or.inl ⟨by rfl, ?_⟩) (by assumption) ?_
                rotate_left
                · (intro w hSw; (try dsimp only at hSw); go_simp; try with_reducible rfl)
                try simp only [Act.put, List.setIfInBounds_toArray, List.set_cons_zero, List.set_cons_succ]
                refine wpAnyH_done (by kernel_rfl) ?_ _
                refine NoPanic.normal ?_
                go_wp2_with fail
                exact ⟨⟨k + 1, by omega, rfl, HN2.out, (HV.out).drew⟩, by simp [intOf]; omega⟩
            · obtain rfl : k = i := by omega
              have hE : decide ((k : Int) < k) = false := by simp
              have hE' : decide (k < k) = false := by simp
              have HTW : Hid (decide (nm ∈ (cs.take k).map Prod.fst) = false) := Lib.hid (decide_eq_false fun h => by
                obtain ⟨j, q, hq, e⟩ := mem_fst.1 h
                rw [List.getElem?_take] at hq
                split at hq
                · exact HJ.out j q (by assumption) hq e
                · cases hq)
              clear c2
              by_cases hk1 : kd < 1
              · have k1 : decide (kd < 1) = true := decide_eq_true hk1
                have HE : Hid (R = 6) := Lib.hid (KEY.out 6 (by rw [chkAt_kind HQ.out HG.out HTW.out, if_neg]; dsimp only; omega) (by decide))
                clear HQ
                go_wp2_with fail
                go_ret
                have := HE.out
                subst this
                exact ⟨rfl, HBI.out⟩
              · have k1 : decide (kd < 1) = false := decide_eq_false hk1
                by_cases hk3 : 3 < kd
                · have k3 : decide (3 < kd) = true := decide_eq_true hk3
                  have HE : Hid (R = 6) := Lib.hid (KEY.out 6 (by rw [chkAt_kind HQ.out HG.out HTW.out, if_neg]; dsimp only; omega) (by decide))
                  clear HQ
                  go_wp2_with fail
                  go_ret
                  have := HE.out
                  subst this
                  exact ⟨rfl, HBI.out⟩
                · have k3 : decide (3 < kd) = false := decide_eq_false hk3
                  have HN : Hid (chkTo cs (k + 1) = 0) := Lib.hid (by rw [chkTo, if_pos H0.out, chkAt_kind HQ.out HG.out HTW.out, if_pos]; constructor <;> (dsimp only; omega))
                  clear HQ
                  go_wp2_with fail
                  exact ⟨⟨k + 1, by omega, rfl, HN.out, HBI.out⟩, by simp [intOf]; omega⟩
      · obtain rfl : i = n := by omega
        have hD : decide ((i : Int) < i) = false := by simp
        have hD' : decide (i < i) = false := by simp
        have HE : Hid (R = 0) := Lib.hid (by rw [← HR.out]; unfold chk; rw [if_pos HL.out, HC.out.len]; exact H0.out)
        go_wp2_with fail
        go_ret
        have := HE.out
        subst this
        exact ⟨rfl, HB.out⟩
end Go.Proofs
end

section
namespace Go.Proofs
open Go.RowKit
set_option maxRecDepth 100000
theorem DI.str {w : World} {A : Option Addr} {n c : Nat} {l : List UInt8} (h : DI w A n c l) (X : Addr) (hX : A = some X) (p U m : Nat) (hp : p + U ≤ n) : (convert 22 9 (.slice (some (X.add p)) U m)).run Try.prog w = .ok (.string (strOf ((l.drop p).take U))) w := by
  have hl := h.len
  refine str_arg (fun j u hu => ?_) U m (by rw [List.length_take, List.length_drop]; omega)
  rw [List.getElem?_map] at hu
  obtain ⟨x, hx, rfl⟩ := Option.map_eq_some_iff.1 hu
  rw [List.getElem?_take] at hx
  split at hx
  · rw [List.getElem?_drop] at hx
    obtain ⟨X', e, hc⟩ := h.at' _ _ hx
    rw [hX] at e
    cases e
    rw [addr_add]
    exact hc
  · cases hx
set_option maxHeartbeats 4000000 in
theorem Try.getWord (w : World) {A : Option Addr} {n c : Nat} {l : List UInt8} (hD : DI w A n c l) (hn : n ≤ 400) (a : Nat) (ha : a ≤ n) :
    Calls Try.prog 28 #[.slice A n c, .int .i64 a, .int .u64 18446744073709551615] w fun e w' => e = .returned (.tuple #[.string (strOf (gword l a).1), .int .i64 ((gword l a).2.1 : Nat), .int .i64 (gword l a).2.2]) ∧ w' = w := by
  obtain ⟨R, hR⟩ : ∃ R, gword l a = R := ⟨_, rfl⟩
  rw [hR]
  have HR := Lib.hid hR
  have HD := Lib.hid hD
  have hlc := hD.le
  have hln := hD.len
  have hok := getN_ok l a
  obtain ⟨g, hg⟩ : ∃ g, getN l a = g := ⟨_, rfl⟩
  rw [hg] at hok
  obtain ⟨u, k, e⟩ := g
  have HG := Lib.hid hg
  clear hR hD hg
  go_enter Try.func28, Try.ntmps28
  go_wp2_with fail
  refine (Try.rget w HD.out hn a ha).mono ?_
  rintro x w1 ⟨rfl, hw1⟩
  rw [hw1, HG.out]
  clear hw1 w1
  dsimp only
  by_cases he : e = 0
  · subst he
    have hin := hok.ok rfl
    dsimp only at hin
    obtain ⟨U, hU⟩ : ∃ U : Nat, u = (U : Int) := ⟨u.toNat, by omega⟩
    subst hU
    have g1 : decide ((18446744073709551615 : Int) < (U : Int)) = false := decide_eq_false (by omega)
    have g1' : decide (18446744073709551615 < U) = false := decide_eq_false (by omega)
    have s1 : IntKind.i64.wrap ((n : Int) - a) = (n : Int) - a := wrapi (by omega) (by omega)
    have s2 : IntKind.i64.wrap ((n : Int) - a - k) = (n : Int) - a - k := wrapi (by omega) (by omega)
    have s3 : IntKind.u64.wrap ((n : Int) - a - k) = (n : Int) - a - k := wrapu (by omega) (by omega)
    clear hok
    by_cases hs : (n : Int) - a - k < U
    · have g2 : decide ((n : Int) - a - k < U) = true := decide_eq_true hs
      have HE : Hid (R = ([], 0, 5)) := Lib.hid (by have := HR.out; unfold gword at this; rw [HG.out] at this; dsimp only at this; rw [if_pos rfl, if_neg (by omega)] at this; exact this.symm)
      clear hs
      go_wp2_with fail
      go_ret3
      have := HE.out
      subst this
      exact ⟨rfl, rfl⟩
    · have g2 : decide ((n : Int) - a - k < U) = false := decide_eq_false hs
      have HE : Hid (R = ((l.drop (a + k)).take U, k + U, 0)) := Lib.hid (by have := HR.out; unfold gword at this; rw [HG.out] at this; dsimp only at this; rw [if_pos rfl, if_pos (by omega), Int.toNat_natCast] at this; exact this.symm)
      obtain ⟨p, hp⟩ : ∃ p, a + k = p := ⟨_, rfl⟩
      have hq0 : ((a : Int) + k) = (p : Int) := by omega
      have s4 : IntKind.i64.wrap (p : Int) = (p : Int) := wrapi (by omega) (by omega)
      have s5 : IntKind.i64.wrap ((p : Int) + U) = (p : Int) + U := wrapi (by omega) (by omega)
      have s6 : IntKind.i64.wrap ((k : Int) + U) = (k : Int) + U := wrapi (by omega) (by omega)
      have s7 : IntKind.i64.wrap (U : Int) = (U : Int) := wrapi (by omega) (by omega)
      have hq1 : (0 : Int) ≤ (p : Int) + U := by omega
      have hq2 : (p : Int) + U ≤ c := by omega
      have hq3 : ((p : Int) + U).toNat = p + U := by omega
      have hpU : p + U ≤ n := by omega
      rw [hp] at HE
      have HP := Lib.hid hp
      clear hs hp
      by_cases hU0 : U = 0
      · subst hU0
        have hc0 := str_sl0 w
        have hpc : p ≤ c := by omega
        clear s5 s6 s7 hq1 hq2 hq3 g1 g1' g2
        have g1 : decide ((18446744073709551615 : Int) < 0) = false := by decide
        have g2 : decide ((n : Int) - a - k < 0) = false := decide_eq_false (by omega)
        have s8 : IntKind.i64.wrap (k : Int) = (k : Int) := wrapi (by omega) (by omega)
        have HE2 : Hid (R = ([], k, 0)) := Lib.hid (by simpa using HE.out)
        clear HE
        go_wp2_with fail
        all_goals
          go_ret3
          have := HE2.out
          subst this
          exact ⟨rfl, rfl⟩
      · have hp0 : ¬ c = p := by omega
        obtain ⟨X, hX, _⟩ := (HD.out).at' p (l[p]'(by omega)) (List.getElem?_eq_getElem (by omega))
        subst hX
        have hst := fun m => (HD.out).str X rfl p U m hpU
        go_wp2_with fail
        go_ret3
        have := HE.out
        subst this
        exact ⟨rfl, rfl⟩
  · have g1 : (e == 0) = false := by simpa using he
    have g2 : decide (e = 0) = false := by simpa using he
    have hno := hok.no he
    dsimp only at hno
    have HE : Hid (R = ([], 0, e)) := Lib.hid (by have := HR.out; unfold gword at this; rw [HG.out] at this; dsimp only at this; rw [if_neg he] at this; exact this.symm)
    clear hok hno he
    go_wp2_with fail
    go_ret3
    have := HE.out
    subst this
    exact ⟨rfl, rfl⟩
end Go.Proofs
end

section
namespace Go.Proofs
open Go.RowKit
set_option maxRecDepth 100000
def flat (cs : List (List UInt8 × Int)) : List Value := cs.flatMap fun q => [.string (strOf q.1), .int .i64 q.2]
theorem flat_len (cs : List (List UInt8 × Int)) : (flat cs).length = cs.length * 2 := by
  induction cs with
  | nil => rfl
  | cons q cs ih =>
    have : flat (q :: cs) = [.string (strOf q.1), .int .i64 q.2] ++ flat cs := rfl
    rw [this, List.length_append, ih, List.length_cons]; simp; omega
theorem flat_at (cs : List (List UInt8 × Int)) : ∀ (j : Nat) (q : List UInt8 × Int), cs[j]? = some q → (flat cs)[j * 2]? = some (.string (strOf q.1)) ∧ (flat cs)[j * 2 + 1]? = some (.int .i64 q.2) := by
  induction cs with
  | nil => intro j q h; simp at h
  | cons p cs ih =>
    intro j q h
    have e : flat (p :: cs) = .string (strOf p.1) :: .int .i64 p.2 :: flat cs := rfl
    rw [e]
    cases j with
    | zero => simp at h; subst h; exact ⟨rfl, rfl⟩
    | succ j =>
      have h1 : (j + 1) * 2 = j * 2 + 1 + 1 := by omega
      rw [h1, List.getElem?_cons_succ, List.getElem?_cons_succ, List.getElem?_cons_succ, List.getElem?_cons_succ]
      exact ih j q (by simpa using h)
theorem flat_snoc (cs : List (List UInt8 × Int)) (q : List UInt8 × Int) : flat (cs ++ [q]) = flat cs ++ [.string (strOf q.1), .int .i64 q.2] := by simp [flat]
theorem own_cr {w : World} {base e n : Nat} {v : Value} {cs : List (List UInt8 × Int)} (h : w.ownsRow base e 2 v n (flat cs)) : ∃ A c, v = .slice A n c ∧ CR w A n c cs := by
  have hl : cs.length = n := by have := h.1; rw [flat_len] at this; omega
  rcases h.2 with ⟨rfl, rfl⟩ | ⟨g, cap, cur, rfl, hb, hg, h1, h2, h3, h4⟩
  · obtain rfl := List.eq_nil_of_length_eq_zero hl
    exact ⟨none, 0, rfl, rfl, Nat.le_refl _, Nat.zero_le _, fun j q hj => by simp at hj⟩
  · refine ⟨_, cap, rfl, hl, h1, h2, fun j q hj => ⟨g, rfl, ?_⟩⟩
    have hj' : j < n := by rw [← hl]; exact (List.getElem?_eq_some_iff.1 hj).1
    have := flat_at cs j q hj
    exact ⟨(h.cellAt (j * 2) (by omega)).trans this.1, (h.cellAt (j * 2 + 1) (by omega)).trans this.2⟩
theorem own_below {w w' : World} {B : Nat} {e : TypeId} {size : Nat} {v : Value} {n : Nat} {xs : List Value} (h : w.ownsRow B e size v n xs) (hb : Below w.heap.size w w') : w'.ownsRow B e size v n xs := by
  refine ⟨h.1, ?_⟩
  rcases h.2 with q | ⟨g, cap, cur, rfl, q, hg, r⟩
  · exact .inl q
  · exact .inr ⟨g, cap, cur, rfl, q, (hb.block g (by by_cases hx : g < w.heap.size; exact hx; rw [Array.getElem?_eq_none (by omega)] at hg; cases hg)).trans hg, r⟩
theorem infoC (t : TypeId) (h : (Try.prog.info? t).map (fun i => (i.zero, i.size, i.bytes)) = some (some (.agg #[.string ⟨#[]⟩, .int .i64 0]), 2, 24)) : ∃ i, Try.prog.info? t = some i ∧ i.zero = some (.agg #[.string ⟨#[]⟩, .int .i64 0]) ∧ i.size = 2 ∧ i.bytes = 24 := by
  rcases hi : Try.prog.info? t with _ | i
  · rw [hi] at h; simp at h
  · rw [hi] at h
    simp only [Option.map_some, Option.some.injEq, Prod.mk.injEq] at h
    exact ⟨i, rfl, h.1, h.2.1, h.2.2⟩
theorem step_want {P : Program} {ops : Array Oper} {o : Oper} {a : Act} {w : World} {K : Act → World → Prop} {Q : Exit → Act → World → Prop} {E : Prop} (hw : Region.wanted o (yielded ops a.tmps) = true) (h : Oper.wp P o a w K Q) :
    if Region.wanted o (yielded ops a.tmps) = true then Oper.wp P o a w K Q else E := by
  rw [if_pos hw]
  exact h
theorem built_own (w : World) (t : Nat) (q : List UInt8 × Int) (base : Nat) (hb : base ≤ w.heap.size) : ∀ j u, ([Value.string (strOf q.1), .int .i64 q.2] : List Value)[j]? = some u → (w.alloc (.cells #[.string (strOf q.1), .int .i64 q.2] t)).cell? ((⟨w.heap.size, 0, none⟩ : Addr).add j) = some u := by
  intro j u hj
  rw [Addr.add_lit, Nat.zero_add, cell_of_row _ _ j _ t _ (heap_alloc_new w _), ← hj]
  simp
set_option maxHeartbeats 4000000 in
theorem Try.of (w : World) (A : Option Addr) (n c : Nat) (cs : List (List UInt8 × Int)) (hC : CR w A n c cs) (hn : n ≤ 8) :
    Calls Try.prog 8 #[.slice A n c] w fun x w' => ∃ v, x = .returned v ∧ w'.ownsRow w.heap.size 69 2 v n (flat cs) ∧ Below w.heap.size w w' := by
  have HC := Lib.hid hC
  have hlc := hC.le
  clear hC
  obtain ⟨ii, hi0, hz0, hz1, hz2⟩ := infoC 69 (by kernel_rfl)
  go_enter Try.func8, Try.ntmps8
  go_wp2_with fail
  go_loopw [3, 4] (fun v t wr => ∃ i : Nat, i ≤ n ∧ t = .int .i64 i ∧ wr.ownsRow w.heap.size 69 2 v i (flat (cs.take i)) ∧ Below w.heap.size w wr) (fun _ t _ => n - (intOf t).toNat)
  case atStart => exact ⟨0, Nat.zero_le _, rfl, World.ownsRow_nil _ _ _ _, Below.refl _ _⟩
  case round =>
    obtain ⟨i, hi, rfl, ho, hb⟩ := hrel
    obtain ⟨v0, hv0⟩ : ∃ v0, u3 = v0 := ⟨_, rfl⟩
    rw [hv0] at ho ⊢
    clear hv0
    have HO := Lib.hid ho
    have HB := Lib.hid hb
    clear ho hb
    by_cases hlt : i < n
    · have hD : decide ((i : Int) < n) = true := decide_eq_true (by omega)
      have hD' : decide (i < n) = true := decide_eq_true hlt
      obtain ⟨q, hq⟩ : ∃ q, cs[i]? = some q := ⟨_, List.getElem?_eq_getElem (by rw [HC.out.len]; exact hlt)⟩
      have HQ := Lib.hid hq
      obtain ⟨X, hX, hc1, hc2⟩ := ((HC.out).below HB.out).at' _ _ hq
      subst hX
      obtain ⟨nm, kd⟩ := q
      dsimp only at hc1 hc2
      have HT : Hid (cs.take (i + 1) = cs.take i ++ [(nm, kd)]) := Lib.hid (by rw [List.take_add_one, hq]; rfl)
      have C0 := Lib.hid hc1
      have C1 := Lib.hid hc2
      clear hq
      go_upto_region 5 with fail
      obtain ⟨XX, hXX, cw0, cw1⟩ := (HC.out).at' _ _ HQ.out
      cases hXX
      have W0 := Lib.hid cw0
      have W1 := Lib.hid cw1
      clear cw0 cw1 hc1 hc2
      refine wp_region_noPanic ?_
      refine wp_region_held_drew (S := (fun W => W.cell? ⟨X, i * 2, none⟩ = some (.string (strOf nm)) ∧ W.cell? ⟨X, i * 2 + 1, none⟩ = some (.int .i64 kd))) (by kernel_rfl) ?_ (fun hHeld => ?_)
      · exact ⟨C0.out, C1.out⟩
      obtain ⟨wd, hwd⟩ : ∃ wd, wr.drew = wd := ⟨_, rfl⟩
      have OD : Hid (wd.ownsRow w.heap.size 69 2 v0 i (flat (cs.take i))) := Lib.hid (by rw [← hwd]; exact (HO.out).drew)
      have BD : Hid (Below w.heap.size w wd) := Lib.hid (by rw [← hwd]; exact (HB.out).drew)
      rw [hwd] at hHeld ⊢
      clear hwd
      refine wpAnyH_take (i := 0) (oi := { dst := some 11, op := Op.move (Operand.tmp 3), type := 29, pos := "law.go:15", after := #[], guard := none }) (v := ?_) rfl (by kernel_rfl) (by kernel_rfl) (by kernel_rfl) (fun _ _ _ h => h) (Or.inl ⟨by rfl, ?_⟩) (by assumption) ?_
      rotate_left
      · (intro w hSw; (try dsimp only at hSw); go_simp; try with_reducible rfl)
      try simp only [Act.put, List.setIfInBounds_toArray, List.set_cons_zero, List.set_cons_succ]
      refine wpAnyH_take (i := 1) (oi := { dst := some 12, op := Op.move (Operand.tmp 0), type := 25, pos := "law.go:15", after := #[], guard := none }) (v := ?_) rfl (by kernel_rfl) (by kernel_rfl) (by kernel_rfl) (fun _ _ _ h => h) (Or.inl ⟨by rfl, ?_⟩) (by assumption) ?_
      rotate_left
      · (intro w hSw; (try dsimp only at hSw); go_simp; try with_reducible rfl)
      try simp only [Act.put, List.setIfInBounds_toArray, List.set_cons_zero, List.set_cons_succ]
      refine wpAnyH_take (i := 2) (oi := { dst := some 13, op := Op.move (Operand.tmp 4), type := 3, pos := "law.go:15", after := #[], guard := none }) (v := ?_) rfl (by kernel_rfl) (by kernel_rfl) (by kernel_rfl) (fun _ _ _ h => h) (Or.inl ⟨by rfl, ?_⟩) (by assumption) ?_
      rotate_left
      · (intro w hSw; (try dsimp only at hSw); go_simp; try with_reducible rfl)
      try simp only [Act.put, List.setIfInBounds_toArray, List.set_cons_zero, List.set_cons_succ]
      refine wpAnyH_take (i := 3) (oi := { dst := some 14, op := Op.indexAddr 25 (Operand.tmp 12) (Operand.tmp 13), type := 0, pos := "law.go:15", after := #[{ on := 1, ground := Ground.data }, { on := 2, ground := Ground.data }], guard := none }) (v := ?_) rfl (by kernel_rfl) (by kernel_rfl) (by kernel_rfl) (fun _ _ _ h => h) (Or.inl ⟨by rfl, ?_⟩) (by assumption) ?_
      rotate_left
      · (intro w hSw; (try dsimp only at hSw); go_simp; try with_reducible rfl)
      try simp only [Act.put, List.setIfInBounds_toArray, List.set_cons_zero, List.set_cons_succ]
      refine wpAnyH_take (i := 4) (oi := { dst := some 15, op := Op.fieldAddr 54 (Operand.tmp 14) 0, type := 0, pos := "law.go:15", after := #[{ on := 3, ground := Ground.data }], guard := none }) (v := ?_) rfl (by kernel_rfl) (by kernel_rfl) (by kernel_rfl) (fun _ _ _ h => h) (Or.inl ⟨by rfl, ?_⟩) (by assumption) ?_
      rotate_left
      · (intro w hSw; (try dsimp only at hSw); go_simp; try with_reducible rfl)
      try simp only [Act.put, List.setIfInBounds_toArray, List.set_cons_zero, List.set_cons_succ]
      refine wpAnyH_take (i := 5) (oi := { dst := some 16, op := Op.load 9 (Operand.tmp 15), type := 9, pos := "law.go:15", after := #[{ on := 4, ground := Ground.data }], guard := none }) (v := ?_) rfl (by kernel_rfl) (by kernel_rfl) (by kernel_rfl) (fun _ _ _ h => h) (Or.inl ⟨by rfl, ?_⟩) (by assumption) ?_
      rotate_left
      · (intro w hSw; (try dsimp only at hSw); go_simp; try with_reducible rfl)
      try simp only [Act.put, List.setIfInBounds_toArray, List.set_cons_zero, List.set_cons_succ]
      refine wpAnyH_take (i := 6) (oi := { dst := some 17, op := Op.move (Operand.tmp 0), type := 25, pos := "law.go:15", after := #[], guard := none }) (v := ?_) rfl (by kernel_rfl) (by kernel_rfl) (by kernel_rfl) (fun _ _ _ h => h) (Or.inl ⟨by rfl, ?_⟩) (by assumption) ?_
      rotate_left
      · (intro w hSw; (try dsimp only at hSw); go_simp; try with_reducible rfl)
      try simp only [Act.put, List.setIfInBounds_toArray, List.set_cons_zero, List.set_cons_succ]
      refine wpAnyH_take (i := 7) (oi := { dst := some 18, op := Op.move (Operand.tmp 4), type := 3, pos := "law.go:15", after := #[], guard := none }) (v := ?_) rfl (by kernel_rfl) (by kernel_rfl) (by kernel_rfl) (fun _ _ _ h => h) (Or.inl ⟨by rfl, ?_⟩) (by assumption) ?_
      rotate_left
      · (intro w hSw; (try dsimp only at hSw); go_simp; try with_reducible rfl)
      try simp only [Act.put, List.setIfInBounds_toArray, List.set_cons_zero, List.set_cons_succ]
      refine wpAnyH_take (i := 8) (oi := { dst := some 19, op := Op.indexAddr 25 (Operand.tmp 17) (Operand.tmp 18), type := 0, pos := "law.go:15", after := #[{ on := 6, ground := Ground.data }, { on := 7, ground := Ground.data }], guard := none }) (v := ?_) rfl (by kernel_rfl) (by kernel_rfl) (by kernel_rfl) (fun _ _ _ h => h) (Or.inl ⟨by rfl, ?_⟩) (by assumption) ?_
      rotate_left
      · (intro w hSw; (try dsimp only at hSw); go_simp; try with_reducible rfl)
      try simp only [Act.put, List.setIfInBounds_toArray, List.set_cons_zero, List.set_cons_succ]
      refine wpAnyH_take (i := 9) (oi := { dst := some 20, op := Op.fieldAddr 54 (Operand.tmp 19) 1, type := 0, pos := "law.go:15", after := #[{ on := 8, ground := Ground.data }], guard := none }) (v := ?_) rfl (by kernel_rfl) (by kernel_rfl) (by kernel_rfl) (fun _ _ _ h => h) (Or.inl ⟨by rfl, ?_⟩) (by assumption) ?_
      rotate_left
      · (intro w hSw; (try dsimp only at hSw); go_simp; try with_reducible rfl)
      try simp only [Act.put, List.setIfInBounds_toArray, List.set_cons_zero, List.set_cons_succ]
      refine wpAnyH_take (i := 10) (oi := { dst := some 21, op := Op.load 3 (Operand.tmp 20), type := 3, pos := "law.go:15", after := #[{ on := 9, ground := Ground.data }], guard := none }) (v := ?_) rfl (by kernel_rfl) (by kernel_rfl) (by kernel_rfl) (fun _ _ _ h => h) (Or.inl ⟨by rfl, ?_⟩) (by assumption) ?_
      rotate_left
      · (intro w hSw; (try dsimp only at hSw); go_simp; try with_reducible rfl)
      try simp only [Act.put, List.setIfInBounds_toArray, List.set_cons_zero, List.set_cons_succ]
      refine wpAnyH_take (i := 11) (oi := { dst := some 22, op := Op.build 69 #[(0, Operand.tmp 16), (1, Operand.tmp 21)], type := 69, pos := "law.go:15", after := #[{ on := 5, ground := Ground.data }, { on := 10, ground := Ground.data }], guard := none }) (v := ?_) rfl (by kernel_rfl) (by kernel_rfl) (by kernel_rfl) (fun _ _ _ h => h) (Or.inl ⟨by rfl, ?_⟩) (by assumption) ?_
      rotate_left
      · (intro w hSw; (try dsimp only at hSw); go_simp; try with_reducible rfl)
      try simp only [Act.put, List.setIfInBounds_toArray, List.set_cons_zero, List.set_cons_succ]
      refine wpAnyH_ready (rs := [12]) (by kernel_rfl) (by simp) ?_
      refine AllReadyH.cons (o := { dst := some 23, op := Op.buildSlice 29 1 #[(0, Operand.tmp 22)], type := 29, pos := "law.go:15", after := #[{ on := 11, ground := Ground.data }], guard := none }) rfl (fun K hK => ?_) AllReadyH.nil
      go_simp
      obtain ⟨wb, hwb⟩ : ∃ wb, wd.alloc (.cells #[.string (strOf nm), .int .i64 kd] 69) = wb := ⟨_, rfl⟩
      obtain ⟨gb, hgb⟩ : ∃ gb, wd.heap.size = gb := ⟨_, rfl⟩
      have CB := Lib.hid (built_own wd 69 (nm, kd) 0 (Nat.zero_le _))
      have OB := Lib.hid ((OD.out).alloc (.cells #[.string (strOf nm), .int .i64 kd] 69))
      have BB := Lib.hid ((BD.out).alloc (BD.out).size (.cells #[.string (strOf nm), .int .i64 kd] 69))
      dsimp only at CB
      rw [hwb, hgb] at CB
      rw [hwb] at OB BB
      rw [hwb, hgb]
      clear hwb hgb
      refine hK.out _ _ ?_ (fun hHeld => ?_)
      · exact ⟨cellW W0.out BB.out, cellW W1.out BB.out⟩
      clear hK K
      try simp only [Act.put, List.setIfInBounds_toArray, List.set_cons_zero, List.set_cons_succ]
      refine wpAnyH_ready (rs := [13]) (by kernel_rfl) (by simp) ?_
      refine AllReadyH.cons (o := { dst := some 24, op := Op.call { callee := Callee.builtin Builtin.append, args := #[Operand.tmp 11, Operand.tmp 23], argTypes := #[29, 29] }, type := 29, pos := "law.go:15", after := #[{ on := 0, ground := Ground.data }, { on := 12, ground := Ground.data }], guard := none }) rfl (fun K hK => ?_) AllReadyH.nil
      refine step_want (by kernel_rfl) ?_
      refine wp_append_own _ (.tmp 11) (.tmp 23) 29 rfl w.heap.size 69 ii (.agg #[.string ⟨#[]⟩, .int .i64 0]) 2 24 Try.underlying29 hi0 hz0 hz1 hz2 rfl (by decide) _ _ _ rfl (OB.out) _ _ _ ([Value.string (strOf nm), .int .i64 kd]) rfl rfl (CB.out) (by intro u hu; simp at hu; rcases hu with rfl | rfl <;> rfl) (by unfold maxLen; omega) (by omega) (BB.out).size ?_
      intro v' w5 hown1 hg hne
      have B5 := Lib.hid ((BB.out).grown hg (BB.out).size (fun k hk => ((OB.out).lt k hk).1))
      have O5 : Hid (w5.ownsRow w.heap.size 69 2 v' (i + 1) (flat (cs.take (i + 1)))) := Lib.hid (by rw [HT.out, flat_snoc]; exact hown1)
      clear hown1 hg hne
      refine hK.out _ _ ?_ (fun hHeld => ?_)
      · exact ⟨cellW W0.out B5.out, cellW W1.out B5.out⟩
      clear hK K
      try simp only [Act.put, List.setIfInBounds_toArray, List.set_cons_zero, List.set_cons_succ]
      refine wpAnyH_take (i := 14) (oi := { dst := some 3, op := Op.assign (Operand.tmp 24), type := 29, pos := "law.go:15", after := #[{ on := 13, ground := Ground.data }, { on := 13, ground := Ground.chain }, { on := 0, ground := Ground.phase }, { on := 1, ground := Ground.phase }, { on := 2, ground := Ground.phase }, { on := 3, ground := Ground.phase }, { on := 4, ground := Ground.phase }, { on := 5, ground := Ground.phase }, { on := 6, ground := Ground.phase }, { on := 7, ground := Ground.phase }, { on := 8, ground := Ground.phase }, { on := 9, ground := Ground.phase }, { on := 10, ground := Ground.phase }, { on := 11, ground := Ground.phase }, { on := 12, ground := Ground.phase }, { on := 13, ground := Ground.phase }], guard := none }) (v := ?_) rfl (by kernel_rfl) (by kernel_rfl) (by kernel_rfl) (fun _ _ _ h => h) (Or.inl ⟨by rfl, ?_⟩) (by assumption) ?_
      rotate_left
      · (intro w hSw; (try dsimp only at hSw); go_simp; try with_reducible rfl)
      try simp only [Act.put, List.setIfInBounds_toArray, List.set_cons_zero, List.set_cons_succ]
      refine wpAnyH_done (by kernel_rfl) ?_ _
      refine NoPanic.normal ?_
      go_wp2_with fail
      exact ⟨⟨i + 1, by omega, rfl, O5.out, B5.out⟩, by simp [intOf]; omega⟩
    · obtain rfl : i = n := by omega
      have hD : decide ((i : Int) < i) = false := by simp
      have hD' : decide (i < i) = false := by simp
      have hT : cs.take i = cs := List.take_of_length_le (by rw [HC.out.len]; omega)
      have HO2 := HO.out
      rw [hT] at HO2
      have HO3 := Lib.hid HO2
      clear HO2 hT
      go_wp2_with fail
      go_ret
      exact ⟨_, rfl, HO3.out, HB.out⟩
end Go.Proofs
end
