/-
  Texts of a proof over the translated program: proved evaluators and walks, part 6 of 14.
-/
import Derived.Test.YtfblhcphbcghpaaPartM5
import Derived.Below
import Derived.Deep.Cut
import Derived.Deep.RegionHeld3
import Derived.Deep.RegionWith
import Derived.Handy
import Derived.IntWalk
import Derived.Laws.BitsLemmas
import Derived.Laws.BytesArg
import Derived.Laws.BytesString
import Derived.Laws.Closers25b
import Derived.Laws.MakeOwn
import Derived.Lib.Hide
import Derived.Lib.SlBytesRow
import Derived.LoopTactic
import Derived.Outline
import Derived.OwnWalk
import Derived.Scope
import Derived.ScopeJumps
import Derived.Test.YtfblhcphbcghpaaProg
import Derived.WalkKit
import Derived.WalkMore
import Derived.WalkSpells
set_option linter.unusedVariables false
set_option linter.unusedSimpArgs false
set_option linter.unusedSectionVars false
set_option linter.unnecessarySimpa false
section
namespace Go.Proofs.Ytfblhcphbcghpaa
open Go.RowKit
set_option maxRecDepth 100000
theorem dec_ne {a b : Int} (h : a ≠ b) : decide (a = b) = false := by simpa using h
theorem Try.rerr {w : World} {b : Nat} {A : Option Addr} {n c : Nat} {f p e : Int} (h : RB w b A n c f p e) :
    Calls Try.prog 35 #[.pointer (some ⟨b, 0, none⟩)] w fun x w' => x = .returned (.int .i64 e) ∧ w' = w := by
  have h3 := h.c3
  go_enter Try.func35, Try.ntmps35
  go_wp2_with fail
  go_ret
  exact ⟨rfl, rfl⟩
theorem RB.heap {w w' : World} {b : Nat} {A : Option Addr} {n c : Nat} {f p e : Int} (h : RB w b A n c f p e) (k : w.heap = w'.heap) : RB w' b A n c f p e := by unfold RB; rw [← k]; exact h
theorem DI.grown {W w w' : World} {A : Option Addr} {n c : Nat} {l : List UInt8} (h : DI W A n c l) (hb : Below W.heap.size W w) : DI w A n c l := h.below hb
structure RdIn (W w : World) (b : Nat) (A : Option Addr) (n c : Nat) (l : List UInt8) (f : Int) (p : Nat) (e : Int) : Prop where
  rb : RB w b A n c f p e
  di : DI W A n c l
  bel : Below W.heap.size W w
  box : W.heap.size ≤ b
  hn : n ≤ 60000
  hp : p ≤ n
theorem RdIn.len {W w : World} {b : Nat} {A : Option Addr} {n c : Nat} {l : List UInt8} {f : Int} {p : Nat} {e : Int} (h : RdIn W w b A n c l f p e) : p ≤ l.length := by rw [h.di.len]; exact h.hp
theorem RdIn.dat {W w : World} {b : Nat} {A : Option Addr} {n c : Nat} {l : List UInt8} {f : Int} {p : Nat} {e : Int} (h : RdIn W w b A n c l f p e) : DI w A n c l := h.di.below h.bel
theorem RdIn.next {W w w' : World} {b : Nat} {A : Option Addr} {n c : Nat} {l : List UInt8} {f : Int} {p : Nat} {e : Int} (h : RdIn W w b A n c l f p e) {p' : Nat} {e' : Int} (hr : Rd w b A n c f p' e' w') (hp : p' ≤ n) : RdIn W w' b A n c l f p' e' :=
  ⟨hr.1, h.di, h.bel.grown hr.2 h.bel.size (fun k hk => by cases hk; exact h.box), h.box, h.hn, hp⟩
theorem wrapu {x : Int} (h0 : 0 ≤ x) (h : x < 18446744073709551616) : IntKind.u64.wrap x = x := by rw [IntKind.wrap_u64]; omega
theorem wrapi {x : Int} (h0 : -9223372036854775808 ≤ x) (h : x < 9223372036854775808) : IntKind.i64.wrap x = x := by rw [IntKind.wrap_i64]; omega
theorem grown_drew (w : World) (r : Option Nat) : w.grownBy w.drew r := ⟨rfl, rfl, rfl, Nat.le_refl _, fun _ _ _ => rfl⟩
theorem addr_add (X : Addr) (p j : Nat) : (X.add p).add j = X.add (p + j) := Addr.add_add X p j
theorem own_below {w w' : World} {B : Nat} {e : TypeId} {size : Nat} {v : Value} {n : Nat} {xs : List Value} (h : w.ownsRow B e size v n xs) (hb : Below w.heap.size w w') : w'.ownsRow B e size v n xs := by
  refine ⟨h.1, ?_⟩
  rcases h.2 with q | ⟨g, cap, cur, rfl, q, hg, r⟩
  · exact .inl q
  · exact .inr ⟨g, cap, cur, rfl, q, (hb.block g (by by_cases hx : g < w.heap.size; exact hx; rw [Array.getElem?_eq_none (by omega)] at hg; cases hg)).trans hg, r⟩
theorem DI.str {w : World} {A : Option Addr} {n c : Nat} {l : List UInt8} (h : DI w A n c l) (X : Addr) (hX : A = some X) (p U m : Nat) (hp : p + U ≤ n) : (convert 50 9 (.slice (some (X.add p)) U m)).run Try.prog w = .ok (.string (strOf ((l.drop p).take U))) w := by
  have hl := h.len
  refine str_arg (fun j u hu => ?_) U m (by rw [List.length_take, List.length_drop]; omega)
  rw [List.getElem?_map] at hu
  obtain ⟨x, hx, rfl⟩ := Option.map_eq_some_iff.1 hu
  rw [List.getElem?_take] at hx
  split at hx
  · rw [List.getElem?_drop] at hx
    obtain ⟨X', e, hc⟩ := h.at' _ _ hx
    rw [hX] at e
    cases e
    rw [addr_add]
    exact hc
  · cases hx
def NewR (w : World) (A : Option Addr) (n c : Nat) (a e : Int) (x : Ending) (w' : World) : Prop := ∃ b, x = .returned (.pointer (some ⟨b, 0, none⟩)) ∧ w.heap.size ≤ b ∧ RB w' b A n c a a e ∧ Below w.heap.size w w'
theorem Try.rnew (w : World) (A : Option Addr) (n c : Nat) (a e : Int) (hn : n ≤ 60000) (he : (if 0 ≤ a ∧ a ≤ n then 0 else 1) = e) :
    Calls Try.prog 30 #[.slice A n c, .int .i64 a] w (NewR w A n c a e) := by
  by_cases h0 : a < 0
  · have g1 : decide (a < 0) = true := by simpa using h0
    have HE : Hid (e = 1) := Lib.hid (by rw [← he, if_neg]; omega)
    clear he h0
    go_enter Try.func30, Try.ntmps30
    go_wp2_with fail
    go_ret
    have := HE.out
    subst this
    exact ⟨_, rfl, Nat.le_refl _, heap_alloc_new w _, (Below.refl _ w).alloc (Nat.le_refl _) _⟩
  · have g1 : decide (a < 0) = false := by simpa using h0
    by_cases h1 : (n : Int) < a
    · have g2 : decide ((n : Int) < a) = true := by simpa using h1
      have HE : Hid (e = 1) := Lib.hid (by rw [← he, if_neg]; omega)
      clear he h0 h1
      go_enter Try.func30, Try.ntmps30
      go_wp2_with fail
      go_ret
      have := HE.out
      subst this
      exact ⟨_, rfl, Nat.le_refl _, heap_alloc_new w _, (Below.refl _ w).alloc (Nat.le_refl _) _⟩
    · have g2 : decide ((n : Int) < a) = false := by simpa using h1
      have HE : Hid (e = 0) := Lib.hid (by rw [← he, if_pos]; omega)
      clear he h0 h1
      go_enter Try.func30, Try.ntmps30
      go_wp2_with fail
      go_ret
      have := HE.out
      subst this
      exact ⟨_, rfl, Nat.le_refl _, heap_alloc_new w _, (Below.refl _ w).alloc (Nat.le_refl _) _⟩
theorem Try.rnum_no {w : World} {b : Nat} {A : Option Addr} {n c : Nat} {f p e : Int} (h : RB w b A n c f p e) (he : Hid (e ≠ 0)) :
    Calls Try.prog 31 #[.pointer (some ⟨b, 0, none⟩)] w fun y w' => y = .returned (.int .u64 0) ∧ w' = w := by
  have h3 := h.c3
  have g := dec_ne he.out
  have g' : (e == 0) = false := by simpa using he.out
  have key : Calls Try.prog 61 #[.pointer (some ⟨b, 0, none⟩), .func (.func 62) #[] #[]] w fun y w' => y = .returned (.int .u64 0) ∧ w' = w := by
    go_enter Try.func61, Try.ntmps61
    go_wp2_with fail
    go_ret
    exact ⟨rfl, rfl⟩
  have K := Lib.hid key
  clear key h3 g g'
  go_enter Try.func31, Try.ntmps31
  go_wp2_with fail
  refine (K.out).mono ?_
  rintro y w' ⟨rfl, rfl⟩
  go_wp2_with fail
  go_ret
  exact ⟨rfl, rfl⟩
end Go.Proofs.Ytfblhcphbcghpaa
end

section
namespace Go.Proofs.Ytfblhcphbcghpaa
open Go.RowKit
set_option maxRecDepth 100000
set_option maxHeartbeats 4000000 in
theorem Try.rof {W w : World} {b : Nat} {A : Option Addr} {n c : Nat} {l : List UInt8} {f : Int} {p : Nat} {e : Int} (h : RdIn W w b A n c l f p e) :
    Calls Try.prog 61 #[.pointer (some ⟨b, 0, none⟩), .func (.func 62) #[] #[]] w fun y w' => y = .returned (.int .u64 (rnum l p e).1) ∧ Rd w b A n c f (rnum l p e).2.1 (rnum l p e).2.2 w' := by
  have h3 := h.rb.c3
  have h2 := h.rb.c2
  have h0 := h.rb.c0
  have hf2 := frozen_of_row w b 2 _ 138 h.rb
  have hf3 := frozen_of_row w b 3 _ 138 h.rb
  obtain ⟨R, hR⟩ : ∃ R, rnum l p e = R := ⟨_, rfl⟩
  rw [hR]
  have HB := Lib.hid h
  have HQ := Lib.hid hR
  clear h hR
  by_cases he : e = 0
  · subst he
    obtain ⟨g, hg⟩ : ∃ g, getN l p = g := ⟨_, rfl⟩
    have HG := Lib.hid hg
    clear hg
    go_enter Try.func61, Try.ntmps61
    go_wp2_with fail
    refine wp_region_noPanic ?_
    refine wp_region_held_drew (S := (fun W => W.cell? ⟨b, 0, none⟩ = some (.slice A n c) ∧ W.cell? ⟨b, 2, none⟩ = some (.int .i64 p))) (by kernel_rfl) ?_ (fun hHeld => ?_)
    · exact ⟨h0, h2⟩
    refine wpAnyH_take (i := 0) (oi := { dst := some 16, op := Op.move (Operand.tmp 1), type := 140, pos := "read.go:89", after := #[], guard := none }) (v := ?_) rfl (by kernel_rfl) (by kernel_rfl) (by kernel_rfl) (fun _ _ _ h => h) (Or.inl ⟨by rfl, ?_⟩) (by assumption) ?_
    rotate_left
    · (intro w hSw; (try dsimp only at hSw); go_simp; try with_reducible rfl)
    try simp only [Act.put, List.setIfInBounds_toArray, List.set_cons_zero, List.set_cons_succ]
    refine wpAnyH_take (i := 1) (oi := { dst := some 17, op := Op.move (Operand.tmp 0), type := 90, pos := "read.go:89", after := #[], guard := none }) (v := ?_) rfl (by kernel_rfl) (by kernel_rfl) (by kernel_rfl) (fun _ _ _ h => h) (Or.inl ⟨by rfl, ?_⟩) (by assumption) ?_
    rotate_left
    · (intro w hSw; (try dsimp only at hSw); go_simp; try with_reducible rfl)
    try simp only [Act.put, List.setIfInBounds_toArray, List.set_cons_zero, List.set_cons_succ]
    refine wpAnyH_take (i := 2) (oi := { dst := some 18, op := Op.nilCheck (Operand.tmp 17), type := 0, pos := "read.go:89", after := #[{ on := 1, ground := Ground.data }], guard := none }) (v := ?_) rfl (by kernel_rfl) (by kernel_rfl) (by kernel_rfl) (fun _ _ _ h => h) (Or.inl ⟨by rfl, ?_⟩) (by assumption) ?_
    rotate_left
    · (intro w hSw; (try dsimp only at hSw); go_simp; try with_reducible rfl)
    try simp only [Act.put, List.setIfInBounds_toArray, List.set_cons_zero, List.set_cons_succ]
    refine wpAnyH_take (i := 3) (oi := { dst := some 19, op := Op.fieldAddr 138 (Operand.tmp 18) 0, type := 0, pos := "read.go:89", after := #[{ on := 2, ground := Ground.data }], guard := none }) (v := ?_) rfl (by kernel_rfl) (by kernel_rfl) (by kernel_rfl) (fun _ _ _ h => h) (Or.inl ⟨by rfl, ?_⟩) (by assumption) ?_
    rotate_left
    · (intro w hSw; (try dsimp only at hSw); go_simp; try with_reducible rfl)
    try simp only [Act.put, List.setIfInBounds_toArray, List.set_cons_zero, List.set_cons_succ]
    refine wpAnyH_take (i := 4) (oi := { dst := some 20, op := Op.load 50 (Operand.tmp 19), type := 50, pos := "read.go:89", after := #[{ on := 3, ground := Ground.data }], guard := none }) (v := ?_) rfl (by kernel_rfl) (by kernel_rfl) (by kernel_rfl) (fun _ _ _ h => h) (Or.inl ⟨by rfl, ?_⟩) (by assumption) ?_
    rotate_left
    · (intro w hSw; (try dsimp only at hSw); go_simp; try with_reducible rfl)
    try simp only [Act.put, List.setIfInBounds_toArray, List.set_cons_zero, List.set_cons_succ]
    refine wpAnyH_take (i := 5) (oi := { dst := some 21, op := Op.move (Operand.tmp 0), type := 90, pos := "read.go:89", after := #[], guard := none }) (v := ?_) rfl (by kernel_rfl) (by kernel_rfl) (by kernel_rfl) (fun _ _ _ h => h) (Or.inl ⟨by rfl, ?_⟩) (by assumption) ?_
    rotate_left
    · (intro w hSw; (try dsimp only at hSw); go_simp; try with_reducible rfl)
    try simp only [Act.put, List.setIfInBounds_toArray, List.set_cons_zero, List.set_cons_succ]
    refine wpAnyH_take (i := 6) (oi := { dst := some 22, op := Op.nilCheck (Operand.tmp 21), type := 0, pos := "read.go:89", after := #[{ on := 5, ground := Ground.data }], guard := none }) (v := ?_) rfl (by kernel_rfl) (by kernel_rfl) (by kernel_rfl) (fun _ _ _ h => h) (Or.inl ⟨by rfl, ?_⟩) (by assumption) ?_
    rotate_left
    · (intro w hSw; (try dsimp only at hSw); go_simp; try with_reducible rfl)
    try simp only [Act.put, List.setIfInBounds_toArray, List.set_cons_zero, List.set_cons_succ]
    refine wpAnyH_take (i := 7) (oi := { dst := some 23, op := Op.fieldAddr 138 (Operand.tmp 22) 2, type := 0, pos := "read.go:89", after := #[{ on := 6, ground := Ground.data }], guard := none }) (v := ?_) rfl (by kernel_rfl) (by kernel_rfl) (by kernel_rfl) (fun _ _ _ h => h) (Or.inl ⟨by rfl, ?_⟩) (by assumption) ?_
    rotate_left
    · (intro w hSw; (try dsimp only at hSw); go_simp; try with_reducible rfl)
    try simp only [Act.put, List.setIfInBounds_toArray, List.set_cons_zero, List.set_cons_succ]
    refine wpAnyH_take (i := 8) (oi := { dst := some 24, op := Op.load 3 (Operand.tmp 23), type := 3, pos := "read.go:89", after := #[{ on := 7, ground := Ground.data }], guard := none }) (v := ?_) rfl (by kernel_rfl) (by kernel_rfl) (by kernel_rfl) (fun _ _ _ h => h) (Or.inl ⟨by rfl, ?_⟩) (by assumption) ?_
    rotate_left
    · (intro w hSw; (try dsimp only at hSw); go_simp; try with_reducible rfl)
    try simp only [Act.put, List.setIfInBounds_toArray, List.set_cons_zero, List.set_cons_succ]
    refine wpAnyH_ready (rs := [9]) (by kernel_rfl) (by simp) ?_
    refine AllReadyH.cons (o := { dst := some 25, op := Op.call { callee := Callee.value (Operand.tmp 16), args := #[Operand.tmp 20, Operand.tmp 24], argTypes := #[50, 3] }, type := 162, pos := "read.go:89", after := #[{ on := 0, ground := Ground.data }, { on := 4, ground := Ground.data }, { on := 8, ground := Ground.data }], guard := none }) rfl (fun K hK => ?_) AllReadyH.nil
    go_simp
    refine (Try.get _ ((HB.out).dat.below ((Below.refl _ w).drew)) (HB.out).hn p (HB.out).hp).mono ?_
    rintro x2 w2 ⟨rfl, rfl⟩
    rw [HG.out]
    refine hK.out _ _ ?_ (fun hHeld => ?_)
    · assumption
    clear hK K
    try simp only [Act.put, List.setIfInBounds_toArray, List.set_cons_zero, List.set_cons_succ]
    refine wpAnyH_take (i := 10) (oi := { dst := some 15, op := Op.move (Operand.tmp 25), type := 162, pos := "read.go:89", after := #[{ on := 9, ground := Ground.data }], guard := none }) (v := ?_) rfl (by kernel_rfl) (by kernel_rfl) (by kernel_rfl) (fun _ _ _ h => h) (Or.inl ⟨by rfl, ?_⟩) (by assumption) ?_
    rotate_left
    · (intro w hSw; (try dsimp only at hSw); go_simp; try with_reducible rfl)
    try simp only [Act.put, List.setIfInBounds_toArray, List.set_cons_zero, List.set_cons_succ]
    refine wpAnyH_take (i := 11) (oi := { dst := some 26, op := Op.extract (Operand.tmp 15) 0, type := 23, pos := "read.go:89", after := #[{ on := 10, ground := Ground.data }], guard := none }) (v := ?_) rfl (by kernel_rfl) (by kernel_rfl) (by kernel_rfl) (fun _ _ _ h => h) (Or.inl ⟨by rfl, ?_⟩) (by assumption) ?_
    rotate_left
    · (intro w hSw; (try dsimp only at hSw); go_simp; try with_reducible rfl)
    try simp only [Act.put, List.setIfInBounds_toArray, List.set_cons_zero, List.set_cons_succ]
    refine wpAnyH_take (i := 12) (oi := { dst := some 27, op := Op.extract (Operand.tmp 15) 1, type := 3, pos := "read.go:89", after := #[{ on := 10, ground := Ground.data }, { on := 14, ground := Ground.gcOnly Departure.lateStores }], guard := none }) (v := ?_) rfl (by kernel_rfl) (by kernel_rfl) (by kernel_rfl) (fun _ _ _ h => h) (Or.inl ⟨by rfl, ?_⟩) (by assumption) ?_
    rotate_left
    · (intro w hSw; (try dsimp only at hSw); go_simp; try with_reducible rfl)
    try simp only [Act.put, List.setIfInBounds_toArray, List.set_cons_zero, List.set_cons_succ]
    refine wpAnyH_take (i := 13) (oi := { dst := some 28, op := Op.extract (Operand.tmp 15) 2, type := 51, pos := "read.go:89", after := #[{ on := 10, ground := Ground.data }, { on := 15, ground := Ground.gcOnly Departure.lateStores }], guard := none }) (v := ?_) rfl (by kernel_rfl) (by kernel_rfl) (by kernel_rfl) (fun _ _ _ h => h) (Or.inl ⟨by rfl, ?_⟩) (by assumption) ?_
    rotate_left
    · (intro w hSw; (try dsimp only at hSw); go_simp; try with_reducible rfl)
    try simp only [Act.put, List.setIfInBounds_toArray, List.set_cons_zero, List.set_cons_succ]
    refine wpAnyH_take (i := 14) (oi := { dst := some 6, op := Op.assign (Operand.tmp 26), type := 23, pos := "read.go:89", after := #[{ on := 11, ground := Ground.data }, { on := 9, ground := Ground.chain }, { on := 0, ground := Ground.phase }, { on := 1, ground := Ground.phase }, { on := 2, ground := Ground.phase }, { on := 3, ground := Ground.phase }, { on := 4, ground := Ground.phase }, { on := 5, ground := Ground.phase }, { on := 6, ground := Ground.phase }, { on := 7, ground := Ground.phase }, { on := 8, ground := Ground.phase }, { on := 9, ground := Ground.phase }, { on := 10, ground := Ground.phase }, { on := 11, ground := Ground.phase }, { on := 12, ground := Ground.textOnly Departure.lateStores }, { on := 13, ground := Ground.textOnly Departure.lateStores }], guard := none }) (v := ?_) rfl (by kernel_rfl) (by kernel_rfl) (by kernel_rfl) (fun _ _ _ h => h) (Or.inl ⟨by rfl, ?_⟩) (by assumption) ?_
    rotate_left
    · (intro w hSw; (try dsimp only at hSw); go_simp; try with_reducible rfl)
    try simp only [Act.put, List.setIfInBounds_toArray, List.set_cons_zero, List.set_cons_succ]
    refine wpAnyH_take (i := 15) (oi := { dst := some 7, op := Op.assign (Operand.tmp 27), type := 3, pos := "read.go:89", after := #[{ on := 12, ground := Ground.data }, { on := 14, ground := Ground.chain }, { on := 0, ground := Ground.phase }, { on := 1, ground := Ground.phase }, { on := 2, ground := Ground.phase }, { on := 3, ground := Ground.phase }, { on := 4, ground := Ground.phase }, { on := 5, ground := Ground.phase }, { on := 6, ground := Ground.phase }, { on := 7, ground := Ground.phase }, { on := 8, ground := Ground.phase }, { on := 9, ground := Ground.phase }, { on := 10, ground := Ground.phase }, { on := 11, ground := Ground.phase }, { on := 12, ground := Ground.phase }, { on := 13, ground := Ground.textOnly Departure.lateStores }, { on := 14, ground := Ground.phase }], guard := none }) (v := ?_) rfl (by kernel_rfl) (by kernel_rfl) (by kernel_rfl) (fun _ _ _ h => h) (Or.inl ⟨by rfl, ?_⟩) (by assumption) ?_
    rotate_left
    · (intro w hSw; (try dsimp only at hSw); go_simp; try with_reducible rfl)
    try simp only [Act.put, List.setIfInBounds_toArray, List.set_cons_zero, List.set_cons_succ]
    refine wpAnyH_take (i := 16) (oi := { dst := some 8, op := Op.assign (Operand.tmp 28), type := 51, pos := "read.go:89", after := #[{ on := 13, ground := Ground.data }, { on := 15, ground := Ground.chain }, { on := 0, ground := Ground.phase }, { on := 1, ground := Ground.phase }, { on := 2, ground := Ground.phase }, { on := 3, ground := Ground.phase }, { on := 4, ground := Ground.phase }, { on := 5, ground := Ground.phase }, { on := 6, ground := Ground.phase }, { on := 7, ground := Ground.phase }, { on := 8, ground := Ground.phase }, { on := 9, ground := Ground.phase }, { on := 10, ground := Ground.phase }, { on := 11, ground := Ground.phase }, { on := 12, ground := Ground.phase }, { on := 13, ground := Ground.phase }, { on := 14, ground := Ground.phase }, { on := 15, ground := Ground.phase }], guard := none }) (v := ?_) rfl (by kernel_rfl) (by kernel_rfl) (by kernel_rfl) (fun _ _ _ h => h) (Or.inl ⟨by rfl, ?_⟩) (by assumption) ?_
    rotate_left
    · (intro w hSw; (try dsimp only at hSw); go_simp; try with_reducible rfl)
    try simp only [Act.put, List.setIfInBounds_toArray, List.set_cons_zero, List.set_cons_succ]
    refine wpAnyH_done (by kernel_rfl) ?_ _
    refine NoPanic.normal ?_
    obtain ⟨wd, hwd⟩ : ∃ wd, w.drew = wd := ⟨_, rfl⟩
    have RBd : RB wd b A n c f p 0 := (HB.out).rb.heap (by rw [← hwd]; rfl)
    have GRd : w.grownBy wd (some b) := by rw [← hwd]; exact ⟨rfl, rfl, rfl, Nat.le_refl _, fun _ _ _ => rfl⟩
    rw [hwd]
    clear h3 h2 h0 hf2 hf3 hHeld hwd
    have h2 := RBd.c2
    have h3 := RBd.c3
    have hf2 := frozen_of_row wd b 2 _ 138 RBd
    have hf3 := frozen_of_row wd b 3 _ 138 RBd
    have HRB := Lib.hid RBd
    have HGR := Lib.hid GRd
    have hok := getN_ok l p
    rw [HG.out] at hok
    clear RBd GRd
    by_cases hg0 : g.2.2 = 0
    · have hin := hok.ok hg0
      have HE : Hid (R = (g.1, p + g.2.1, 0)) := Lib.hid (by have := HQ.out; unfold rnum at this; rw [if_pos rfl, HG.out, if_pos hg0] at this; exact this.symm)
      have g1 : (g.2.2 == 0) = true := by simpa using hg0
      have g2 : decide (g.2.2 = 0) = true := by simpa using hg0
      have hlen := (HB.out).len
      have hnn := (HB.out).hn
      have hln := (HB.out).di.len
      have s1 : IntKind.i64.wrap ((p : Int) + g.2.1) = ((p + g.2.1 : Nat) : Int) := by rw [wrapi (by omega) (by omega)]; omega
      clear hok hg0
      go_wp2_with fail
      go_ret
      have := HE.out
      subst this
      exact ⟨rfl, (HRB.out).set2 ((p + g.2.1 : Nat) : Int), grown_trans HGR.out (grown_set _ _ _ _)⟩
    · have HE : Hid (R = (0, p, g.2.2)) := Lib.hid (by have := HQ.out; unfold rnum at this; rw [if_pos rfl, HG.out, if_neg hg0] at this; exact this.symm)
      have g1 : (g.2.2 == 0) = false := by simpa using hg0
      have g2 : decide (g.2.2 = 0) = false := by simpa using hg0
      clear hok hg0
      go_wp2_with fail
      go_ret
      have := HE.out
      subst this
      exact ⟨rfl, (HRB.out).set3 _, grown_trans HGR.out (grown_set _ _ _ _)⟩
  · have g := dec_ne he
    have g' : (e == 0) = false := by simpa using he
    have HE : Hid (R = (0, p, e)) := Lib.hid (by have := HQ.out; unfold rnum at this; rw [if_neg he] at this; exact this.symm)
    clear he
    go_enter Try.func61, Try.ntmps61
    go_wp2_with fail
    go_ret
    have := HE.out
    subst this
    exact ⟨rfl, HB.out.rb, grown_refl _ _⟩
theorem Try.rnum {W w : World} {b : Nat} {A : Option Addr} {n c : Nat} {l : List UInt8} {f : Int} {p : Nat} {e : Int} (h : RdIn W w b A n c l f p e) :
    Calls Try.prog 31 #[.pointer (some ⟨b, 0, none⟩)] w fun y w' => y = .returned (.int .u64 (rnum l p e).1) ∧ Rd w b A n c f (rnum l p e).2.1 (rnum l p e).2.2 w' := by
  have HB := Lib.hid h
  clear h
  go_enter Try.func31, Try.ntmps31
  go_wp2_with fail
  refine (Try.rof HB.out).mono ?_
  rintro y w' ⟨rfl, hR⟩
  have HR := Lib.hid hR
  clear hR
  go_wp2_with fail
  go_ret
  exact ⟨rfl, HR.out⟩
end Go.Proofs.Ytfblhcphbcghpaa
end
