/-
  Texts of a proof over the translated program: proved evaluators and walks, part 13 of 17.
-/
import Derived.Test.YtcmjccjbgidinaaPart12
import Derived.Below
import Derived.Deep.RegionHeld3
import Derived.Deep.RegionLaw
import Derived.Deep.RegionLawGrows
import Derived.Deep.RegionWith
import Derived.Handy
import Derived.IntWalk
import Derived.Laws.CopyOwn
import Derived.Laws.MakeOwn
import Derived.Lib.Hide
import Derived.Lib.SlBytesRow
import Derived.LoopTactic
import Derived.Outline
import Derived.OwnWalk
import Derived.Scope
import Derived.Test.YtcmjccjbgidinaaProg
import Derived.WalkKit
import Derived.WalkSpells
set_option linter.unusedVariables false
set_option linter.unusedSimpArgs false
set_option linter.unusedSectionVars false
set_option linter.unnecessarySimpa false
section
namespace Go.Proofs
open Go.RowKit
set_option maxRecDepth 100000
theorem own_at {W : World} {B g : Nat} {e : TypeId} {size : Nat} (hg : W.heap[g]? = some (.cells #[] e (0, 0))) (hb : B ≤ g) : W.ownsRow B e size (.slice (some ⟨g, 0, none⟩) 0 0) 0 [] :=
  ⟨by simp, .inr ⟨g, 0, #[], rfl, hb, hg, Nat.le_refl _, Nat.zero_le _, by simp, by simp⟩⟩
theorem step_app_at {P : Program} {W : World} {ops : Array Oper} {o : Oper} {a : Act} {K : Act → World → Prop} {Q : Exit → Act → World → Prop} {E : Prop} (hgd : o.guard = none) (s x : Operand)
    (hop : o.op = Op.call { callee := Callee.builtin Builtin.append, args := #[s, x], argTypes := #[31, 31] }) (ht : P.underlying 31 = some (.slice 5)) (hq : (P.info? 5).map (fun i => (i.zero, i.size, i.bytes)) = some (some (.int .u8 0), 1, 1))
    (B g : Nat) (hB : B ≤ W.heap.size) (hg : W.heap[g]? = some (.cells #[] 5 (0, 0))) (hb : B ≤ g) (A : Addr) (n m : Nat) (l : List UInt8) (hs : a.eval s = .slice (some ⟨g, 0, none⟩) 0 0) (hx : a.eval x = .slice (some A) n m) (hl : l.length = n) (hn : n ≤ 65536) (hc : ∀ j u, (l.map u8v)[j]? = some u → W.cell? (A.add j) = some u)
    (hK : ∀ b c w1, B ≤ b → n ≤ c → BY w1 b l c → Chg W w1 (· = g) → K (a.put o.dst (.slice (some ⟨b, 0, none⟩) n c)) w1) : if Region.wanted o (yielded ops a.tmps) = true then Oper.wp P o a W K Q else E := by
  have hw : Region.wanted o (yielded ops a.tmps) = true := by simp [Region.wanted, hgd]
  rw [if_pos hw]
  obtain ⟨i0, hi, hz0, hz1, hz2⟩ := info_parts hq
  obtain ⟨v, w1, r1, r2, r3, r4⟩ := run_append_own (P := P) W B 31 o.type 5 i0 (.int .u8 0) 1 1 ht hi hz0 hz1 hz2 rfl (by decide) _ _ _ (own_at hg hb) A n m (l.map u8v) (by simp [hl]) hc (u8v_one l) (by unfold maxLen; omega) (by omega) hB
  have hv : v ≠ .slice none 0 0 := fun q => by have := (r4.1 q).1; simp at this
  rw [Nat.zero_add, List.nil_append] at r2
  obtain ⟨_, b, c, rfl, h2, h3, h4⟩ := BY.own r2 hv
  unfold Oper.wp
  simp [execOp, hop, resolve, invoke, builtin, hs, hx, r1, Result.andThen]
  exact hK b c w1 h2 h3 h4 ⟨r3.os, r3.tape, r3.output, r3.size, fun k hk hn => r3.block k hk (by simp [Value.ownBlock]; exact hn)⟩
theorem wCells_one (Q : List (Nat × List UInt8)) (ds : List (Nat × Nat)) : ∀ u ∈ wCells Q ds, u.oneCell' = true := by
  induction Q generalizing ds with
  | nil => intro u hu; simp [wCells] at hu
  | cons q Q ih =>
    cases ds with
    | nil => intro u hu; simp [wCells] at hu
    | cons x ds =>
      intro u hu
      simp only [wCells, List.mem_cons] at hu
      rcases hu with rfl | rfl | hu
      · rfl
      · rfl
      · exact ih ds u hu
theorem wCells_len : ∀ (Q : List (Nat × List UInt8)) (ds : List (Nat × Nat)), Q.length = ds.length → (wCells Q ds).length = Q.length * 2
  | [], [], _ => rfl
  | q :: Q, x :: ds, h => by simp [wCells, wCells_len Q ds (by simpa using h)]; omega
  | [], _ :: _, h => by simp at h
  | _ :: _, [], h => by simp at h
theorem step_waits_at {P : Program} {W : World} {ops : Array Oper} {o : Oper} {a : Act} {K : Act → World → Prop} {Q' : Exit → Act → World → Prop} {E : Prop} (hgd : o.guard = none) (s x : Operand)
    (hop : o.op = Op.call { callee := Callee.builtin Builtin.append, args := #[s, x], argTypes := #[58, 58] }) (ht : P.underlying 58 = some (.slice 76)) (hq : (P.info? 76).map (fun i => (i.zero, i.size, i.bytes)) = some (some (.agg #[.int .i64 0, .slice none 0 0]), 2, 32))
    (B g : Nat) (hB : B ≤ W.heap.size) (hg : W.heap[g]? = some (.cells #[] 76 (0, 0))) (hb : B ≤ g) (A : Option Addr) (wc : Nat) (Q : List (Nat × List UInt8)) (ds : List (Nat × Nat)) (hlen : Q.length = ds.length) (hs : a.eval s = .slice (some ⟨g, 0, none⟩) 0 0) (hx : a.eval x = .slice A Q.length wc) (hn : Q.length ≤ 1000000)
    (hA : (A = none ∧ Q = [] ∧ wc = 0) ∨ ∃ b, A = some ⟨b, 0, none⟩ ∧ ∀ i u, (wCells Q ds)[i]? = some u → W.cell? ⟨b, i, none⟩ = some u)
    (hK : ∀ b c w1, B ≤ b → b < w1.heap.size → Q.length ≤ c → (∀ i u, (wCells Q ds)[i]? = some u → w1.cell? ⟨b, i, none⟩ = some u) → Chg W w1 (· = g) → K (a.put o.dst (.slice (some ⟨b, 0, none⟩) Q.length c)) w1) : if Region.wanted o (yielded ops a.tmps) = true then Oper.wp P o a W K Q' else E := by
  have hw : Region.wanted o (yielded ops a.tmps) = true := by simp [Region.wanted, hgd]
  rw [if_pos hw]
  obtain ⟨i0, hi, hz0, hz1, hz2⟩ := info_parts hq
  have hown := own_at (e := 76) (size := 2) hg hb
  rcases hA with ⟨rfl, rfl, rfl⟩ | ⟨wb, rfl, hcells⟩
  · have hrun := run_append_owned_none (P := P) W B 58 o.type 76 i0 2 ht hi _ _ _ hown
    unfold Oper.wp
    simp only [List.length_nil] at hx
    simp [execOp, hop, resolve, invoke, builtin, hs, hx, hrun, Result.andThen]
    exact hK g 0 W hb (Array.getElem?_eq_some_iff.1 hg).1 (Nat.le_refl _) (fun i u hu => by simp [wCells] at hu) (Chg.refl _ _)
  · obtain ⟨v, w1, r1, r2, r3, r4⟩ := run_append_own (P := P) W B 58 o.type 76 i0 (.agg #[.int .i64 0, .slice none 0 0]) 2 32 ht hi hz0 hz1 hz2 rfl (by decide) _ _ _ hown ⟨wb, 0, none⟩ Q.length wc (wCells Q ds) (wCells_len _ _ hlen) (fun j u hu => by rw [add_none, Nat.zero_add]; exact hcells j u hu) (wCells_one Q ds) (by unfold maxLen; omega) (by omega) hB
    have hv : v ≠ .slice none 0 0 := fun q => by have := (r4.1 q).1; simp at this
    rw [Nat.zero_add, List.nil_append] at r2
    rcases r2.2 with ⟨e, _⟩ | ⟨g2, cap, cur, e, hb2, hg2, hn2, _, _, ht2⟩
    · exact absurd e hv
    · subst e
      unfold Oper.wp
      simp [execOp, hop, resolve, invoke, builtin, hs, hx, r1, Result.andThen]
      exact hK g2 cap w1 hb2 (Array.getElem?_eq_some_iff.1 hg2).1 hn2 (fun i u hu => by have := r2.cells (g := g2) rfl i u hu; rwa [add_none, Nat.zero_add] at this) ⟨r3.os, r3.tape, r3.output, r3.size, fun k hk hn => r3.block k hk (by simp [Value.ownBlock]; exact hn)⟩
def RTwin (w : World) (k : Nat) (D : List UInt8) (Q : List (Nat × List UInt8)) (m' : Nat) (w' : World) : Prop := ∃ F' db dc A wc ds, RW w' F' m' k db dc A wc ds D Q ∧ w.heap.size ≤ m' ∧ Chg w w' (fun _ => False)
theorem rtwin_end {w w2 : World} {F : Nat → Prop} {m k db dc wc b1 c1 b2 c2 : Nat} {A : Option Addr} {ds : List (Nat × Nat)} {D : List UInt8} {Q : List (Nat × List UInt8)} (h : RW w F m k db dc A wc ds D Q)
    (hc : Chg w w2 (fun _ => False)) (h1 : w.heap.size ≤ b1) (hb1 : BY w2 b1 D c1) (hc1 : 64 * k ≤ c1) (h2 : w.heap.size ≤ b2) (hb2 : b2 < w2.heap.size) (hc2 : Q.length ≤ c2) (hcells : ∀ i u, (wCells Q ds)[i]? = some u → w2.cell? ⟨b2, i, none⟩ = some u) :
    RTwin w k D Q w2.heap.size (w2.alloc (.cells #[.slice (some ⟨b1, 0, none⟩) (64 * k) c1, .slice (some ⟨b2, 0, none⟩) Q.length c2] 60)) := by
  have s2 := hc.size
  have l1 := hb1.lt
  refine ⟨fun b => F b ∨ (w.heap.size ≤ b ∧ b ≤ w2.heap.size), b1, c1, some ⟨b2, 0, none⟩, c2, ds, ?_, s2, hc.trans (Chg.alloc _ _ _)⟩
  refine ⟨fun b hb => ?_, heap_alloc_new _ _, .inr ⟨by omega, Nat.le_refl _⟩, .inr ⟨h1, by omega⟩, by omega, h.hk, h.Dl, hb1.congr (Below.heap_alloc _ _ _ (by omega)), hc1, .inr ⟨b2, rfl, .inr ⟨h2, by omega⟩, by omega, hc2, fun i u hu => cellA (hcells i u hu) _⟩, ?_⟩
  · simp
    rcases hb with q | q
    · have := h.lt b q; omega
    · omega
  · refine AllW.stay (fun b q => .inl q) (fun b q1 q2 => ⟨?_, ?_⟩) _ _ h.al
    · have := h.lt b q1
      rw [Below.heap_alloc _ _ _ (by omega)]
      exact hc.block b this id
    · have := h.lt b q1
      simp; omega
set_option maxHeartbeats 2000000 in
theorem Try.rtwin {w : World} {F : Nat → Prop} {m k db dc wc : Nat} {A : Option Addr} {ds : List (Nat × Nat)} {D : List UInt8} {Q : List (Nat × List UInt8)} (h : RW w F m k db dc A wc ds D Q) (hQ : Q.length ≤ 1000000) :
    Calls Try.prog 48 #[.pointer (some ⟨m, 0, none⟩)] w fun e w' => ∃ m', e = .returned (.pointer (some ⟨m', 0, none⟩)) ∧ RTwin w k D Q m' w' := by
  have H := Lib.hid h
  have c0 := h.c0
  have c1 := h.c1
  have hk := h.hk
  have hkk : 64 * k ≤ 65536 := by omega
  have hml := h.lt m h.fm
  have hal : ∀ j u, (D.map u8v)[j]? = some u → w.cell? ((⟨db, 0, none⟩ : Addr).add j) = some u := h.bd.all
  have HAL := Lib.hid hal
  have HLEN := Lib.hid (AllW.len _ _ h.al)
  have HAW : Hid ((A = none ∧ Q = [] ∧ wc = 0) ∨ ∃ b, A = some ⟨b, 0, none⟩ ∧ ∀ i u, (wCells Q ds)[i]? = some u → w.cell? ⟨b, i, none⟩ = some u) := Lib.hid (by
    rcases h.aw with q | ⟨b, q1, q2, q3, q4, q5⟩
    · exact .inl q
    · exact .inr ⟨b, q1, q5⟩)
  clear h hal
  go_enter Try.func48, Try.ntmps48
  go_wp2
  refine wp_region_noPanic ?_
  refine wp_region_held_drew (S := (fun W => W.cell? ⟨m, 0, none⟩ = some (.slice (some ⟨db, 0, none⟩) (64 * k) dc) ∧ W.cell? ⟨m, 1, none⟩ = some (.slice A Q.length wc))) (by kernel_rfl) ?_ (fun hHeld => ?_)
  · exact ⟨c0, c1⟩
  refine wpAnyH_take (i := 1) (oi := { dst := some 4, op := Op.move (Operand.tmp 0), type := 28, pos := "ref.go:90", after := #[], guard := none }) (v := ?_) rfl (by kernel_rfl) (by kernel_rfl) (by kernel_rfl) (fun _ _ _ h => h) (Or.inl ⟨by rfl, ?_⟩) (by assumption) ?_
  rotate_left
  · (intro w hSw; (try dsimp only at hSw); go_simp; try with_reducible rfl)
  try simp only [Act.put, List.setIfInBounds_toArray, List.set_cons_zero, List.set_cons_succ]
  refine wpAnyH_take (i := 2) (oi := { dst := some 5, op := Op.nilCheck (Operand.tmp 4), type := 0, pos := "ref.go:90", after := #[{ on := 1, ground := Ground.data }], guard := none }) (v := ?_) rfl (by kernel_rfl) (by kernel_rfl) (by kernel_rfl) (fun _ _ _ h => h) (Or.inl ⟨by rfl, ?_⟩) (by assumption) ?_
  rotate_left
  · (intro w hSw; (try dsimp only at hSw); go_simp; try with_reducible rfl)
  try simp only [Act.put, List.setIfInBounds_toArray, List.set_cons_zero, List.set_cons_succ]
  refine wpAnyH_take (i := 3) (oi := { dst := some 6, op := Op.fieldAddr 60 (Operand.tmp 5) 0, type := 0, pos := "ref.go:90", after := #[{ on := 2, ground := Ground.data }], guard := none }) (v := ?_) rfl (by kernel_rfl) (by kernel_rfl) (by kernel_rfl) (fun _ _ _ h => h) (Or.inl ⟨by rfl, ?_⟩) (by assumption) ?_
  rotate_left
  · (intro w hSw; (try dsimp only at hSw); go_simp; try with_reducible rfl)
  try simp only [Act.put, List.setIfInBounds_toArray, List.set_cons_zero, List.set_cons_succ]
  refine wpAnyH_take (i := 4) (oi := { dst := some 7, op := Op.load 31 (Operand.tmp 6), type := 31, pos := "ref.go:90", after := #[{ on := 3, ground := Ground.data }], guard := none }) (v := ?_) rfl (by kernel_rfl) (by kernel_rfl) (by kernel_rfl) (fun _ _ _ h => h) (Or.inl ⟨by rfl, ?_⟩) (by assumption) ?_
  rotate_left
  · (intro w hSw; (try dsimp only at hSw); go_simp; try with_reducible rfl)
  try simp only [Act.put, List.setIfInBounds_toArray, List.set_cons_zero, List.set_cons_succ]
  refine wpAnyH_take (i := 7) (oi := { dst := some 10, op := Op.move (Operand.tmp 0), type := 28, pos := "ref.go:90", after := #[], guard := none }) (v := ?_) rfl (by kernel_rfl) (by kernel_rfl) (by kernel_rfl) (fun _ _ _ h => h) (Or.inl ⟨by rfl, ?_⟩) (by assumption) ?_
  rotate_left
  · (intro w hSw; (try dsimp only at hSw); go_simp; try with_reducible rfl)
  try simp only [Act.put, List.setIfInBounds_toArray, List.set_cons_zero, List.set_cons_succ]
  refine wpAnyH_take (i := 8) (oi := { dst := some 11, op := Op.nilCheck (Operand.tmp 10), type := 0, pos := "ref.go:90", after := #[{ on := 7, ground := Ground.data }], guard := none }) (v := ?_) rfl (by kernel_rfl) (by kernel_rfl) (by kernel_rfl) (fun _ _ _ h => h) (Or.inl ⟨by rfl, ?_⟩) (by assumption) ?_
  rotate_left
  · (intro w hSw; (try dsimp only at hSw); go_simp; try with_reducible rfl)
  try simp only [Act.put, List.setIfInBounds_toArray, List.set_cons_zero, List.set_cons_succ]
  refine wpAnyH_take (i := 9) (oi := { dst := some 12, op := Op.fieldAddr 60 (Operand.tmp 11) 1, type := 0, pos := "ref.go:90", after := #[{ on := 8, ground := Ground.data }], guard := none }) (v := ?_) rfl (by kernel_rfl) (by kernel_rfl) (by kernel_rfl) (fun _ _ _ h => h) (Or.inl ⟨by rfl, ?_⟩) (by assumption) ?_
  rotate_left
  · (intro w hSw; (try dsimp only at hSw); go_simp; try with_reducible rfl)
  try simp only [Act.put, List.setIfInBounds_toArray, List.set_cons_zero, List.set_cons_succ]
  refine wpAnyH_take (i := 10) (oi := { dst := some 13, op := Op.load 58 (Operand.tmp 12), type := 58, pos := "ref.go:90", after := #[{ on := 9, ground := Ground.data }], guard := none }) (v := ?_) rfl (by kernel_rfl) (by kernel_rfl) (by kernel_rfl) (fun _ _ _ h => h) (Or.inl ⟨by rfl, ?_⟩) (by assumption) ?_
  rotate_left
  · (intro w hSw; (try dsimp only at hSw); go_simp; try with_reducible rfl)
  try simp only [Act.put, List.setIfInBounds_toArray, List.set_cons_zero, List.set_cons_succ]
  refine wpAnyH_ready (rs := [0, 6]) (by kernel_rfl) (by simp) ?_
  refine AllReadyH.cons (o := { dst := some 3, op := Op.buildSlice 31 0 #[], type := 31, pos := "ref.go:90", after := #[], guard := none }) rfl (fun K hK => ?_) ?_
  · skip
    go_simp
    refine hK.out _ _ ?_ (fun hHeld => ?_)
    · exact ⟨cellA (w := w.drew) c0 _, cellA (w := w.drew) c1 _⟩
    clear hK K
    try simp only [Act.put, List.setIfInBounds_toArray, List.set_cons_zero, List.set_cons_succ]
    refine wpAnyH_ready (rs := [5, 6]) (by kernel_rfl) (by simp) ?_
    refine AllReadyH.cons (o := { dst := some 8, op := Op.call { callee := Callee.builtin Builtin.append, args := #[Operand.tmp 3, Operand.tmp 7], argTypes := #[31, 31] }, type := 31, pos := "ref.go:90", after := #[{ on := 0, ground := Ground.data }, { on := 4, ground := Ground.data }], guard := none }) rfl (fun K hK => ?_) ?_
    · skip
      have kW : Chg w (w.drew.alloc (.cells #[] 5)) (fun _ => False) := ((Chg.refl w (fun _ => False)).drew.trans (Chg.alloc w.drew _ _))
      refine step_app_at rfl (.tmp 3) (.tmp 7) rfl Try.underlying31 Try.info5 w.heap.size (w.heap.size) kW.size (heap_alloc_new w.drew _) (by exact Nat.le_refl _) ⟨db, 0, none⟩ (64 * k) dc D rfl rfl (H.out).Dl hkk (cells_of_eq HAL.out (fun q => kW.block db q id)) ?_
      intro b1 d1 w1 p1 p2 p3 p4
      have k1 : Chg w w1 (fun _ => False) := kW.trans' p4 (fun b hb e => by have : b = w.heap.size := e; (try simp at this); omega)
      have y1 : w1.cell? ⟨m, 0, none⟩ = some (.slice (some ⟨db, 0, none⟩) (64 * k) dc) ∧ w1.cell? ⟨m, 1, none⟩ = some (.slice A Q.length wc) := ⟨(World.cell?_of_block (w := w) (a := ⟨m, 0, none⟩) (k1.block m hml id)).trans c0, (World.cell?_of_block (w := w) (a := ⟨m, 1, none⟩) (k1.block m hml id)).trans c1⟩
      have P3 := Lib.hid p3
      have P4 := Lib.hid p4
      have K1 := Lib.hid k1
      clear p3 p4 k1 kW
      refine hK.out _ _ ?_ (fun hHeld => ?_)
      · exact y1
      clear hK K
      try simp only [Act.put, List.setIfInBounds_toArray, List.set_cons_zero, List.set_cons_succ]
      refine wpAnyH_ready (rs := [6]) (by kernel_rfl) (by simp) ?_
      refine AllReadyH.cons (o := { dst := some 9, op := Op.buildSlice 58 0 #[], type := 58, pos := "ref.go:90", after := #[], guard := none }) rfl (fun K hK => ?_) ?_
      · skip
        go_simp
        refine hK.out _ _ ?_ (fun hHeld => ?_)
        · exact ⟨cellA y1.1 _, cellA y1.2 _⟩
        clear hK K
        try simp only [Act.put, List.setIfInBounds_toArray, List.set_cons_zero, List.set_cons_succ]
        refine wpAnyH_ready (rs := [11]) (by kernel_rfl) (by simp) ?_
        refine AllReadyH.cons (o := { dst := some 14, op := Op.call { callee := Callee.builtin Builtin.append, args := #[Operand.tmp 9, Operand.tmp 13], argTypes := #[58, 58] }, type := 58, pos := "ref.go:90", after := #[{ on := 6, ground := Ground.data }, { on := 10, ground := Ground.data }, { on := 5, ground := Ground.chain }], guard := none }) rfl (fun K hK => ?_) ?_
        · skip
          have kW : Chg w (w1.alloc (.cells #[] 76)) (fun _ => False) := (K1.out).trans (Chg.alloc _ _ _)
          refine step_waits_at rfl (.tmp 9) (.tmp 13) rfl Try.underlying58 Try.info76 w.heap.size (w1.heap.size) kW.size (heap_alloc_new _ _) (by have := (K1.out).size; omega) A wc Q ds HLEN.out rfl rfl hQ (by
            rcases HAW.out with q | ⟨b, q1, q2⟩
            · exact .inl q
            · exact .inr ⟨b, q1, fun i u hu => (World.cell?_of_block (w := w) (a := ⟨b, i, none⟩) (kW.block b (block_lt_of_cell (q2 i u hu)) id)).trans (q2 i u hu)⟩) ?_
          intro b2 d2 w2 s1 s2 s3 s4 s5
          have k2 : Chg w w2 (fun _ => False) := kW.trans' s5 (fun b hb e => by have : b = w1.heap.size := e; have := kW.size; have := (K1.out).size; omega)
          have y2 : w2.cell? ⟨m, 0, none⟩ = some (.slice (some ⟨db, 0, none⟩) (64 * k) dc) ∧ w2.cell? ⟨m, 1, none⟩ = some (.slice A Q.length wc) := ⟨(World.cell?_of_block (w := w) (a := ⟨m, 0, none⟩) (k2.block m hml id)).trans c0, (World.cell?_of_block (w := w) (a := ⟨m, 1, none⟩) (k2.block m hml id)).trans c1⟩
          have PB : BY w2 b1 D d1 := (P3.out).congr (by rw [s5.block b1 (by have := (P3.out).lt; simp; omega) (fun e => by have := (P3.out).lt; omega)]; exact Below.heap_alloc _ _ _ (P3.out).lt)
          have HT := Lib.hid (rtwin_end H.out k2 p1 PB p2 s1 s2 s3 s4)
          have y3 : ∀ o, (w2.alloc o).cell? ⟨m, 0, none⟩ = some (.slice (some ⟨db, 0, none⟩) (64 * k) dc) ∧ (w2.alloc o).cell? ⟨m, 1, none⟩ = some (.slice A Q.length wc) := fun o => ⟨cellA y2.1 o, cellA y2.2 o⟩
          clear PB k2 kW s4 s5
          refine hK.out _ _ ?_ (fun hHeld => ?_)
          · exact y2
          clear hK K
          try simp only [Act.put, List.setIfInBounds_toArray, List.set_cons_zero, List.set_cons_succ]
          refine wpAnyH_take (i := 12) (oi := { dst := some 15, op := Op.build 60 #[(0, Operand.tmp 8), (1, Operand.tmp 14)], type := 60, pos := "ref.go:90", after := #[{ on := 5, ground := Ground.data }, { on := 11, ground := Ground.data }], guard := none }) (v := ?_) rfl (by kernel_rfl) (by kernel_rfl) (by kernel_rfl) (fun _ _ _ h => h) (Or.inl ⟨by rfl, ?_⟩) (by assumption) ?_
          rotate_left
          · (intro w hSw; (try dsimp only at hSw); go_simp; try with_reducible rfl)
          try simp only [Act.put, List.setIfInBounds_toArray, List.set_cons_zero, List.set_cons_succ]
          refine wpAnyH_ready (rs := [13]) (by kernel_rfl) (by simp) ?_
          refine AllReadyH.cons (o := { dst := some 16, op := Op.box 60 (Operand.tmp 15), type := 28, pos := "ref.go:90", after := #[{ on := 12, ground := Ground.data }], guard := none }) rfl (fun K hK => ?_) ?_
          · skip
            go_simp
            refine hK.out _ _ ?_ (fun hHeld => ?_)
            · exact y3 _
            clear hK K
            try simp only [Act.put, List.setIfInBounds_toArray, List.set_cons_zero, List.set_cons_succ]
            refine wpAnyH_take (i := 14) (oi := { dst := some 2, op := Op.assign (Operand.tmp 16), type := 28, pos := "ref.go:90", after := #[{ on := 13, ground := Ground.data }, { on := 11, ground := Ground.chain }, { on := 0, ground := Ground.phase }, { on := 1, ground := Ground.phase }, { on := 2, ground := Ground.phase }, { on := 3, ground := Ground.phase }, { on := 4, ground := Ground.phase }, { on := 5, ground := Ground.phase }, { on := 6, ground := Ground.phase }, { on := 7, ground := Ground.phase }, { on := 8, ground := Ground.phase }, { on := 9, ground := Ground.phase }, { on := 10, ground := Ground.phase }, { on := 11, ground := Ground.phase }, { on := 12, ground := Ground.phase }, { on := 13, ground := Ground.phase }], guard := none }) (v := ?_) rfl (by kernel_rfl) (by kernel_rfl) (by kernel_rfl) (fun _ _ _ h => h) (Or.inl ⟨by rfl, ?_⟩) (by assumption) ?_
            rotate_left
            · (intro w hSw; (try dsimp only at hSw); go_simp; try with_reducible rfl)
            try simp only [Act.put, List.setIfInBounds_toArray, List.set_cons_zero, List.set_cons_succ]
            refine wpAnyH_done (by kernel_rfl) ?_ _
            refine NoPanic.normal ?_
            clear y1 y2 y3
            go_wp2
            go_ret
            exact ⟨_, rfl, HT.out⟩
          exact AllReadyH.nil
        exact AllReadyH.nil
      exact AllReadyH.nil
    refine AllReadyH.cons (o := { dst := some 9, op := Op.buildSlice 58 0 #[], type := 58, pos := "ref.go:90", after := #[], guard := none }) rfl (fun K hK => ?_) ?_
    · skip
      go_simp
      refine hK.out _ _ ?_ (fun hHeld => ?_)
      · exact ⟨cellA (cellA (w := w.drew) c0 _) _, cellA (cellA (w := w.drew) c1 _) _⟩
      clear hK K
      try simp only [Act.put, List.setIfInBounds_toArray, List.set_cons_zero, List.set_cons_succ]
      refine wpAnyH_ready (rs := [5]) (by kernel_rfl) (by simp) ?_
      refine AllReadyH.cons (o := { dst := some 8, op := Op.call { callee := Callee.builtin Builtin.append, args := #[Operand.tmp 3, Operand.tmp 7], argTypes := #[31, 31] }, type := 31, pos := "ref.go:90", after := #[{ on := 0, ground := Ground.data }, { on := 4, ground := Ground.data }], guard := none }) rfl (fun K hK => ?_) ?_
      · skip
        have kW : Chg w ((w.drew.alloc (.cells #[] 5)).alloc (.cells #[] 76)) (fun _ => False) := (((Chg.refl w (fun _ => False)).drew.trans (Chg.alloc w.drew _ _)).trans (Chg.alloc _ _ _))
        refine step_app_at rfl (.tmp 3) (.tmp 7) rfl Try.underlying31 Try.info5 w.heap.size (w.heap.size) kW.size (heap_alloc2_old w.drew _ _) (by exact Nat.le_refl _) ⟨db, 0, none⟩ (64 * k) dc D rfl rfl (H.out).Dl hkk (cells_of_eq HAL.out (fun q => kW.block db q id)) ?_
        intro b1 d1 w1 p1 p2 p3 p4
        have k1 : Chg w w1 (fun _ => False) := kW.trans' p4 (fun b hb e => by have : b = w.heap.size := e; (try simp at this); omega)
        have y1 : w1.cell? ⟨m, 0, none⟩ = some (.slice (some ⟨db, 0, none⟩) (64 * k) dc) ∧ w1.cell? ⟨m, 1, none⟩ = some (.slice A Q.length wc) := ⟨(World.cell?_of_block (w := w) (a := ⟨m, 0, none⟩) (k1.block m hml id)).trans c0, (World.cell?_of_block (w := w) (a := ⟨m, 1, none⟩) (k1.block m hml id)).trans c1⟩
        have P3 := Lib.hid p3
        have P4 := Lib.hid p4
        have K1 := Lib.hid k1
        clear p3 p4 k1 kW
        refine hK.out _ _ ?_ (fun hHeld => ?_)
        · exact y1
        clear hK K
        try simp only [Act.put, List.setIfInBounds_toArray, List.set_cons_zero, List.set_cons_succ]
        refine wpAnyH_ready (rs := [11]) (by kernel_rfl) (by simp) ?_
        refine AllReadyH.cons (o := { dst := some 14, op := Op.call { callee := Callee.builtin Builtin.append, args := #[Operand.tmp 9, Operand.tmp 13], argTypes := #[58, 58] }, type := 58, pos := "ref.go:90", after := #[{ on := 6, ground := Ground.data }, { on := 10, ground := Ground.data }, { on := 5, ground := Ground.chain }], guard := none }) rfl (fun K hK => ?_) ?_
        · skip
          have kW : Chg w (w1) (fun _ => False) := K1.out
          refine step_waits_at rfl (.tmp 9) (.tmp 13) rfl Try.underlying58 Try.info76 w.heap.size (w.heap.size + 1) kW.size (((P4.out).block _ (by simp) (by simp)).trans (heap_alloc2_new w.drew _ _)) (by omega) A wc Q ds HLEN.out rfl rfl hQ (by
            rcases HAW.out with q | ⟨b, q1, q2⟩
            · exact .inl q
            · exact .inr ⟨b, q1, fun i u hu => (World.cell?_of_block (w := w) (a := ⟨b, i, none⟩) (kW.block b (block_lt_of_cell (q2 i u hu)) id)).trans (q2 i u hu)⟩) ?_
          intro b2 d2 w2 s1 s2 s3 s4 s5
          have k2 : Chg w w2 (fun _ => False) := kW.trans' s5 (fun b hb e => by have : b = w.heap.size + 1 := e; have := kW.size; have := (K1.out).size; omega)
          have y2 : w2.cell? ⟨m, 0, none⟩ = some (.slice (some ⟨db, 0, none⟩) (64 * k) dc) ∧ w2.cell? ⟨m, 1, none⟩ = some (.slice A Q.length wc) := ⟨(World.cell?_of_block (w := w) (a := ⟨m, 0, none⟩) (k2.block m hml id)).trans c0, (World.cell?_of_block (w := w) (a := ⟨m, 1, none⟩) (k2.block m hml id)).trans c1⟩
          have PB : BY w2 b1 D d1 := (P3.out).congr (s5.block b1 (P3.out).lt (fun e => by have e1 : b1 = w.heap.size + 1 := e; have hq := P3.out; obtain ⟨pad, hq1, _, _⟩ := hq; have hq2 : w1.heap[w.heap.size + 1]? = some (.cells #[] 76 (0, 0)) := ((P4.out).block _ (by simp) (by simp)).trans (heap_alloc2_new w.drew _ _); rw [e1, hq2] at hq1; simp at hq1))
          have HT := Lib.hid (rtwin_end H.out k2 p1 PB p2 s1 s2 s3 s4)
          have y3 : ∀ o, (w2.alloc o).cell? ⟨m, 0, none⟩ = some (.slice (some ⟨db, 0, none⟩) (64 * k) dc) ∧ (w2.alloc o).cell? ⟨m, 1, none⟩ = some (.slice A Q.length wc) := fun o => ⟨cellA y2.1 o, cellA y2.2 o⟩
          clear PB k2 kW s4 s5
          refine hK.out _ _ ?_ (fun hHeld => ?_)
          · exact y2
          clear hK K
          try simp only [Act.put, List.setIfInBounds_toArray, List.set_cons_zero, List.set_cons_succ]
          refine wpAnyH_take (i := 12) (oi := { dst := some 15, op := Op.build 60 #[(0, Operand.tmp 8), (1, Operand.tmp 14)], type := 60, pos := "ref.go:90", after := #[{ on := 5, ground := Ground.data }, { on := 11, ground := Ground.data }], guard := none }) (v := ?_) rfl (by kernel_rfl) (by kernel_rfl) (by kernel_rfl) (fun _ _ _ h => h) (Or.inl ⟨by rfl, ?_⟩) (by assumption) ?_
          rotate_left
          · (intro w hSw; (try dsimp only at hSw); go_simp; try with_reducible rfl)
          try simp only [Act.put, List.setIfInBounds_toArray, List.set_cons_zero, List.set_cons_succ]
          refine wpAnyH_ready (rs := [13]) (by kernel_rfl) (by simp) ?_
          refine AllReadyH.cons (o := { dst := some 16, op := Op.box 60 (Operand.tmp 15), type := 28, pos := "ref.go:90", after := #[{ on := 12, ground := Ground.data }], guard := none }) rfl (fun K hK => ?_) ?_
          · skip
            go_simp
            refine hK.out _ _ ?_ (fun hHeld => ?_)
            · exact y3 _
            clear hK K
            try simp only [Act.put, List.setIfInBounds_toArray, List.set_cons_zero, List.set_cons_succ]
            refine wpAnyH_take (i := 14) (oi := { dst := some 2, op := Op.assign (Operand.tmp 16), type := 28, pos := "ref.go:90", after := #[{ on := 13, ground := Ground.data }, { on := 11, ground := Ground.chain }, { on := 0, ground := Ground.phase }, { on := 1, ground := Ground.phase }, { on := 2, ground := Ground.phase }, { on := 3, ground := Ground.phase }, { on := 4, ground := Ground.phase }, { on := 5, ground := Ground.phase }, { on := 6, ground := Ground.phase }, { on := 7, ground := Ground.phase }, { on := 8, ground := Ground.phase }, { on := 9, ground := Ground.phase }, { on := 10, ground := Ground.phase }, { on := 11, ground := Ground.phase }, { on := 12, ground := Ground.phase }, { on := 13, ground := Ground.phase }], guard := none }) (v := ?_) rfl (by kernel_rfl) (by kernel_rfl) (by kernel_rfl) (fun _ _ _ h => h) (Or.inl ⟨by rfl, ?_⟩) (by assumption) ?_
            rotate_left
            · (intro w hSw; (try dsimp only at hSw); go_simp; try with_reducible rfl)
            try simp only [Act.put, List.setIfInBounds_toArray, List.set_cons_zero, List.set_cons_succ]
            refine wpAnyH_done (by kernel_rfl) ?_ _
            refine NoPanic.normal ?_
            clear y1 y2 y3
            go_wp2
            go_ret
            exact ⟨_, rfl, HT.out⟩
          exact AllReadyH.nil
        exact AllReadyH.nil
      exact AllReadyH.nil
    exact AllReadyH.nil
  refine AllReadyH.cons (o := { dst := some 9, op := Op.buildSlice 58 0 #[], type := 58, pos := "ref.go:90", after := #[], guard := none }) rfl (fun K hK => ?_) ?_
  · skip
    go_simp
    refine hK.out _ _ ?_ (fun hHeld => ?_)
    · exact ⟨cellA (w := w.drew) c0 _, cellA (w := w.drew) c1 _⟩
    clear hK K
    try simp only [Act.put, List.setIfInBounds_toArray, List.set_cons_zero, List.set_cons_succ]
    refine wpAnyH_ready (rs := [0]) (by kernel_rfl) (by simp) ?_
    refine AllReadyH.cons (o := { dst := some 3, op := Op.buildSlice 31 0 #[], type := 31, pos := "ref.go:90", after := #[], guard := none }) rfl (fun K hK => ?_) ?_
    · skip
      go_simp
      refine hK.out _ _ ?_ (fun hHeld => ?_)
      · exact ⟨cellA (cellA (w := w.drew) c0 _) _, cellA (cellA (w := w.drew) c1 _) _⟩
      clear hK K
      try simp only [Act.put, List.setIfInBounds_toArray, List.set_cons_zero, List.set_cons_succ]
      refine wpAnyH_ready (rs := [5]) (by kernel_rfl) (by simp) ?_
      refine AllReadyH.cons (o := { dst := some 8, op := Op.call { callee := Callee.builtin Builtin.append, args := #[Operand.tmp 3, Operand.tmp 7], argTypes := #[31, 31] }, type := 31, pos := "ref.go:90", after := #[{ on := 0, ground := Ground.data }, { on := 4, ground := Ground.data }], guard := none }) rfl (fun K hK => ?_) ?_
      · skip
        have kW : Chg w ((w.drew.alloc (.cells #[] 76)).alloc (.cells #[] 5)) (fun _ => False) := (((Chg.refl w (fun _ => False)).drew.trans (Chg.alloc w.drew _ _)).trans (Chg.alloc _ _ _))
        refine step_app_at rfl (.tmp 3) (.tmp 7) rfl Try.underlying31 Try.info5 w.heap.size (w.heap.size + 1) kW.size (heap_alloc2_new w.drew _ _) (by omega) ⟨db, 0, none⟩ (64 * k) dc D rfl rfl (H.out).Dl hkk (cells_of_eq HAL.out (fun q => kW.block db q id)) ?_
        intro b1 d1 w1 p1 p2 p3 p4
        have k1 : Chg w w1 (fun _ => False) := kW.trans' p4 (fun b hb e => by have : b = w.heap.size + 1 := e; (try simp at this); omega)
        have y1 : w1.cell? ⟨m, 0, none⟩ = some (.slice (some ⟨db, 0, none⟩) (64 * k) dc) ∧ w1.cell? ⟨m, 1, none⟩ = some (.slice A Q.length wc) := ⟨(World.cell?_of_block (w := w) (a := ⟨m, 0, none⟩) (k1.block m hml id)).trans c0, (World.cell?_of_block (w := w) (a := ⟨m, 1, none⟩) (k1.block m hml id)).trans c1⟩
        have P3 := Lib.hid p3
        have P4 := Lib.hid p4
        have K1 := Lib.hid k1
        clear p3 p4 k1 kW
        refine hK.out _ _ ?_ (fun hHeld => ?_)
        · exact y1
        clear hK K
        try simp only [Act.put, List.setIfInBounds_toArray, List.set_cons_zero, List.set_cons_succ]
        refine wpAnyH_ready (rs := [11]) (by kernel_rfl) (by simp) ?_
        refine AllReadyH.cons (o := { dst := some 14, op := Op.call { callee := Callee.builtin Builtin.append, args := #[Operand.tmp 9, Operand.tmp 13], argTypes := #[58, 58] }, type := 58, pos := "ref.go:90", after := #[{ on := 6, ground := Ground.data }, { on := 10, ground := Ground.data }, { on := 5, ground := Ground.chain }], guard := none }) rfl (fun K hK => ?_) ?_
        · skip
          have kW : Chg w (w1) (fun _ => False) := K1.out
          refine step_waits_at rfl (.tmp 9) (.tmp 13) rfl Try.underlying58 Try.info76 w.heap.size (w.heap.size) kW.size (((P4.out).block _ (by simp; omega) (by simp)).trans (heap_alloc2_old w.drew _ _)) (by omega) A wc Q ds HLEN.out rfl rfl hQ (by
            rcases HAW.out with q | ⟨b, q1, q2⟩
            · exact .inl q
            · exact .inr ⟨b, q1, fun i u hu => (World.cell?_of_block (w := w) (a := ⟨b, i, none⟩) (kW.block b (block_lt_of_cell (q2 i u hu)) id)).trans (q2 i u hu)⟩) ?_
          intro b2 d2 w2 s1 s2 s3 s4 s5
          have k2 : Chg w w2 (fun _ => False) := kW.trans' s5 (fun b hb e => by have : b = w.heap.size := e; have := kW.size; have := (K1.out).size; omega)
          have y2 : w2.cell? ⟨m, 0, none⟩ = some (.slice (some ⟨db, 0, none⟩) (64 * k) dc) ∧ w2.cell? ⟨m, 1, none⟩ = some (.slice A Q.length wc) := ⟨(World.cell?_of_block (w := w) (a := ⟨m, 0, none⟩) (k2.block m hml id)).trans c0, (World.cell?_of_block (w := w) (a := ⟨m, 1, none⟩) (k2.block m hml id)).trans c1⟩
          have PB : BY w2 b1 D d1 := (P3.out).congr (s5.block b1 (P3.out).lt (fun e => by have e1 : b1 = w.heap.size := e; have hq := P3.out; obtain ⟨pad, hq1, _, _⟩ := hq; have hq2 : w1.heap[w.heap.size]? = some (.cells #[] 76 (0, 0)) := ((P4.out).block _ (by simp; omega) (by simp)).trans (heap_alloc2_old w.drew _ _); rw [e1, hq2] at hq1; simp at hq1))
          have HT := Lib.hid (rtwin_end H.out k2 p1 PB p2 s1 s2 s3 s4)
          have y3 : ∀ o, (w2.alloc o).cell? ⟨m, 0, none⟩ = some (.slice (some ⟨db, 0, none⟩) (64 * k) dc) ∧ (w2.alloc o).cell? ⟨m, 1, none⟩ = some (.slice A Q.length wc) := fun o => ⟨cellA y2.1 o, cellA y2.2 o⟩
          clear PB k2 kW s4 s5
          refine hK.out _ _ ?_ (fun hHeld => ?_)
          · exact y2
          clear hK K
          try simp only [Act.put, List.setIfInBounds_toArray, List.set_cons_zero, List.set_cons_succ]
          refine wpAnyH_take (i := 12) (oi := { dst := some 15, op := Op.build 60 #[(0, Operand.tmp 8), (1, Operand.tmp 14)], type := 60, pos := "ref.go:90", after := #[{ on := 5, ground := Ground.data }, { on := 11, ground := Ground.data }], guard := none }) (v := ?_) rfl (by kernel_rfl) (by kernel_rfl) (by kernel_rfl) (fun _ _ _ h => h) (Or.inl ⟨by rfl, ?_⟩) (by assumption) ?_
          rotate_left
          · (intro w hSw; (try dsimp only at hSw); go_simp; try with_reducible rfl)
          try simp only [Act.put, List.setIfInBounds_toArray, List.set_cons_zero, List.set_cons_succ]
          refine wpAnyH_ready (rs := [13]) (by kernel_rfl) (by simp) ?_
          refine AllReadyH.cons (o := { dst := some 16, op := Op.box 60 (Operand.tmp 15), type := 28, pos := "ref.go:90", after := #[{ on := 12, ground := Ground.data }], guard := none }) rfl (fun K hK => ?_) ?_
          · skip
            go_simp
            refine hK.out _ _ ?_ (fun hHeld => ?_)
            · exact y3 _
            clear hK K
            try simp only [Act.put, List.setIfInBounds_toArray, List.set_cons_zero, List.set_cons_succ]
            refine wpAnyH_take (i := 14) (oi := { dst := some 2, op := Op.assign (Operand.tmp 16), type := 28, pos := "ref.go:90", after := #[{ on := 13, ground := Ground.data }, { on := 11, ground := Ground.chain }, { on := 0, ground := Ground.phase }, { on := 1, ground := Ground.phase }, { on := 2, ground := Ground.phase }, { on := 3, ground := Ground.phase }, { on := 4, ground := Ground.phase }, { on := 5, ground := Ground.phase }, { on := 6, ground := Ground.phase }, { on := 7, ground := Ground.phase }, { on := 8, ground := Ground.phase }, { on := 9, ground := Ground.phase }, { on := 10, ground := Ground.phase }, { on := 11, ground := Ground.phase }, { on := 12, ground := Ground.phase }, { on := 13, ground := Ground.phase }], guard := none }) (v := ?_) rfl (by kernel_rfl) (by kernel_rfl) (by kernel_rfl) (fun _ _ _ h => h) (Or.inl ⟨by rfl, ?_⟩) (by assumption) ?_
            rotate_left
            · (intro w hSw; (try dsimp only at hSw); go_simp; try with_reducible rfl)
            try simp only [Act.put, List.setIfInBounds_toArray, List.set_cons_zero, List.set_cons_succ]
            refine wpAnyH_done (by kernel_rfl) ?_ _
            refine NoPanic.normal ?_
            clear y1 y2 y3
            go_wp2
            go_ret
            exact ⟨_, rfl, HT.out⟩
          exact AllReadyH.nil
        exact AllReadyH.nil
      exact AllReadyH.nil
    exact AllReadyH.nil
  exact AllReadyH.nil
end Go.Proofs
end
