/-
  Texts of a proof over the translated program: proved evaluators and walks, part 12 of 14.
-/
import Derived.Test.YtfblhcphbcghpaaPartM11
import Derived.Below
import Derived.Deep.Cut
import Derived.Deep.Draws
import Derived.Deep.OwnRows
import Derived.Deep.RegionHeld3
import Derived.Deep.RegionLaw
import Derived.Deep.RegionLawGrows
import Derived.Deep.RegionWith
import Derived.Handy
import Derived.IntWalk
import Derived.Laws.AppendOwn
import Derived.Laws.AppendOwnNone
import Derived.Laws.BitsLemmas
import Derived.Laws.BytesArg
import Derived.Laws.BytesString
import Derived.Laws.Closers25b
import Derived.Laws.CopyOwn
import Derived.Laws.MakeOwn
import Derived.Laws.OwnMore
import Derived.Laws.Rows
import Derived.Laws.StructEq
import Derived.Lib.AppendStr
import Derived.Lib.Hide
import Derived.Lib.SlBytesRow
import Derived.LoopTactic
import Derived.Outline
import Derived.OwnWalk
import Derived.Scope
import Derived.ScopeJumps
import Derived.Test.YtfblhcphbcghpaaProg
import Derived.WalkKit
import Derived.WalkMore
import Derived.WalkSpells
set_option linter.unusedVariables false
set_option linter.unusedSimpArgs false
set_option linter.unusedSectionVars false
set_option linter.unnecessarySimpa false
section
namespace Go.Proofs.Ytfblhcphbcghpaa
open Go.RowKit
set_option maxRecDepth 100000
theorem Try.threeC (w : World) : Calls Try.prog 12 #[] w fun x w' => ∃ g c, x = .returned (.slice (some ⟨g, 0, none⟩) 3 c) ∧ CR w' (some ⟨g, 0, none⟩) 3 c three ∧ Below w.heap.size w w' := by
  go_enter Try.func12, Try.ntmps12
  go_wp2
  go_ret
  have hn := heap_alloc_new w (Obj.cells #[Value.string { data := #[110] }, Value.int IntKind.i64 1, Value.string { data := #[115] }, Value.int IntKind.i64 2, Value.string { data := #[112] }, Value.int IntKind.i64 3] 103)
  refine ⟨w.heap.size, 3, rfl, ⟨rfl, Nat.le_refl _, by unfold maxLen; omega, fun j q hj => ⟨w.heap.size, rfl, ?_⟩⟩, (Below.refl _ w).alloc (Nat.le_refl _) _⟩
  have hc := fun i => cell_of_row _ w.heap.size i _ 103 _ hn
  match j, hj with
  | 0, h => cases h; exact ⟨hc 0, hc 1⟩
  | 1, h => cases h; exact ⟨hc 2, hc 3⟩
  | 2, h => cases h; exact ⟨hc 4, hc 5⟩
  | j + 3, h => simp [three] at h
def DS (w wr : World) (d k : Nat) (T : List UInt8) (q : Nat) (K : List (Nat × Obj)) : Prop := ∃ F L Q, DV wr F d k L T Q ∧ Q.length ≤ q ∧ Below w.heap.size w wr ∧ (∀ b, F b → w.heap.size ≤ b) ∧ ∀ p ∈ K, wr.heap[p.1]? = some p.2 ∧ ¬ F p.1
theorem DS.len {w wr : World} {d k : Nat} {T : List UInt8} {q : Nat} {K : List (Nat × Obj)} (h : DS w wr d k T q K) : T.length = 64 * k := by
  obtain ⟨F, L, Q, ⟨lb, cl, tb, ct, vw, ds, hd⟩, _⟩ := h
  exact hd.Tl
theorem DS.bel {w wr : World} {d k : Nat} {T : List UInt8} {q : Nat} {K : List (Nat × Obj)} (h : DS w wr d k T q K) : Below w.heap.size w wr := by
  obtain ⟨F, L, Q, _, _, hb, _⟩ := h
  exact hb
theorem DS.get {w wr : World} {d k : Nat} {T : List UInt8} {q : Nat} {K : List (Nat × Obj)} (h : DS w wr d k T q K) (n : Nat) {b : Nat} {o : Obj} (hn : K[n]? = some (b, o)) : wr.heap[b]? = some o := by
  obtain ⟨F, L, Q, _, _, _, _, hk⟩ := h
  exact (hk _ (List.mem_of_getElem? hn)).1
theorem DS.below {w wr w' : World} {d k : Nat} {T : List UInt8} {q : Nat} {K : List (Nat × Obj)} (h : DS w wr d k T q K) (hb : Below wr.heap.size wr w') : DS w w' d k T q K := by
  obtain ⟨F, L, Q, h1, h2, h3, h4, hk⟩ := h
  exact ⟨F, L, Q, h1.below hb, h2, h3.trans (hb.mono h3.size), h4, fun p hp => ⟨(hb.block p.1 (Go.NR.heap_lt (hk p hp).1)).trans (hk p hp).1, (hk p hp).2⟩⟩
theorem DS.drew {w wr : World} {d k : Nat} {T : List UInt8} {q : Nat} {K : List (Nat × Obj)} (h : DS w wr d k T q K) : DS w wr.drew d k T q K := h.below (Below.refl _ wr).drew
theorem DS.add {w wr w' : World} {d k : Nat} {T : List UInt8} {q : Nat} {K : List (Nat × Obj)} (h : DS w wr d k T q K) (hb : Below wr.heap.size wr w') {b : Nat} {o : Obj} (hw : wr.heap.size ≤ b) (ho : w'.heap[b]? = some o) : DS w w' d k T q ((b, o) :: K) := by
  obtain ⟨F, L, Q, h1, h2, h3, h4, hk⟩ := h.below hb
  obtain ⟨F0, L0, Q0, g1, g2, g3, g4, gk⟩ := h
  refine ⟨F0, L0, Q0, g1.below hb, g2, h3, g4, fun p hp => ?_⟩
  rcases List.mem_cons.1 hp with rfl | hp
  · exact ⟨ho, fun hf => by have := g1.lt _ hf; simp at this; omega⟩
  · exact ⟨(hk p hp).1, (gk p hp).2⟩
theorem DS.start {w : World} {k : Nat} {x : Ending} {w' : World} (h : NewGood w k x w') : ∃ d, x = .returned (.tuple #[.pointer (some ⟨d, 0, none⟩), .int .i64 0]) ∧ DS w w' d k (List.replicate (64 * k) 0) 0 [] := by
  obtain ⟨v, rfl, d, F, rfl, h1, h2, h3⟩ := h
  exact ⟨d, rfl, F, _, [], h1, Nat.le_refl _, h2, h3, fun p hp => by cases hp⟩
theorem DS.next {w wr w' : World} {F F' : Nat → Prop} {d k : Nat} {L T' : List UInt8} {Q' : List (Nat × List UInt8)} {q : Nat} {K : List (Nat × Obj)} (hb : Below w.heap.size w wr) (hF : ∀ b, F b → w.heap.size ≤ b) (h1 : DV w' F' d k L T' Q') (h2 : Q'.length ≤ q) (hu : Upd wr w' F F') (hk : ∀ p ∈ K, wr.heap[p.1]? = some p.2 ∧ ¬ F p.1) : DS w w' d k T' q K :=
  ⟨F', L, Q', h1, h2, hb.trans (hu.below hF hb.size), hu.low hF hb.size, fun p hp => by
    have hp' := hk p hp
    have hl := Go.NR.heap_lt hp'.1
    exact ⟨(hu.block p.1 hl hp'.2).trans hp'.1, fun hf => by
      rcases hu.grow _ hf with h | h
      · exact hp'.2 h
      · omega⟩⟩
theorem DS.super {w wr : World} {d k : Nat} {T : List UInt8} {q : Nat} {K : List (Nat × Obj)} (h : DS w wr d k T q K) (hq : q ≤ 10000) (hk : 2 ≤ k) (e a n : Nat) (he : e < 18446744073709551616) (hok : okS e (a : Int) (n : Int)) :
    Calls Try.prog 16 #[.pointer (some ⟨d, 0, none⟩), .agg #[.int .u64 e, .int .i64 a, .int .i64 n]] wr fun x w' => x = .returned (.int .i64 0) ∧ DS w w' d k (layB T (e % 2) (supB e a n)) (q + 1) K := by
  obtain ⟨F, L, Q, h1, h2, h3, h4, hK⟩ := h
  refine (Try.supWrite h1 (by omega) hk e a n he hok).mono ?_
  rintro x w' ⟨rfl, F', Q', g1, g2, g3⟩
  exact ⟨rfl, DS.next h3 h4 g1 (by omega) g3 hK⟩
def Slot (T : List UInt8) (k i : Nat) (r : Nat × Nat × Nat) : Prop :=
  (r = (0, 0, 0) ∧ (supG (blk T i) = none ∨ ∃ e a, e < 18446744073709551616 ∧ e % 2 = i ∧ 2 ≤ a ∧ a < k ∧ supG (blk T i) = some (e, a, 1) ∧ (blk T a = z64 ∨ ∃ e', e' < 18446744073709551616 ∧ e' ≠ 0 ∧ e' ≠ e ∧ blk T a = pageB (footB e' three)))) ∨
  (∃ e a, r = (e, a, 1) ∧ e < 18446744073709551616 ∧ e ≠ 0 ∧ e % 2 = i ∧ 2 ≤ a ∧ a < k ∧ supG (blk T i) = some (e, a, 1) ∧ blk T a = pageB (footB e three))
theorem DS.find {w wr : World} {d k : Nat} {T : List UInt8} {q : Nat} {K : List (Nat × Obj)} (h : DS w wr d k T q K) (hk : 2 ≤ k) (r : Nat → Nat × Nat × Nat) (hr : ∀ i, i < 2 → Slot T k i (r i)) :
    Calls Try.prog 19 #[.pointer (some ⟨d, 0, none⟩)] wr (Found wr (yng (yng (0, 0, 0) (r 0)) (r 1))) := by
  obtain ⟨F, L, Q, h1, h2, h3, h4⟩ := h
  refine Try.sfind h1 r fun i hi w' hd => ?_
  rcases hr i hi with ⟨hr, hs | ⟨e, a, he, hei, ha, hak, hs, hz | ⟨e', he', he0, hne, hp⟩⟩⟩ | ⟨e, a, hr, he, he0, hei, ha, hak, hs, hp⟩
  · rw [hr]
    exact (Try.look0 hd (by omega) hs).mono fun x w2 h => lookU_no h
  · rw [hr]
    refine (Try.lookE hd (by omega) he hei (by omega) ha (by omega) hs fun w2 hd2 => Try.footAtX hd2 a 1 rfl (by omega) ?_).mono fun x w2 h => lookU_no h
    rw [cat_one, hz]
    exact z64_bad
  · rw [hr]
    exact (Try.lookX hd (by omega) he hei (by omega) ha (by omega) hs he' he0 hne three_chk (by rw [cat_one]; exact hp)).mono fun x w2 h => lookU_no h
  · rw [hr]
    exact (Try.lookOk hd (by omega) he hei (by omega) ha (by omega) hs he0 three_chk (by rw [cat_one]; exact hp)).mono fun x w2 h => lookU_ok he0 h
end Go.Proofs.Ytfblhcphbcghpaa
end

section
namespace Go.Proofs.Ytfblhcphbcghpaa
open Go.RowKit
set_option maxRecDepth 100000
theorem size123 : (Try.prog.info? 123).map (·.size) = some 4 := by kernel_rfl
theorem st123 : Try.prog.underlying 123 = some (.struct (Try.prog.fieldsOf 123)) := by kernel_rfl
theorem size124 : (Try.prog.info? 124).map (·.size) = some 2 := by kernel_rfl
theorem st124 : Try.prog.underlying 124 = some (.struct (Try.prog.fieldsOf 124)) := by kernel_rfl
theorem size60 : (Try.prog.info? 60).map (·.size) = some 2 := by kernel_rfl
theorem st60 : Try.prog.underlying 60 = some (.struct (Try.prog.fieldsOf 60)) := by kernel_rfl
theorem size126 : (Try.prog.info? 126).map (·.size) = some 13 := by kernel_rfl
theorem st126 : Try.prog.underlying 126 = some (.struct (Try.prog.fieldsOf 126)) := by kernel_rfl
theorem size128 : (Try.prog.info? 128).map (·.size) = some 15 := by kernel_rfl
theorem st128 : Try.prog.underlying 128 = some (.struct (Try.prog.fieldsOf 128)) := by kernel_rfl
theorem size79 : (Try.prog.info? 79).map (·.size) = some 2 := by kernel_rfl
theorem st79 : Try.prog.underlying 79 = some (.struct (Try.prog.fieldsOf 79)) := by kernel_rfl
def vcl (n : Int) : Array Value := #[.int .i64 1, .int .i64 n, .string ⟨#[]⟩, .complex .f64 0 0]
def scl (r lo hi : Int) : Array Value := #[.int .i64 1, .int .i64 r, .int .i64 0, .int .i64 1, .int .i64 lo, .string ⟨#[]⟩, .complex .f64 0 0, .int .i64 1, .int .i64 hi, .string ⟨#[]⟩, .complex .f64 0 0, .complex .f64 0 0, .complex .f64 0 0]
def kcl (a n r lo hi : Int) : Array Value := #[.int .i64 a, .int .i64 n, .int .i64 1, .int .i64 r, .int .i64 0, .int .i64 1, .int .i64 lo, .string ⟨#[]⟩, .complex .f64 0 0, .int .i64 1, .int .i64 hi, .string ⟨#[]⟩, .complex .f64 0 0, .complex .f64 0 0, .complex .f64 0 0]
theorem one_v (n : Int) : ∀ u ∈ (vcl n).toList, u.oneCell' = true := by
  intro u hu
  have h : u ∈ ([.int .i64 1, .int .i64 n, .string ⟨#[]⟩, .complex .f64 0 0] : List Value) := hu
  simp only [List.mem_cons, List.not_mem_nil, or_false] at h
  rcases h with rfl | rfl | rfl | rfl <;> rfl
theorem one_s (r lo hi : Int) : ∀ u ∈ (scl r lo hi).toList, u.oneCell' = true := by
  intro u hu
  have h : u ∈ ([.int .i64 1, .int .i64 r, .int .i64 0, .int .i64 1, .int .i64 lo, .string ⟨#[]⟩, .complex .f64 0 0, .int .i64 1, .int .i64 hi, .string ⟨#[]⟩, .complex .f64 0 0, .complex .f64 0 0, .complex .f64 0 0] : List Value) := hu
  simp only [List.mem_cons, List.not_mem_nil, or_false] at h
  rcases h with rfl | rfl | rfl | rfl | rfl | rfl | rfl | rfl | rfl | rfl | rfl | rfl | rfl <;> rfl
theorem one_k (a n r lo hi : Int) : ∀ u ∈ (kcl a n r lo hi).toList, u.oneCell' = true := by
  intro u hu
  have h : u ∈ ([.int .i64 a, .int .i64 n, .int .i64 1, .int .i64 r, .int .i64 0, .int .i64 1, .int .i64 lo, .string ⟨#[]⟩, .complex .f64 0 0, .int .i64 1, .int .i64 hi, .string ⟨#[]⟩, .complex .f64 0 0, .complex .f64 0 0, .complex .f64 0 0] : List Value) := hu
  simp only [List.mem_cons, List.not_mem_nil, or_false] at h
  rcases h with rfl | rfl | rfl | rfl | rfl | rfl | rfl | rfl | rfl | rfl | rfl | rfl | rfl | rfl | rfl <;> rfl
theorem one_b  : ∀ u ∈ ((#[.complex .f64 0 0, .complex .f64 0 0] : Array Value)).toList, u.oneCell' = true := by
  intro u hu
  have h : u ∈ ([.complex .f64 0 0, .complex .f64 0 0] : List Value) := hu
  simp only [List.mem_cons, List.not_mem_nil, or_false] at h
  rcases h with rfl | rfl <;> rfl
theorem one_e (a n : Int) : ∀ u ∈ ((#[.int .i64 a, .int .i64 n] : Array Value)).toList, u.oneCell' = true := by
  intro u hu
  have h : u ∈ ([.int .i64 a, .int .i64 n] : List Value) := hu
  simp only [List.mem_cons, List.not_mem_nil, or_false] at h
  rcases h with rfl | rfl <;> rfl
def Gives (w : World) (l : Array Value) (x : Ending) (w' : World) : Prop := x = .returned (.agg l) ∧ Below w.heap.size w w'
theorem alloc2' (w : World) (o o' : Obj) : ∃ w4 s8 s9, (w.alloc o).alloc o' = w4 ∧ w.heap.size = s8 ∧ s8 + 1 = s9 ∧ Hid (Below w.heap.size w w4) ∧ Hid (w4.heap[s8]? = some o) ∧ Hid (w4.heap[s9]? = some o') ∧ Hid (w.heap.size ≤ s8 ∧ w.heap.size ≤ s9 ∧ s8 ≠ s9) := by
  obtain ⟨w4, s8, s9, h1, h2, h3, h4, h5, h6⟩ := alloc2 w o o'
  exact ⟨w4, s8, s9, h1, h2, h3, Lib.hid h4, Lib.hid h5, Lib.hid h6, Lib.hid (by omega)⟩
set_option maxHeartbeats 4000000 in
theorem Try.toVal (w : World) (n : Int) : Calls Try.prog 86 #[.agg #[.int .i64 1, .int .i64 n, .string ⟨#[]⟩, .complex .f64 0 0]] w (Gives w #[.int .i64 1, .int .i64 n, .string ⟨#[]⟩, .complex .f64 0 0]) := by
  obtain ⟨w4, s8, s9, hw4, hs8, hs9, HB, H8, H9, HO⟩ := alloc2' w (.cells #[.int .i64 1, .int .i64 n, .string ⟨#[]⟩, .complex .f64 0 0] 32) (.cells #[.int .i64 0, .int .i64 0, .string ⟨#[]⟩, .complex .f64 0 0] 123)
  go_enter Try.func86, Try.ntmps86
  go_upto_region 1 with fail
  (try rw [hw4])
  (try rw [hs8])
  (try rw [hs9])
  clear hw4 hs8 hs9
  have V0 := cell_of_row w4 s8 0 _ 32 _ H8.out
  have V1 := cell_of_row w4 s8 1 _ 32 _ H8.out
  have V2 := cell_of_row w4 s8 2 _ 32 _ H8.out
  have V3 := cell_of_row w4 s8 3 _ 32 _ H8.out
  simp at V0 V1 V2 V3
  go_wp2_with (refine wpList_store_at w4 rfl 123 (.tmp 2) (.tmp 11) rfl s9 123 0 #[.int .i64 1, .int .i64 n, .string ⟨#[]⟩, .complex .f64 0 0] #[.int .i64 0, .int .i64 0, .string ⟨#[]⟩, .complex .f64 0 0] #[.int .i64 1, .int .i64 n, .string ⟨#[]⟩, .complex .f64 0 0] rfl rfl H9.out (show 0 + 4 ≤ 4 by omega) rfl size123 (one_v n) ?_)
  refine bodyPost_ret (results_cell1 rfl _ _ s9 123 _ _ rfl (setRow_heap' _ s9 _ _ 123 H9.out) size123 st123) rfl ?_
  exact ⟨rfl, Below.setRow HB.out HO.out.2.1 _⟩
set_option maxHeartbeats 4000000 in
theorem Try.toBox (w : World)  : Calls Try.prog 87 #[.agg #[.complex .f64 0 0, .complex .f64 0 0]] w (Gives w #[.complex .f64 0 0, .complex .f64 0 0]) := by
  obtain ⟨w4, s8, s9, hw4, hs8, hs9, HB, H8, H9, HO⟩ := alloc2' w (.cells #[.complex .f64 0 0, .complex .f64 0 0] 34) (.cells #[.complex .f64 0 0, .complex .f64 0 0] 124)
  go_enter Try.func87, Try.ntmps87
  go_upto_region 1 with fail
  (try rw [hw4])
  (try rw [hs8])
  (try rw [hs9])
  clear hw4 hs8 hs9
  have V0 := cell_of_row w4 s8 0 _ 34 _ H8.out
  have V1 := cell_of_row w4 s8 1 _ 34 _ H8.out
  simp at V0 V1
  go_wp2_with (refine wpList_store_at w4 rfl 124 (.tmp 2) (.tmp 7) rfl s9 124 0 #[.complex .f64 0 0, .complex .f64 0 0] #[.complex .f64 0 0, .complex .f64 0 0] #[.complex .f64 0 0, .complex .f64 0 0] rfl rfl H9.out (show 0 + 2 ≤ 2 by omega) rfl size124 (one_b) ?_)
  refine bodyPost_ret (results_cell1 rfl _ _ s9 124 _ _ rfl (setRow_heap' _ s9 _ _ 124 H9.out) size124 st124) rfl ?_
  exact ⟨rfl, Below.setRow HB.out HO.out.2.1 _⟩
set_option maxHeartbeats 4000000 in
theorem Try.toExt (w : World) (a n : Int) : Calls Try.prog 79 #[.agg #[.int .i64 a, .int .i64 n]] w (Gives w #[.int .i64 a, .int .i64 n]) := by
  obtain ⟨w4, s8, s9, hw4, hs8, hs9, HB, H8, H9, HO⟩ := alloc2' w (.cells #[.int .i64 a, .int .i64 n] 38) (.cells #[.int .i64 0, .int .i64 0] 60)
  go_enter Try.func79, Try.ntmps79
  go_upto_region 1 with fail
  (try rw [hw4])
  (try rw [hs8])
  (try rw [hs9])
  clear hw4 hs8 hs9
  have V0 := cell_of_row w4 s8 0 _ 38 _ H8.out
  have V1 := cell_of_row w4 s8 1 _ 38 _ H8.out
  simp at V0 V1
  go_wp2_with (refine wpList_store_at w4 rfl 60 (.tmp 2) (.tmp 7) rfl s9 60 0 #[.int .i64 a, .int .i64 n] #[.int .i64 0, .int .i64 0] #[.int .i64 a, .int .i64 n] rfl rfl H9.out (show 0 + 2 ≤ 2 by omega) rfl size60 (one_e a n) ?_)
  refine bodyPost_ret (results_cell1 rfl _ _ s9 60 _ _ rfl (setRow_heap' _ s9 _ _ 60 H9.out) size60 st60) rfl ?_
  exact ⟨rfl, Below.setRow HB.out HO.out.2.1 _⟩
set_option maxHeartbeats 8000000 in
theorem Try.toStat (w : World) (r lo hi : Int) : Calls Try.prog 80 #[.agg #[.int .i64 1, .int .i64 r, .int .i64 0, .int .i64 1, .int .i64 lo, .string ⟨#[]⟩, .complex .f64 0 0, .int .i64 1, .int .i64 hi, .string ⟨#[]⟩, .complex .f64 0 0, .complex .f64 0 0, .complex .f64 0 0]] w (Gives w #[.int .i64 1, .int .i64 r, .int .i64 0, .int .i64 1, .int .i64 lo, .string ⟨#[]⟩, .complex .f64 0 0, .int .i64 1, .int .i64 hi, .string ⟨#[]⟩, .complex .f64 0 0, .complex .f64 0 0, .complex .f64 0 0]) := by
  obtain ⟨w4, s8, s9, hw4, hs8, hs9, HB, H8, H9, HO⟩ := alloc2' w (.cells #[.int .i64 1, .int .i64 r, .int .i64 0, .int .i64 1, .int .i64 lo, .string ⟨#[]⟩, .complex .f64 0 0, .int .i64 1, .int .i64 hi, .string ⟨#[]⟩, .complex .f64 0 0, .complex .f64 0 0, .complex .f64 0 0] 36) (.cells #[.int .i64 0, .int .i64 0, .int .i64 0, .int .i64 0, .int .i64 0, .string ⟨#[]⟩, .complex .f64 0 0, .int .i64 0, .int .i64 0, .string ⟨#[]⟩, .complex .f64 0 0, .complex .f64 0 0, .complex .f64 0 0] 126)
  go_enter Try.func80, Try.ntmps80
  go_upto_region 1 with fail
  (try rw [hw4])
  (try rw [hs8])
  (try rw [hs9])
  clear hw4 hs8 hs9
  have U0 := Lib.hid (cell_of_row w4 s8 0 _ 36 _ H8.out)
  have U1 := Lib.hid (cell_of_row w4 s8 1 _ 36 _ H8.out)
  have U2 := Lib.hid (cell_of_row w4 s8 2 _ 36 _ H8.out)
  have U3 := Lib.hid (cell_of_row w4 s8 3 _ 36 _ H8.out)
  have U4 := Lib.hid (cell_of_row w4 s8 4 _ 36 _ H8.out)
  have U5 := Lib.hid (cell_of_row w4 s8 5 _ 36 _ H8.out)
  have U6 := Lib.hid (cell_of_row w4 s8 6 _ 36 _ H8.out)
  have U7 := Lib.hid (cell_of_row w4 s8 7 _ 36 _ H8.out)
  have U8 := Lib.hid (cell_of_row w4 s8 8 _ 36 _ H8.out)
  have U9 := Lib.hid (cell_of_row w4 s8 9 _ 36 _ H8.out)
  have U10 := Lib.hid (cell_of_row w4 s8 10 _ 36 _ H8.out)
  have U11 := Lib.hid (cell_of_row w4 s8 11 _ 36 _ H8.out)
  have U12 := Lib.hid (cell_of_row w4 s8 12 _ 36 _ H8.out)
  refine wp_region_noPanic ?_
  refine wp_region_held_drew (S := (fun W => W.cell? ⟨s8, 0, none⟩ = some (.int .i64 1) ∧ W.cell? ⟨s8, 1, none⟩ = some (.int .i64 r) ∧ W.cell? ⟨s8, 2, none⟩ = some (.int .i64 0) ∧ W.cell? ⟨s8, 3, none⟩ = some (.int .i64 1) ∧ W.cell? ⟨s8, 4, none⟩ = some (.int .i64 lo) ∧ W.cell? ⟨s8, 5, none⟩ = some (.string ⟨#[]⟩) ∧ W.cell? ⟨s8, 6, none⟩ = some (.complex .f64 0 0) ∧ W.cell? ⟨s8, 7, none⟩ = some (.int .i64 1) ∧ W.cell? ⟨s8, 8, none⟩ = some (.int .i64 hi) ∧ W.cell? ⟨s8, 9, none⟩ = some (.string ⟨#[]⟩) ∧ W.cell? ⟨s8, 10, none⟩ = some (.complex .f64 0 0) ∧ W.cell? ⟨s8, 11, none⟩ = some (.complex .f64 0 0) ∧ W.cell? ⟨s8, 12, none⟩ = some (.complex .f64 0 0))) (by kernel_rfl) ?_ (fun hHeld => ?_)
  · exact ⟨U0.out, U1.out, U2.out, U3.out, U4.out, U5.out, U6.out, U7.out, U8.out, U9.out, U10.out, U11.out, U12.out⟩
  refine wpAnyH_take (i := 0) (oi := { dst := some 3, op := Op.fieldAddr 36 (Operand.tmp 1) 0, type := 0, pos := "law.go:20", after := #[], guard := none }) (v := ?_) rfl (by kernel_rfl) (by kernel_rfl) (by kernel_rfl) (fun _ _ _ h => h) (Or.inl ⟨by rfl, ?_⟩) (by assumption) ?_
  rotate_left
  · (intro w hSw; (try dsimp only at hSw); go_simp; try with_reducible rfl)
  try simp only [Act.put, List.setIfInBounds_toArray, List.set_cons_zero, List.set_cons_succ]
  refine wpAnyH_take (i := 1) (oi := { dst := some 4, op := Op.load 3 (Operand.tmp 3), type := 3, pos := "law.go:20", after := #[{ on := 0, ground := Ground.data }], guard := none }) (v := ?_) rfl (by kernel_rfl) (by kernel_rfl) (by kernel_rfl) (fun _ _ _ h => h) (Or.inl ⟨by rfl, ?_⟩) (by assumption) ?_
  rotate_left
  · (intro w hSw; (try dsimp only at hSw); go_simp; try with_reducible rfl)
  try simp only [Act.put, List.setIfInBounds_toArray, List.set_cons_zero, List.set_cons_succ]
  refine wpAnyH_take (i := 2) (oi := { dst := some 5, op := Op.fieldAddr 36 (Operand.tmp 1) 1, type := 0, pos := "law.go:20", after := #[], guard := none }) (v := ?_) rfl (by kernel_rfl) (by kernel_rfl) (by kernel_rfl) (fun _ _ _ h => h) (Or.inl ⟨by rfl, ?_⟩) (by assumption) ?_
  rotate_left
  · (intro w hSw; (try dsimp only at hSw); go_simp; try with_reducible rfl)
  try simp only [Act.put, List.setIfInBounds_toArray, List.set_cons_zero, List.set_cons_succ]
  refine wpAnyH_take (i := 3) (oi := { dst := some 6, op := Op.load 3 (Operand.tmp 5), type := 3, pos := "law.go:20", after := #[{ on := 2, ground := Ground.data }], guard := none }) (v := ?_) rfl (by kernel_rfl) (by kernel_rfl) (by kernel_rfl) (fun _ _ _ h => h) (Or.inl ⟨by rfl, ?_⟩) (by assumption) ?_
  rotate_left
  · (intro w hSw; (try dsimp only at hSw); go_simp; try with_reducible rfl)
  try simp only [Act.put, List.setIfInBounds_toArray, List.set_cons_zero, List.set_cons_succ]
  refine wpAnyH_take (i := 4) (oi := { dst := some 7, op := Op.fieldAddr 36 (Operand.tmp 1) 2, type := 0, pos := "law.go:20", after := #[], guard := none }) (v := ?_) rfl (by kernel_rfl) (by kernel_rfl) (by kernel_rfl) (fun _ _ _ h => h) (Or.inl ⟨by rfl, ?_⟩) (by assumption) ?_
  rotate_left
  · (intro w hSw; (try dsimp only at hSw); go_simp; try with_reducible rfl)
  try simp only [Act.put, List.setIfInBounds_toArray, List.set_cons_zero, List.set_cons_succ]
  refine wpAnyH_take (i := 5) (oi := { dst := some 8, op := Op.load 3 (Operand.tmp 7), type := 3, pos := "law.go:20", after := #[{ on := 4, ground := Ground.data }], guard := none }) (v := ?_) rfl (by kernel_rfl) (by kernel_rfl) (by kernel_rfl) (fun _ _ _ h => h) (Or.inl ⟨by rfl, ?_⟩) (by assumption) ?_
  rotate_left
  · (intro w hSw; (try dsimp only at hSw); go_simp; try with_reducible rfl)
  try simp only [Act.put, List.setIfInBounds_toArray, List.set_cons_zero, List.set_cons_succ]
  refine wpAnyH_take (i := 6) (oi := { dst := some 9, op := Op.fieldAddr 36 (Operand.tmp 1) 3, type := 0, pos := "law.go:20", after := #[], guard := none }) (v := ?_) rfl (by kernel_rfl) (by kernel_rfl) (by kernel_rfl) (fun _ _ _ h => h) (Or.inl ⟨by rfl, ?_⟩) (by assumption) ?_
  rotate_left
  · (intro w hSw; (try dsimp only at hSw); go_simp; try with_reducible rfl)
  try simp only [Act.put, List.setIfInBounds_toArray, List.set_cons_zero, List.set_cons_succ]
  refine wpAnyH_take (i := 7) (oi := { dst := some 10, op := Op.load 32 (Operand.tmp 9), type := 32, pos := "law.go:20", after := #[{ on := 6, ground := Ground.data }], guard := none }) (v := ?_) rfl (by kernel_rfl) (by kernel_rfl) (by kernel_rfl) (fun _ _ _ h => h) (Or.inl ⟨by rfl, ?_⟩) (by assumption) ?_
  rotate_left
  · (intro w hSw; (try dsimp only at hSw); go_simp; try with_reducible rfl)
  try simp only [Act.put, List.setIfInBounds_toArray, List.set_cons_zero, List.set_cons_succ]
  refine wpAnyH_take (i := 9) (oi := { dst := some 12, op := Op.fieldAddr 36 (Operand.tmp 1) 4, type := 0, pos := "law.go:20", after := #[], guard := none }) (v := ?_) rfl (by kernel_rfl) (by kernel_rfl) (by kernel_rfl) (fun _ _ _ h => h) (Or.inl ⟨by rfl, ?_⟩) (by assumption) ?_
  rotate_left
  · (intro w hSw; (try dsimp only at hSw); go_simp; try with_reducible rfl)
  try simp only [Act.put, List.setIfInBounds_toArray, List.set_cons_zero, List.set_cons_succ]
  refine wpAnyH_take (i := 10) (oi := { dst := some 13, op := Op.load 32 (Operand.tmp 12), type := 32, pos := "law.go:20", after := #[{ on := 9, ground := Ground.data }], guard := none }) (v := ?_) rfl (by kernel_rfl) (by kernel_rfl) (by kernel_rfl) (fun _ _ _ h => h) (Or.inl ⟨by rfl, ?_⟩) (by assumption) ?_
  rotate_left
  · (intro w hSw; (try dsimp only at hSw); go_simp; try with_reducible rfl)
  try simp only [Act.put, List.setIfInBounds_toArray, List.set_cons_zero, List.set_cons_succ]
  refine wpAnyH_take (i := 12) (oi := { dst := some 15, op := Op.fieldAddr 36 (Operand.tmp 1) 5, type := 0, pos := "law.go:20", after := #[], guard := none }) (v := ?_) rfl (by kernel_rfl) (by kernel_rfl) (by kernel_rfl) (fun _ _ _ h => h) (Or.inl ⟨by rfl, ?_⟩) (by assumption) ?_
  rotate_left
  · (intro w hSw; (try dsimp only at hSw); go_simp; try with_reducible rfl)
  try simp only [Act.put, List.setIfInBounds_toArray, List.set_cons_zero, List.set_cons_succ]
  refine wpAnyH_take (i := 13) (oi := { dst := some 16, op := Op.load 34 (Operand.tmp 15), type := 34, pos := "law.go:20", after := #[{ on := 12, ground := Ground.data }], guard := none }) (v := ?_) rfl (by kernel_rfl) (by kernel_rfl) (by kernel_rfl) (fun _ _ _ h => h) (Or.inl ⟨by rfl, ?_⟩) (by assumption) ?_
  rotate_left
  · (intro w hSw; (try dsimp only at hSw); go_simp; try with_reducible rfl)
  try simp only [Act.put, List.setIfInBounds_toArray, List.set_cons_zero, List.set_cons_succ]
  refine wpAnyH_ready (rs := [8]) (by kernel_rfl) (by simp) ?_
  refine AllReadyH.cons (o := { dst := some 11, op := Op.call { callee := Callee.value (Operand.func 86), args := #[Operand.tmp 10], argTypes := #[32] }, type := 123, pos := "law.go:20", after := #[{ on := 7, ground := Ground.data }], guard := none }) rfl (fun K hK => ?_) AllReadyH.nil
  go_simp
  refine (Try.toVal _ lo).mono ?_
  rintro x w5 ⟨rfl, hb5⟩
  have B5 : Hid (Below w4.heap.size w4 w5) := Lib.hid ((Below.refl _ w4).drew.trans hb5)
  clear hb5
  refine hK.out _ _ ?_ (fun hHeld => ?_)
  · exact ⟨cellW U0.out B5.out, cellW U1.out B5.out, cellW U2.out B5.out, cellW U3.out B5.out, cellW U4.out B5.out, cellW U5.out B5.out, cellW U6.out B5.out, cellW U7.out B5.out, cellW U8.out B5.out, cellW U9.out B5.out, cellW U10.out B5.out, cellW U11.out B5.out, cellW U12.out B5.out⟩
  clear hK K
  try simp only [Act.put, List.setIfInBounds_toArray, List.set_cons_zero, List.set_cons_succ]
  refine wpAnyH_ready (rs := [11]) (by kernel_rfl) (by simp) ?_
  refine AllReadyH.cons (o := { dst := some 14, op := Op.call { callee := Callee.value (Operand.func 86), args := #[Operand.tmp 13], argTypes := #[32] }, type := 123, pos := "law.go:20", after := #[{ on := 10, ground := Ground.data }, { on := 8, ground := Ground.chain }], guard := none }) rfl (fun K hK => ?_) AllReadyH.nil
  go_simp
  refine (Try.toVal _ hi).mono ?_
  rintro x w6 ⟨rfl, hb6⟩
  have B6 : Hid (Below w4.heap.size w4 w6) := Lib.hid (B5.out.trans (hb6.mono B5.out.size))
  clear hb6
  refine hK.out _ _ ?_ (fun hHeld => ?_)
  · exact ⟨cellW U0.out B6.out, cellW U1.out B6.out, cellW U2.out B6.out, cellW U3.out B6.out, cellW U4.out B6.out, cellW U5.out B6.out, cellW U6.out B6.out, cellW U7.out B6.out, cellW U8.out B6.out, cellW U9.out B6.out, cellW U10.out B6.out, cellW U11.out B6.out, cellW U12.out B6.out⟩
  clear hK K
  try simp only [Act.put, List.setIfInBounds_toArray, List.set_cons_zero, List.set_cons_succ]
  refine wpAnyH_ready (rs := [14]) (by kernel_rfl) (by simp) ?_
  refine AllReadyH.cons (o := { dst := some 17, op := Op.call { callee := Callee.value (Operand.func 87), args := #[Operand.tmp 16], argTypes := #[34] }, type := 124, pos := "law.go:20", after := #[{ on := 13, ground := Ground.data }, { on := 11, ground := Ground.chain }], guard := none }) rfl (fun K hK => ?_) AllReadyH.nil
  go_simp
  refine (Try.toBox _).mono ?_
  rintro x w7 ⟨rfl, hb7⟩
  have B7 : Hid (Below w4.heap.size w4 w7) := Lib.hid (B6.out.trans (hb7.mono B6.out.size))
  clear hb7
  refine hK.out _ _ ?_ (fun hHeld => ?_)
  · exact ⟨cellW U0.out B7.out, cellW U1.out B7.out, cellW U2.out B7.out, cellW U3.out B7.out, cellW U4.out B7.out, cellW U5.out B7.out, cellW U6.out B7.out, cellW U7.out B7.out, cellW U8.out B7.out, cellW U9.out B7.out, cellW U10.out B7.out, cellW U11.out B7.out, cellW U12.out B7.out⟩
  clear hK K
  try simp only [Act.put, List.setIfInBounds_toArray, List.set_cons_zero, List.set_cons_succ]
  refine wpAnyH_take (i := 15) (oi := { dst := some 18, op := Op.build 126 #[(0, Operand.tmp 4), (1, Operand.tmp 6), (2, Operand.tmp 8), (3, Operand.tmp 11), (4, Operand.tmp 14), (5, Operand.tmp 17)], type := 126, pos := "law.go:20", after := #[{ on := 1, ground := Ground.data }, { on := 3, ground := Ground.data }, { on := 5, ground := Ground.data }, { on := 8, ground := Ground.data }, { on := 11, ground := Ground.data }, { on := 14, ground := Ground.data }], guard := none }) (v := ?_) rfl (by kernel_rfl) (by kernel_rfl) (by kernel_rfl) (fun _ _ _ h => h) (Or.inl ⟨by rfl, ?_⟩) (by assumption) ?_
  rotate_left
  · (intro w hSw; (try dsimp only at hSw); go_simp; try with_reducible rfl)
  try simp only [Act.put, List.setIfInBounds_toArray, List.set_cons_zero, List.set_cons_succ]
  refine wpAnyH_ready (rs := [16]) (by kernel_rfl) (by simp) ?_
  refine AllReadyH.cons (o := { dst := none, op := Op.store 126 (Operand.tmp 2) (Operand.tmp 18), type := 0, pos := "law.go:20", after := #[{ on := 15, ground := Ground.data }, { on := 14, ground := Ground.chain }, { on := 0, ground := Ground.phase }, { on := 1, ground := Ground.phase }, { on := 2, ground := Ground.phase }, { on := 3, ground := Ground.phase }, { on := 4, ground := Ground.phase }, { on := 5, ground := Ground.phase }, { on := 6, ground := Ground.phase }, { on := 7, ground := Ground.phase }, { on := 8, ground := Ground.phase }, { on := 9, ground := Ground.phase }, { on := 10, ground := Ground.phase }, { on := 11, ground := Ground.phase }, { on := 12, ground := Ground.phase }, { on := 13, ground := Ground.phase }, { on := 14, ground := Ground.phase }, { on := 15, ground := Ground.phase }], guard := none }) rfl (fun K hK => ?_) AllReadyH.nil
  have HZ7 : Hid (w7.heap[s9]? = some (.cells #[.int .i64 0, .int .i64 0, .int .i64 0, .int .i64 0, .int .i64 0, .string ⟨#[]⟩, .complex .f64 0 0, .int .i64 0, .int .i64 0, .string ⟨#[]⟩, .complex .f64 0 0, .complex .f64 0 0, .complex .f64 0 0] 126 (0, 0))) := Lib.hid ((B7.out.block s9 (Go.NR.heap_lt H9.out)).trans H9.out)
  refine oper_store_at _ 126 (.tmp 2) (.tmp 18) rfl s9 126 0 #[.int .i64 1, .int .i64 r, .int .i64 0, .int .i64 1, .int .i64 lo, .string ⟨#[]⟩, .complex .f64 0 0, .int .i64 1, .int .i64 hi, .string ⟨#[]⟩, .complex .f64 0 0, .complex .f64 0 0, .complex .f64 0 0] #[.int .i64 0, .int .i64 0, .int .i64 0, .int .i64 0, .int .i64 0, .string ⟨#[]⟩, .complex .f64 0 0, .int .i64 0, .int .i64 0, .string ⟨#[]⟩, .complex .f64 0 0, .complex .f64 0 0, .complex .f64 0 0] #[.int .i64 1, .int .i64 r, .int .i64 0, .int .i64 1, .int .i64 lo, .string ⟨#[]⟩, .complex .f64 0 0, .int .i64 1, .int .i64 hi, .string ⟨#[]⟩, .complex .f64 0 0, .complex .f64 0 0, .complex .f64 0 0] rfl rfl HZ7.out (show 0 + 13 ≤ 13 by omega) rfl size126 (one_s r lo hi) ?_
  refine hK.out _ _ ?_ (fun hHeld => ?_)
  · exact ⟨(World.cell?_of_block (Go.NR.setRow_else _ s9 _ s8 HO.out.2.2)).trans (cellW U0.out B7.out), (World.cell?_of_block (Go.NR.setRow_else _ s9 _ s8 HO.out.2.2)).trans (cellW U1.out B7.out), (World.cell?_of_block (Go.NR.setRow_else _ s9 _ s8 HO.out.2.2)).trans (cellW U2.out B7.out), (World.cell?_of_block (Go.NR.setRow_else _ s9 _ s8 HO.out.2.2)).trans (cellW U3.out B7.out), (World.cell?_of_block (Go.NR.setRow_else _ s9 _ s8 HO.out.2.2)).trans (cellW U4.out B7.out), (World.cell?_of_block (Go.NR.setRow_else _ s9 _ s8 HO.out.2.2)).trans (cellW U5.out B7.out), (World.cell?_of_block (Go.NR.setRow_else _ s9 _ s8 HO.out.2.2)).trans (cellW U6.out B7.out), (World.cell?_of_block (Go.NR.setRow_else _ s9 _ s8 HO.out.2.2)).trans (cellW U7.out B7.out), (World.cell?_of_block (Go.NR.setRow_else _ s9 _ s8 HO.out.2.2)).trans (cellW U8.out B7.out), (World.cell?_of_block (Go.NR.setRow_else _ s9 _ s8 HO.out.2.2)).trans (cellW U9.out B7.out), (World.cell?_of_block (Go.NR.setRow_else _ s9 _ s8 HO.out.2.2)).trans (cellW U10.out B7.out), (World.cell?_of_block (Go.NR.setRow_else _ s9 _ s8 HO.out.2.2)).trans (cellW U11.out B7.out), (World.cell?_of_block (Go.NR.setRow_else _ s9 _ s8 HO.out.2.2)).trans (cellW U12.out B7.out)⟩
  clear hK K
  try simp only [Act.put, List.setIfInBounds_toArray, List.set_cons_zero, List.set_cons_succ]
  refine wpAnyH_done (by kernel_rfl) ?_ _
  refine NoPanic.normal ?_
  have HZ7 : Hid (w7.heap[s9]? = some (.cells #[.int .i64 0, .int .i64 0, .int .i64 0, .int .i64 0, .int .i64 0, .string ⟨#[]⟩, .complex .f64 0 0, .int .i64 0, .int .i64 0, .string ⟨#[]⟩, .complex .f64 0 0, .complex .f64 0 0, .complex .f64 0 0] 126 (0, 0))) := Lib.hid ((B7.out.block s9 (Go.NR.heap_lt H9.out)).trans H9.out)
  go_wp2_with fail
  refine bodyPost_ret (results_cell1 rfl _ _ s9 126 _ _ rfl (setRow_heap' _ s9 _ _ 126 HZ7.out) size126 st126) rfl ?_
  exact ⟨rfl, Below.setRow (HB.out.trans (B7.out.mono HB.out.size)) HO.out.2.1 _⟩
set_option maxHeartbeats 8000000 in
theorem Try.toChunk (w : World) (a n r lo hi : Int) : Calls Try.prog 54 #[.agg #[.int .i64 a, .int .i64 n, .int .i64 1, .int .i64 r, .int .i64 0, .int .i64 1, .int .i64 lo, .string ⟨#[]⟩, .complex .f64 0 0, .int .i64 1, .int .i64 hi, .string ⟨#[]⟩, .complex .f64 0 0, .complex .f64 0 0, .complex .f64 0 0]] w (Gives w #[.int .i64 a, .int .i64 n, .int .i64 1, .int .i64 r, .int .i64 0, .int .i64 1, .int .i64 lo, .string ⟨#[]⟩, .complex .f64 0 0, .int .i64 1, .int .i64 hi, .string ⟨#[]⟩, .complex .f64 0 0, .complex .f64 0 0, .complex .f64 0 0]) := by
  obtain ⟨w4, s8, s9, hw4, hs8, hs9, HB, H8, H9, HO⟩ := alloc2' w (.cells #[.int .i64 a, .int .i64 n, .int .i64 1, .int .i64 r, .int .i64 0, .int .i64 1, .int .i64 lo, .string ⟨#[]⟩, .complex .f64 0 0, .int .i64 1, .int .i64 hi, .string ⟨#[]⟩, .complex .f64 0 0, .complex .f64 0 0, .complex .f64 0 0] 40) (.cells #[.int .i64 0, .int .i64 0, .int .i64 0, .int .i64 0, .int .i64 0, .int .i64 0, .int .i64 0, .string ⟨#[]⟩, .complex .f64 0 0, .int .i64 0, .int .i64 0, .string ⟨#[]⟩, .complex .f64 0 0, .complex .f64 0 0, .complex .f64 0 0] 128)
  go_enter Try.func54, Try.ntmps54
  go_upto_region 1 with fail
  (try rw [hw4])
  (try rw [hs8])
  (try rw [hs9])
  clear hw4 hs8 hs9
  have U0 := Lib.hid (cell_of_row w4 s8 0 _ 40 _ H8.out)
  have U1 := Lib.hid (cell_of_row w4 s8 1 _ 40 _ H8.out)
  have U2 := Lib.hid (cell_of_row w4 s8 2 _ 40 _ H8.out)
  have U3 := Lib.hid (cell_of_row w4 s8 3 _ 40 _ H8.out)
  have U4 := Lib.hid (cell_of_row w4 s8 4 _ 40 _ H8.out)
  have U5 := Lib.hid (cell_of_row w4 s8 5 _ 40 _ H8.out)
  have U6 := Lib.hid (cell_of_row w4 s8 6 _ 40 _ H8.out)
  have U7 := Lib.hid (cell_of_row w4 s8 7 _ 40 _ H8.out)
  have U8 := Lib.hid (cell_of_row w4 s8 8 _ 40 _ H8.out)
  have U9 := Lib.hid (cell_of_row w4 s8 9 _ 40 _ H8.out)
  have U10 := Lib.hid (cell_of_row w4 s8 10 _ 40 _ H8.out)
  have U11 := Lib.hid (cell_of_row w4 s8 11 _ 40 _ H8.out)
  have U12 := Lib.hid (cell_of_row w4 s8 12 _ 40 _ H8.out)
  have U13 := Lib.hid (cell_of_row w4 s8 13 _ 40 _ H8.out)
  have U14 := Lib.hid (cell_of_row w4 s8 14 _ 40 _ H8.out)
  refine wp_region_noPanic ?_
  refine wp_region_held_drew (S := (fun W => W.cell? ⟨s8, 0, none⟩ = some (.int .i64 a) ∧ W.cell? ⟨s8, 1, none⟩ = some (.int .i64 n) ∧ W.cell? ⟨s8, 2, none⟩ = some (.int .i64 1) ∧ W.cell? ⟨s8, 3, none⟩ = some (.int .i64 r) ∧ W.cell? ⟨s8, 4, none⟩ = some (.int .i64 0) ∧ W.cell? ⟨s8, 5, none⟩ = some (.int .i64 1) ∧ W.cell? ⟨s8, 6, none⟩ = some (.int .i64 lo) ∧ W.cell? ⟨s8, 7, none⟩ = some (.string ⟨#[]⟩) ∧ W.cell? ⟨s8, 8, none⟩ = some (.complex .f64 0 0) ∧ W.cell? ⟨s8, 9, none⟩ = some (.int .i64 1) ∧ W.cell? ⟨s8, 10, none⟩ = some (.int .i64 hi) ∧ W.cell? ⟨s8, 11, none⟩ = some (.string ⟨#[]⟩) ∧ W.cell? ⟨s8, 12, none⟩ = some (.complex .f64 0 0) ∧ W.cell? ⟨s8, 13, none⟩ = some (.complex .f64 0 0) ∧ W.cell? ⟨s8, 14, none⟩ = some (.complex .f64 0 0))) (by kernel_rfl) ?_ (fun hHeld => ?_)
  · exact ⟨U0.out, U1.out, U2.out, U3.out, U4.out, U5.out, U6.out, U7.out, U8.out, U9.out, U10.out, U11.out, U12.out, U13.out, U14.out⟩
  refine wpAnyH_take (i := 0) (oi := { dst := some 3, op := Op.fieldAddr 40 (Operand.tmp 1) 0, type := 0, pos := "law.go:30", after := #[], guard := none }) (v := ?_) rfl (by kernel_rfl) (by kernel_rfl) (by kernel_rfl) (fun _ _ _ h => h) (Or.inl ⟨by rfl, ?_⟩) (by assumption) ?_
  rotate_left
  · (intro w hSw; (try dsimp only at hSw); go_simp; try with_reducible rfl)
  try simp only [Act.put, List.setIfInBounds_toArray, List.set_cons_zero, List.set_cons_succ]
  refine wpAnyH_take (i := 1) (oi := { dst := some 4, op := Op.load 38 (Operand.tmp 3), type := 38, pos := "law.go:30", after := #[{ on := 0, ground := Ground.data }], guard := none }) (v := ?_) rfl (by kernel_rfl) (by kernel_rfl) (by kernel_rfl) (fun _ _ _ h => h) (Or.inl ⟨by rfl, ?_⟩) (by assumption) ?_
  rotate_left
  · (intro w hSw; (try dsimp only at hSw); go_simp; try with_reducible rfl)
  try simp only [Act.put, List.setIfInBounds_toArray, List.set_cons_zero, List.set_cons_succ]
  refine wpAnyH_take (i := 3) (oi := { dst := some 6, op := Op.fieldAddr 40 (Operand.tmp 1) 1, type := 0, pos := "law.go:30", after := #[], guard := none }) (v := ?_) rfl (by kernel_rfl) (by kernel_rfl) (by kernel_rfl) (fun _ _ _ h => h) (Or.inl ⟨by rfl, ?_⟩) (by assumption) ?_
  rotate_left
  · (intro w hSw; (try dsimp only at hSw); go_simp; try with_reducible rfl)
  try simp only [Act.put, List.setIfInBounds_toArray, List.set_cons_zero, List.set_cons_succ]
  refine wpAnyH_take (i := 4) (oi := { dst := some 7, op := Op.load 36 (Operand.tmp 6), type := 36, pos := "law.go:30", after := #[{ on := 3, ground := Ground.data }], guard := none }) (v := ?_) rfl (by kernel_rfl) (by kernel_rfl) (by kernel_rfl) (fun _ _ _ h => h) (Or.inl ⟨by rfl, ?_⟩) (by assumption) ?_
  rotate_left
  · (intro w hSw; (try dsimp only at hSw); go_simp; try with_reducible rfl)
  try simp only [Act.put, List.setIfInBounds_toArray, List.set_cons_zero, List.set_cons_succ]
  refine wpAnyH_ready (rs := [2]) (by kernel_rfl) (by simp) ?_
  refine AllReadyH.cons (o := { dst := some 5, op := Op.call { callee := Callee.value (Operand.func 79), args := #[Operand.tmp 4], argTypes := #[38] }, type := 60, pos := "law.go:30", after := #[{ on := 1, ground := Ground.data }], guard := none }) rfl (fun K hK => ?_) AllReadyH.nil
  go_simp
  refine (Try.toExt _ a n).mono ?_
  rintro x w5 ⟨rfl, hb5⟩
  have B5 : Hid (Below w4.heap.size w4 w5) := Lib.hid ((Below.refl _ w4).drew.trans hb5)
  clear hb5
  refine hK.out _ _ ?_ (fun hHeld => ?_)
  · exact ⟨cellW U0.out B5.out, cellW U1.out B5.out, cellW U2.out B5.out, cellW U3.out B5.out, cellW U4.out B5.out, cellW U5.out B5.out, cellW U6.out B5.out, cellW U7.out B5.out, cellW U8.out B5.out, cellW U9.out B5.out, cellW U10.out B5.out, cellW U11.out B5.out, cellW U12.out B5.out, cellW U13.out B5.out, cellW U14.out B5.out⟩
  clear hK K
  try simp only [Act.put, List.setIfInBounds_toArray, List.set_cons_zero, List.set_cons_succ]
  refine wpAnyH_ready (rs := [5]) (by kernel_rfl) (by simp) ?_
  refine AllReadyH.cons (o := { dst := some 8, op := Op.call { callee := Callee.value (Operand.func 80), args := #[Operand.tmp 7], argTypes := #[36] }, type := 126, pos := "law.go:30", after := #[{ on := 4, ground := Ground.data }, { on := 2, ground := Ground.chain }], guard := none }) rfl (fun K hK => ?_) AllReadyH.nil
  go_simp
  refine (Try.toStat _ r lo hi).mono ?_
  rintro x w6 ⟨rfl, hb6⟩
  have B6 : Hid (Below w4.heap.size w4 w6) := Lib.hid (B5.out.trans (hb6.mono B5.out.size))
  clear hb6
  refine hK.out _ _ ?_ (fun hHeld => ?_)
  · exact ⟨cellW U0.out B6.out, cellW U1.out B6.out, cellW U2.out B6.out, cellW U3.out B6.out, cellW U4.out B6.out, cellW U5.out B6.out, cellW U6.out B6.out, cellW U7.out B6.out, cellW U8.out B6.out, cellW U9.out B6.out, cellW U10.out B6.out, cellW U11.out B6.out, cellW U12.out B6.out, cellW U13.out B6.out, cellW U14.out B6.out⟩
  clear hK K
  try simp only [Act.put, List.setIfInBounds_toArray, List.set_cons_zero, List.set_cons_succ]
  refine wpAnyH_take (i := 6) (oi := { dst := some 9, op := Op.build 128 #[(0, Operand.tmp 5), (1, Operand.tmp 8)], type := 128, pos := "law.go:30", after := #[{ on := 2, ground := Ground.data }, { on := 5, ground := Ground.data }], guard := none }) (v := ?_) rfl (by kernel_rfl) (by kernel_rfl) (by kernel_rfl) (fun _ _ _ h => h) (Or.inl ⟨by rfl, ?_⟩) (by assumption) ?_
  rotate_left
  · (intro w hSw; (try dsimp only at hSw); go_simp; try with_reducible rfl)
  try simp only [Act.put, List.setIfInBounds_toArray, List.set_cons_zero, List.set_cons_succ]
  refine wpAnyH_ready (rs := [7]) (by kernel_rfl) (by simp) ?_
  refine AllReadyH.cons (o := { dst := none, op := Op.store 128 (Operand.tmp 2) (Operand.tmp 9), type := 0, pos := "law.go:30", after := #[{ on := 6, ground := Ground.data }, { on := 5, ground := Ground.chain }, { on := 0, ground := Ground.phase }, { on := 1, ground := Ground.phase }, { on := 2, ground := Ground.phase }, { on := 3, ground := Ground.phase }, { on := 4, ground := Ground.phase }, { on := 5, ground := Ground.phase }, { on := 6, ground := Ground.phase }], guard := none }) rfl (fun K hK => ?_) AllReadyH.nil
  have HZ7 : Hid (w6.heap[s9]? = some (.cells #[.int .i64 0, .int .i64 0, .int .i64 0, .int .i64 0, .int .i64 0, .int .i64 0, .int .i64 0, .string ⟨#[]⟩, .complex .f64 0 0, .int .i64 0, .int .i64 0, .string ⟨#[]⟩, .complex .f64 0 0, .complex .f64 0 0, .complex .f64 0 0] 128 (0, 0))) := Lib.hid ((B6.out.block s9 (Go.NR.heap_lt H9.out)).trans H9.out)
  refine oper_store_at _ 128 (.tmp 2) (.tmp 9) rfl s9 128 0 #[.int .i64 a, .int .i64 n, .int .i64 1, .int .i64 r, .int .i64 0, .int .i64 1, .int .i64 lo, .string ⟨#[]⟩, .complex .f64 0 0, .int .i64 1, .int .i64 hi, .string ⟨#[]⟩, .complex .f64 0 0, .complex .f64 0 0, .complex .f64 0 0] #[.int .i64 0, .int .i64 0, .int .i64 0, .int .i64 0, .int .i64 0, .int .i64 0, .int .i64 0, .string ⟨#[]⟩, .complex .f64 0 0, .int .i64 0, .int .i64 0, .string ⟨#[]⟩, .complex .f64 0 0, .complex .f64 0 0, .complex .f64 0 0] #[.int .i64 a, .int .i64 n, .int .i64 1, .int .i64 r, .int .i64 0, .int .i64 1, .int .i64 lo, .string ⟨#[]⟩, .complex .f64 0 0, .int .i64 1, .int .i64 hi, .string ⟨#[]⟩, .complex .f64 0 0, .complex .f64 0 0, .complex .f64 0 0] rfl rfl HZ7.out (show 0 + 15 ≤ 15 by omega) rfl size128 (one_k a n r lo hi) ?_
  refine hK.out _ _ ?_ (fun hHeld => ?_)
  · exact ⟨(World.cell?_of_block (Go.NR.setRow_else _ s9 _ s8 HO.out.2.2)).trans (cellW U0.out B6.out), (World.cell?_of_block (Go.NR.setRow_else _ s9 _ s8 HO.out.2.2)).trans (cellW U1.out B6.out), (World.cell?_of_block (Go.NR.setRow_else _ s9 _ s8 HO.out.2.2)).trans (cellW U2.out B6.out), (World.cell?_of_block (Go.NR.setRow_else _ s9 _ s8 HO.out.2.2)).trans (cellW U3.out B6.out), (World.cell?_of_block (Go.NR.setRow_else _ s9 _ s8 HO.out.2.2)).trans (cellW U4.out B6.out), (World.cell?_of_block (Go.NR.setRow_else _ s9 _ s8 HO.out.2.2)).trans (cellW U5.out B6.out), (World.cell?_of_block (Go.NR.setRow_else _ s9 _ s8 HO.out.2.2)).trans (cellW U6.out B6.out), (World.cell?_of_block (Go.NR.setRow_else _ s9 _ s8 HO.out.2.2)).trans (cellW U7.out B6.out), (World.cell?_of_block (Go.NR.setRow_else _ s9 _ s8 HO.out.2.2)).trans (cellW U8.out B6.out), (World.cell?_of_block (Go.NR.setRow_else _ s9 _ s8 HO.out.2.2)).trans (cellW U9.out B6.out), (World.cell?_of_block (Go.NR.setRow_else _ s9 _ s8 HO.out.2.2)).trans (cellW U10.out B6.out), (World.cell?_of_block (Go.NR.setRow_else _ s9 _ s8 HO.out.2.2)).trans (cellW U11.out B6.out), (World.cell?_of_block (Go.NR.setRow_else _ s9 _ s8 HO.out.2.2)).trans (cellW U12.out B6.out), (World.cell?_of_block (Go.NR.setRow_else _ s9 _ s8 HO.out.2.2)).trans (cellW U13.out B6.out), (World.cell?_of_block (Go.NR.setRow_else _ s9 _ s8 HO.out.2.2)).trans (cellW U14.out B6.out)⟩
  clear hK K
  try simp only [Act.put, List.setIfInBounds_toArray, List.set_cons_zero, List.set_cons_succ]
  refine wpAnyH_done (by kernel_rfl) ?_ _
  refine NoPanic.normal ?_
  have HZ7 : Hid (w6.heap[s9]? = some (.cells #[.int .i64 0, .int .i64 0, .int .i64 0, .int .i64 0, .int .i64 0, .int .i64 0, .int .i64 0, .string ⟨#[]⟩, .complex .f64 0 0, .int .i64 0, .int .i64 0, .string ⟨#[]⟩, .complex .f64 0 0, .complex .f64 0 0, .complex .f64 0 0] 128 (0, 0))) := Lib.hid ((B6.out.block s9 (Go.NR.heap_lt H9.out)).trans H9.out)
  go_wp2_with fail
  refine bodyPost_ret (results_cell1 rfl _ _ s9 128 _ _ rfl (setRow_heap' _ s9 _ _ 128 HZ7.out) size128 st128) rfl ?_
  exact ⟨rfl, Below.setRow (HB.out.trans (B6.out.mono HB.out.size)) HO.out.2.1 _⟩
end Go.Proofs.Ytfblhcphbcghpaa
end

section
namespace Go.Proofs.Ytfblhcphbcghpaa
open Go.RowKit
open Go.NR (At)
set_option maxRecDepth 100000
theorem Try.E77 : Go.NR.Elems Try.prog 77 128 15 168 (.agg #[.int .i64 0, .int .i64 0, .int .i64 0, .int .i64 0, .int .i64 0, .int .i64 0, .int .i64 0, .string ⟨#[]⟩, .complex .f64 0 0, .int .i64 0, .int .i64 0, .string ⟨#[]⟩, .complex .f64 0 0, .complex .f64 0 0, .complex .f64 0 0]) := ⟨by kernel_rfl, by kernel_rfl, rfl, by decide, by decide⟩
def G1 (w : World) (B : Nat) (g c : Nat) (l : Array Value) : Prop := B ≤ g ∧ 1 ≤ c ∧ c ≤ maxLen ∧ At w g l.toList
theorem kcl_ne (a n r lo hi : Int) : (kcl a n r lo hi).toList ≠ [] := by unfold kcl; simp
theorem kcl_len (a n r lo hi : Int) : (kcl a n r lo hi).toList.length = 15 := rfl
theorem one_g (rows : Int) (A : Option Addr) (m c : Nat) : ∀ u ∈ (#[Value.int .i64 rows, .slice A m c] : Array Value).toList, u.oneCell' = true := by
  intro u hu
  have h : u ∈ ([.int .i64 rows, .slice A m c] : List Value) := hu
  simp only [List.mem_cons, List.not_mem_nil, or_false] at h
  rcases h with rfl | rfl <;> rfl
structure TG (w w5 : World) (B s8 s9 s10 : Nat) (rows : Int) (l : Array Value) (W : World) (g c : Nat) : Prop where
  h10 : W.heap[s10]? = some (.cells #[.int .i64 rows, .slice (some ⟨g, 0, none⟩) 1 c] 79 (0, 0))
  here : G1 W w.heap.size g c l
  be : Below w.heap.size w W
  s8 : W.heap[s8]? = w5.heap[s8]?
  s9 : W.heap[s9]? = w5.heap[s9]?
  new : w5.heap.size ≤ g
set_option maxHeartbeats 8000000 in
theorem Try.toGroup (w : World) (rows a n r lo hi : Int) {g c : Nat} (hG : G1 w 0 g c (kcl a n r lo hi)) : Calls Try.prog 22 #[.agg #[.int .i64 rows, .slice (some ⟨g, 0, none⟩) 1 c]] w fun x w' => ∃ g' c', x = .returned (.agg #[.int .i64 rows, .slice (some ⟨g', 0, none⟩) 1 c']) ∧ G1 w' w.heap.size g' c' (kcl a n r lo hi) ∧ Below w.heap.size w w' := by
  obtain ⟨w4, s8, s9, hw4, hs8, hs9, HB, H8, H9, HO⟩ := alloc2' w (.cells #[.int .i64 rows, .slice (some ⟨g, 0, none⟩) 1 c] 43) (.cells #[.int .i64 0, .slice none 0 0] 79)
  have HG := Lib.hid hG
  have hcm : c ≤ maxLen := hG.2.2.1
  have hc1 : 1 ≤ c := hG.2.1
  clear hG
  go_enter Try.func22, Try.ntmps22
  go_upto_region 1 with fail
  (try rw [hw4])
  (try rw [hs8])
  (try rw [hs9])
  clear hw4 hs8 hs9
  have V0 := cell_of_row w4 s8 0 _ 43 _ H8.out
  simp at V0
  go_upto_region 2 with fail
  have hb5 := (Below.refl w4.heap.size w4).alloc (Nat.le_refl _) (.cells #[.int .i64 rows, .slice none 0 0] 79)
  have h10 := heap_alloc_new w4 (.cells #[.int .i64 rows, .slice none 0 0] 79)
  have HL4 : Hid (s8 < w4.heap.size ∧ s9 < w4.heap.size ∧ w.heap.size ≤ w4.heap.size) := Lib.hid ⟨Go.NR.heap_lt H8.out, Go.NR.heap_lt H9.out, HB.out.size⟩
  obtain ⟨w5, hw5⟩ : ∃ w5, w4.alloc (.cells #[.int .i64 rows, .slice none 0 0] 79) = w5 := ⟨_, rfl⟩
  obtain ⟨s10, hs10⟩ : ∃ s10, w4.heap.size = s10 := ⟨_, rfl⟩
  rw [hw5] at hb5 h10
  rw [hs10] at h10 HL4
  rw [hw5]
  rw [hs10]
  have K8 := Lib.hid ((hb5.block s8 (Go.NR.heap_lt H8.out)).trans H8.out)
  have K9 := Lib.hid ((hb5.block s9 (Go.NR.heap_lt H9.out)).trans H9.out)
  have HS := Lib.hid h10
  have HB5 := Lib.hid (HB.out.trans (hb5.mono HB.out.size))
  have HA : Hid (At w5 g (kcl a n r lo hi).toList) := Lib.hid (HG.out.2.2.2.below (kcl_ne a n r lo hi) HB5.out)
  have HGL : Hid (g < w.heap.size) := Lib.hid (HG.out.2.2.2.lt (kcl_ne a n r lo hi))
  clear hw5 hs10 hb5 h10 H8 H9 HB V0 HG
  go_wp2_with fail
  go_loopw [4] (fun t W => (t = .int .i64 0 ∧ W = w5) ∨ (t = .int .i64 1 ∧ ∃ g' c', Hid (TG w w5 w.heap.size s8 s9 s10 rows (kcl a n r lo hi) W g' c'))) (fun t _ => 1 - (intOf t).toNat)
  case atStart => exact .inl ⟨rfl, rfl⟩
  case round =>
    rename World => W
    rcases hrel with ⟨rfl, hW⟩ | ⟨rfl, g', c', HT⟩
    · subst W
      have z1 := cell_of_row w5 s8 1 _ 43 _ K8.out
      simp at z1
      go_upto_region 5 with fail
      have Z1 := Lib.hid z1
      have HCL := cell_of_row w5 s10 1 _ 79 _ HS.out
      simp at HCL
      have HCL := Lib.hid HCL
      clear z1
      have OW : Hid (w5.ownsRow w.heap.size 128 15 (.slice none 0 0) 0 []) := Lib.hid (World.ownsRow_nil w5 w.heap.size 128 15)
      have HNE : Hid (∀ k, (Value.slice none 0 0).ownBlock = some k → k ≠ s10) := Lib.hid (fun k hk => by simp [Value.ownBlock] at hk)
      have HBW : Hid (w.heap.size ≤ w5.heap.size) := Lib.hid HB5.out.size
      have U0 : Hid (w5.cell? ⟨g, 0, none⟩ = some (.int .i64 a)) := Lib.hid (HA.out 0 _ rfl)
      have U1 : Hid (w5.cell? ⟨g, 1, none⟩ = some (.int .i64 n)) := Lib.hid (HA.out 1 _ rfl)
      have U2 : Hid (w5.cell? ⟨g, 2, none⟩ = some (.int .i64 1)) := Lib.hid (HA.out 2 _ rfl)
      have U3 : Hid (w5.cell? ⟨g, 3, none⟩ = some (.int .i64 r)) := Lib.hid (HA.out 3 _ rfl)
      have U4 : Hid (w5.cell? ⟨g, 4, none⟩ = some (.int .i64 0)) := Lib.hid (HA.out 4 _ rfl)
      have U5 : Hid (w5.cell? ⟨g, 5, none⟩ = some (.int .i64 1)) := Lib.hid (HA.out 5 _ rfl)
      have U6 : Hid (w5.cell? ⟨g, 6, none⟩ = some (.int .i64 lo)) := Lib.hid (HA.out 6 _ rfl)
      have U7 : Hid (w5.cell? ⟨g, 7, none⟩ = some (.string ⟨#[]⟩)) := Lib.hid (HA.out 7 _ rfl)
      have U8 : Hid (w5.cell? ⟨g, 8, none⟩ = some (.complex .f64 0 0)) := Lib.hid (HA.out 8 _ rfl)
      have U9 : Hid (w5.cell? ⟨g, 9, none⟩ = some (.int .i64 1)) := Lib.hid (HA.out 9 _ rfl)
      have U10 : Hid (w5.cell? ⟨g, 10, none⟩ = some (.int .i64 hi)) := Lib.hid (HA.out 10 _ rfl)
      have U11 : Hid (w5.cell? ⟨g, 11, none⟩ = some (.string ⟨#[]⟩)) := Lib.hid (HA.out 11 _ rfl)
      have U12 : Hid (w5.cell? ⟨g, 12, none⟩ = some (.complex .f64 0 0)) := Lib.hid (HA.out 12 _ rfl)
      have U13 : Hid (w5.cell? ⟨g, 13, none⟩ = some (.complex .f64 0 0)) := Lib.hid (HA.out 13 _ rfl)
      have U14 : Hid (w5.cell? ⟨g, 14, none⟩ = some (.complex .f64 0 0)) := Lib.hid (HA.out 14 _ rfl)
      refine wp_region_noPanic ?_
      refine wp_region_held_drew (S := (fun W => W.cell? ⟨s8, 1, none⟩ = some (.slice (some ⟨g, 0, none⟩) 1 c) ∧ W.cell? ⟨g, 0, none⟩ = some (.int .i64 a) ∧ W.cell? ⟨g, 1, none⟩ = some (.int .i64 n) ∧ W.cell? ⟨g, 2, none⟩ = some (.int .i64 1) ∧ W.cell? ⟨g, 3, none⟩ = some (.int .i64 r) ∧ W.cell? ⟨g, 4, none⟩ = some (.int .i64 0) ∧ W.cell? ⟨g, 5, none⟩ = some (.int .i64 1) ∧ W.cell? ⟨g, 6, none⟩ = some (.int .i64 lo) ∧ W.cell? ⟨g, 7, none⟩ = some (.string ⟨#[]⟩) ∧ W.cell? ⟨g, 8, none⟩ = some (.complex .f64 0 0) ∧ W.cell? ⟨g, 9, none⟩ = some (.int .i64 1) ∧ W.cell? ⟨g, 10, none⟩ = some (.int .i64 hi) ∧ W.cell? ⟨g, 11, none⟩ = some (.string ⟨#[]⟩) ∧ W.cell? ⟨g, 12, none⟩ = some (.complex .f64 0 0) ∧ W.cell? ⟨g, 13, none⟩ = some (.complex .f64 0 0) ∧ W.cell? ⟨g, 14, none⟩ = some (.complex .f64 0 0))) (by kernel_rfl) ?_ (fun hHeld => ?_)
      · exact ⟨Z1.out, U0.out, U1.out, U2.out, U3.out, U4.out, U5.out, U6.out, U7.out, U8.out, U9.out, U10.out, U11.out, U12.out, U13.out, U14.out⟩
      obtain ⟨V0, hV0⟩ : ∃ V0, w5.drew = V0 := ⟨_, rfl⟩
      have K0 : Hid (Below w5.heap.size w5 V0) := Lib.hid (by rw [← hV0]; exact (Below.refl _ w5).drew)
      rw [hV0] at hHeld ⊢
      clear hV0
      refine wpAnyH_take (i := 0) (oi := { dst := some 15, op := Op.fieldAddr 79 (Operand.tmp 3) 1, type := 0, pos := "law.go:36", after := #[], guard := none }) (v := ?_) rfl (by kernel_rfl) (by kernel_rfl) (by kernel_rfl) (fun _ _ _ h => h) (Or.inl ⟨by rfl, ?_⟩) (by assumption) ?_
      rotate_left
      · (intro w hSw; (try dsimp only at hSw); go_simp; try with_reducible rfl)
      try simp only [Act.put, List.setIfInBounds_toArray, List.set_cons_zero, List.set_cons_succ]
      refine wpAnyH_take (i := 2) (oi := { dst := some 17, op := Op.fieldAddr 43 (Operand.tmp 1) 1, type := 0, pos := "law.go:36", after := #[], guard := none }) (v := ?_) rfl (by kernel_rfl) (by kernel_rfl) (by kernel_rfl) (fun _ _ _ h => h) (Or.inl ⟨by rfl, ?_⟩) (by assumption) ?_
      rotate_left
      · (intro w hSw; (try dsimp only at hSw); go_simp; try with_reducible rfl)
      try simp only [Act.put, List.setIfInBounds_toArray, List.set_cons_zero, List.set_cons_succ]
      refine wpAnyH_take (i := 3) (oi := { dst := some 18, op := Op.load 41 (Operand.tmp 17), type := 41, pos := "law.go:36", after := #[{ on := 2, ground := Ground.data }], guard := none }) (v := ?_) rfl (by kernel_rfl) (by kernel_rfl) (by kernel_rfl) (fun _ _ _ h => h) (Or.inl ⟨by rfl, ?_⟩) (by assumption) ?_
      rotate_left
      · (intro w hSw; (try dsimp only at hSw); go_simp; try with_reducible rfl)
      try simp only [Act.put, List.setIfInBounds_toArray, List.set_cons_zero, List.set_cons_succ]
      refine wpAnyH_take (i := 4) (oi := { dst := some 19, op := Op.move (Operand.tmp 4), type := 3, pos := "law.go:36", after := #[], guard := none }) (v := ?_) rfl (by kernel_rfl) (by kernel_rfl) (by kernel_rfl) (fun _ _ _ h => h) (Or.inl ⟨by rfl, ?_⟩) (by assumption) ?_
      rotate_left
      · (intro w hSw; (try dsimp only at hSw); go_simp; try with_reducible rfl)
      try simp only [Act.put, List.setIfInBounds_toArray, List.set_cons_zero, List.set_cons_succ]
      refine wpAnyH_take (i := 5) (oi := { dst := some 20, op := Op.indexAddr 41 (Operand.tmp 18) (Operand.tmp 19), type := 0, pos := "law.go:36", after := #[{ on := 3, ground := Ground.data }, { on := 4, ground := Ground.data }], guard := none }) (v := ?_) rfl (by kernel_rfl) (by kernel_rfl) (by kernel_rfl) (fun _ _ _ h => h) (Or.inl ⟨by rfl, ?_⟩) (by assumption) ?_
      rotate_left
      · (intro w hSw; (try dsimp only at hSw); go_simp; try with_reducible rfl)
      try simp only [Act.put, List.setIfInBounds_toArray, List.set_cons_zero, List.set_cons_succ]
      refine wpAnyH_take (i := 6) (oi := { dst := some 21, op := Op.load 40 (Operand.tmp 20), type := 40, pos := "law.go:36", after := #[{ on := 5, ground := Ground.data }], guard := none }) (v := ?_) rfl (by kernel_rfl) (by kernel_rfl) (by kernel_rfl) (fun _ _ _ h => h) (Or.inl ⟨by rfl, ?_⟩) (by assumption) ?_
      rotate_left
      · (intro w hSw; (try dsimp only at hSw); go_simp; try with_reducible rfl)
      try simp only [Act.put, List.setIfInBounds_toArray, List.set_cons_zero, List.set_cons_succ]
      refine wpAnyH_ready (rs := [1, 7]) (by kernel_rfl) (by simp) ?_
      refine AllReadyH.cons (o := { dst := some 16, op := Op.load 77 (Operand.tmp 15), type := 77, pos := "law.go:36", after := #[{ on := 0, ground := Ground.data }], guard := none }) rfl (fun K hK => ?_) ?_
      · skip
        have p1 : V0.cell? ⟨s10, 1, none⟩ = some (.slice none 0 0) := cellW HCL.out K0.out
        go_simp
        clear p1
        refine hK.out _ _ ?_ (fun hHeld => ?_)
        · exact ⟨cellW Z1.out K0.out, cellW U0.out K0.out, cellW U1.out K0.out, cellW U2.out K0.out, cellW U3.out K0.out, cellW U4.out K0.out, cellW U5.out K0.out, cellW U6.out K0.out, cellW U7.out K0.out, cellW U8.out K0.out, cellW U9.out K0.out, cellW U10.out K0.out, cellW U11.out K0.out, cellW U12.out K0.out, cellW U13.out K0.out, cellW U14.out K0.out⟩
        clear hK K
        try simp only [Act.put, List.setIfInBounds_toArray, List.set_cons_zero, List.set_cons_succ]
        refine wpAnyH_ready (rs := [7]) (by kernel_rfl) (by simp) ?_
        refine AllReadyH.cons (o := { dst := some 22, op := Op.call { callee := Callee.value (Operand.func 54), args := #[Operand.tmp 21], argTypes := #[40] }, type := 128, pos := "law.go:36", after := #[{ on := 6, ground := Ground.data }], guard := none }) rfl (fun K hK => ?_) ?_
        · skip
          go_simp
          refine (Try.toChunk _ a n r lo hi).mono ?_
          rintro x V1 ⟨rfl, hb⟩
          have K1 : Hid (Below w5.heap.size w5 V1) := Lib.hid (K0.out.trans (hb.mono K0.out.size))
          clear hb
          refine hK.out _ _ ?_ (fun hHeld => ?_)
          · exact ⟨cellW Z1.out K1.out, cellW U0.out K1.out, cellW U1.out K1.out, cellW U2.out K1.out, cellW U3.out K1.out, cellW U4.out K1.out, cellW U5.out K1.out, cellW U6.out K1.out, cellW U7.out K1.out, cellW U8.out K1.out, cellW U9.out K1.out, cellW U10.out K1.out, cellW U11.out K1.out, cellW U12.out K1.out, cellW U13.out K1.out, cellW U14.out K1.out⟩
          clear hK K
          try simp only [Act.put, List.setIfInBounds_toArray, List.set_cons_zero, List.set_cons_succ]
          refine wpAnyH_ready (rs := [8]) (by kernel_rfl) (by simp) ?_
          refine AllReadyH.cons (o := { dst := some 23, op := Op.buildSlice 77 1 #[(0, Operand.tmp 22)], type := 77, pos := "law.go:36", after := #[{ on := 7, ground := Ground.data }], guard := none }) rfl (fun K hK => ?_) ?_
          · skip
            go_simp
            have K2 := Lib.hid (K1.out.trans (((Below.refl V1.heap.size V1).alloc (Nat.le_refl _) (.cells #[.int .i64 a, .int .i64 n, .int .i64 1, .int .i64 r, .int .i64 0, .int .i64 1, .int .i64 lo, .string ⟨#[]⟩, .complex .f64 0 0, .int .i64 1, .int .i64 hi, .string ⟨#[]⟩, .complex .f64 0 0, .complex .f64 0 0, .complex .f64 0 0] 128)).mono K1.out.size))
            have C2 := Lib.hid (Go.NR.at_alloc V1 #[.int .i64 a, .int .i64 n, .int .i64 1, .int .i64 r, .int .i64 0, .int .i64 1, .int .i64 lo, .string ⟨#[]⟩, .complex .f64 0 0, .int .i64 1, .int .i64 hi, .string ⟨#[]⟩, .complex .f64 0 0, .complex .f64 0 0, .complex .f64 0 0] 128)
            obtain ⟨gb, hgb⟩ : ∃ gb, V1.heap.size = gb := ⟨_, rfl⟩
            rw [hgb] at C2 ⊢
            obtain ⟨V2, hV2⟩ : ∃ V2, V1.alloc (.cells #[.int .i64 a, .int .i64 n, .int .i64 1, .int .i64 r, .int .i64 0, .int .i64 1, .int .i64 lo, .string ⟨#[]⟩, .complex .f64 0 0, .int .i64 1, .int .i64 hi, .string ⟨#[]⟩, .complex .f64 0 0, .complex .f64 0 0, .complex .f64 0 0] 128) = V2 := ⟨_, rfl⟩
            rw [hV2] at K2 C2 ⊢
            have O2 := Lib.hid (Go.NR.own_below OW.out K2.out)
            have K12 : Hid (Below V1.heap.size V1 V2) := Lib.hid (by rw [← hV2]; exact (Below.refl V1.heap.size V1).alloc (Nat.le_refl _) _)
            clear hgb hV2
            refine hK.out _ _ ?_ (fun hHeld => ?_)
            · exact ⟨cellW Z1.out K2.out, cellW U0.out K2.out, cellW U1.out K2.out, cellW U2.out K2.out, cellW U3.out K2.out, cellW U4.out K2.out, cellW U5.out K2.out, cellW U6.out K2.out, cellW U7.out K2.out, cellW U8.out K2.out, cellW U9.out K2.out, cellW U10.out K2.out, cellW U11.out K2.out, cellW U12.out K2.out, cellW U13.out K2.out, cellW U14.out K2.out⟩
            clear hK K
            try simp only [Act.put, List.setIfInBounds_toArray, List.set_cons_zero, List.set_cons_succ]
            refine wpAnyH_ready (rs := [9]) (by kernel_rfl) (by simp) ?_
            refine AllReadyH.cons (o := { dst := some 24, op := Op.call { callee := Callee.builtin Builtin.append, args := #[Operand.tmp 16, Operand.tmp 23], argTypes := #[77, 77] }, type := 77, pos := "law.go:36", after := #[{ on := 1, ground := Ground.data }, { on := 8, ground := Ground.data }, { on := 7, ground := Ground.chain }], guard := none }) rfl (fun K hK => ?_) ?_
            · skip
              refine Go.NR.oper_app Try.E77 (.tmp 16) (.tmp 23) rfl w.heap.size (.slice none 0 0) (0) ([]) rfl O2.out gb 1 1 ((kcl a n r lo hi).toList) rfl rfl C2.out (one_k a n r lo hi) (by omega) (by decide) (by have := K2.out.size; have := HBW.out; omega) ?_
              intro v3 V3 o3 g3 w3
              obtain ⟨g3', c3', rfl, hg3, hg3', hc3, hc3', _, _⟩ := Go.NR.own_at o3 (by omega)
              have HC3 := Lib.hid (And.intro hg3 (And.intro hc3 hc3'))
              have AK := Lib.hid (Go.NR.app_keep K2.out g3)
              obtain ⟨a1, a2, a3, a4⟩ := Go.NR.app_store (off := 1) K2.out OW.out o3 g3 w3 HS.out HNE.out
              have O4 := Lib.hid a1
              have S4 := Lib.hid a2
              have G4 := Lib.hid a3
              have N4 := Lib.hid a4
              have W3 := Lib.hid w3
              have G3 := Lib.hid g3
              have H3s := Lib.hid ((AK.out s10 (Go.NR.heap_lt HS.out) (fun e => HNE.out s10 e rfl)).trans HS.out)
              clear a1 a2 a3 a4 o3 g3 w3 hg3 hg3' hc3 hc3'
              refine hK.out _ _ ?_ (fun hHeld => ?_)
              · exact ⟨(World.cell?_of_block (AK.out s8 (Go.NR.heap_lt K8.out) (by simp [Value.ownBlock]))).trans Z1.out, (World.cell?_of_block (AK.out g (by have := HGL.out; have := HB5.out.size; omega) (by simp [Value.ownBlock]))).trans U0.out, (World.cell?_of_block (AK.out g (by have := HGL.out; have := HB5.out.size; omega) (by simp [Value.ownBlock]))).trans U1.out, (World.cell?_of_block (AK.out g (by have := HGL.out; have := HB5.out.size; omega) (by simp [Value.ownBlock]))).trans U2.out, (World.cell?_of_block (AK.out g (by have := HGL.out; have := HB5.out.size; omega) (by simp [Value.ownBlock]))).trans U3.out, (World.cell?_of_block (AK.out g (by have := HGL.out; have := HB5.out.size; omega) (by simp [Value.ownBlock]))).trans U4.out, (World.cell?_of_block (AK.out g (by have := HGL.out; have := HB5.out.size; omega) (by simp [Value.ownBlock]))).trans U5.out, (World.cell?_of_block (AK.out g (by have := HGL.out; have := HB5.out.size; omega) (by simp [Value.ownBlock]))).trans U6.out, (World.cell?_of_block (AK.out g (by have := HGL.out; have := HB5.out.size; omega) (by simp [Value.ownBlock]))).trans U7.out, (World.cell?_of_block (AK.out g (by have := HGL.out; have := HB5.out.size; omega) (by simp [Value.ownBlock]))).trans U8.out, (World.cell?_of_block (AK.out g (by have := HGL.out; have := HB5.out.size; omega) (by simp [Value.ownBlock]))).trans U9.out, (World.cell?_of_block (AK.out g (by have := HGL.out; have := HB5.out.size; omega) (by simp [Value.ownBlock]))).trans U10.out, (World.cell?_of_block (AK.out g (by have := HGL.out; have := HB5.out.size; omega) (by simp [Value.ownBlock]))).trans U11.out, (World.cell?_of_block (AK.out g (by have := HGL.out; have := HB5.out.size; omega) (by simp [Value.ownBlock]))).trans U12.out, (World.cell?_of_block (AK.out g (by have := HGL.out; have := HB5.out.size; omega) (by simp [Value.ownBlock]))).trans U13.out, (World.cell?_of_block (AK.out g (by have := HGL.out; have := HB5.out.size; omega) (by simp [Value.ownBlock]))).trans U14.out⟩
              clear hK K
              try simp only [Act.put, List.setIfInBounds_toArray, List.set_cons_zero, List.set_cons_succ]
              refine wpAnyH_take (i := 10) (oi := { dst := some 25, op := Op.fieldAddr 79 (Operand.tmp 3) 1, type := 0, pos := "law.go:36", after := #[{ on := 0, ground := Ground.phase }, { on := 1, ground := Ground.phase }, { on := 2, ground := Ground.phase }, { on := 3, ground := Ground.phase }, { on := 4, ground := Ground.phase }, { on := 5, ground := Ground.phase }, { on := 6, ground := Ground.phase }, { on := 7, ground := Ground.phase }, { on := 8, ground := Ground.phase }, { on := 9, ground := Ground.phase }], guard := none }) (v := ?_) rfl (by kernel_rfl) (by kernel_rfl) (by kernel_rfl) (fun _ _ _ h => h) (Or.inl ⟨by rfl, ?_⟩) (by assumption) ?_
              rotate_left
              · (intro w hSw; (try dsimp only at hSw); go_simp; try with_reducible rfl)
              try simp only [Act.put, List.setIfInBounds_toArray, List.set_cons_zero, List.set_cons_succ]
              refine wpAnyH_ready (rs := [11]) (by kernel_rfl) (by simp) ?_
              refine AllReadyH.cons (o := { dst := none, op := Op.store 77 (Operand.tmp 25) (Operand.tmp 24), type := 0, pos := "law.go:36", after := #[{ on := 10, ground := Ground.data }, { on := 9, ground := Ground.data }, { on := 9, ground := Ground.chain }, { on := 0, ground := Ground.phase }, { on := 1, ground := Ground.phase }, { on := 2, ground := Ground.phase }, { on := 3, ground := Ground.phase }, { on := 4, ground := Ground.phase }, { on := 5, ground := Ground.phase }, { on := 6, ground := Ground.phase }, { on := 7, ground := Ground.phase }, { on := 8, ground := Ground.phase }, { on := 9, ground := Ground.phase }], guard := none }) rfl (fun K hK => ?_) ?_
              · skip
                have z3 := frozen_of_row V3 s10 1 _ 79 H3s.out
                have c3 := cell_of_row V3 s10 1 _ 79 _ H3s.out
                simp at c3
                go_simp
                refine hK.out _ _ ?_ (fun hHeld => ?_)
                · exact ⟨(World.cell?_of_block (G4.out.block s8 (Go.NR.heap_lt K8.out) (fun e => by rcases e with e | e; (have := HL4.out; omega); (simp [Value.ownBlock] at e)))).trans Z1.out, (World.cell?_of_block (G4.out.block g (by have := HGL.out; have := HB5.out.size; omega) (fun e => by rcases e with e | e; (have := HL4.out; have := HGL.out; omega); (simp [Value.ownBlock] at e)))).trans U0.out, (World.cell?_of_block (G4.out.block g (by have := HGL.out; have := HB5.out.size; omega) (fun e => by rcases e with e | e; (have := HL4.out; have := HGL.out; omega); (simp [Value.ownBlock] at e)))).trans U1.out, (World.cell?_of_block (G4.out.block g (by have := HGL.out; have := HB5.out.size; omega) (fun e => by rcases e with e | e; (have := HL4.out; have := HGL.out; omega); (simp [Value.ownBlock] at e)))).trans U2.out, (World.cell?_of_block (G4.out.block g (by have := HGL.out; have := HB5.out.size; omega) (fun e => by rcases e with e | e; (have := HL4.out; have := HGL.out; omega); (simp [Value.ownBlock] at e)))).trans U3.out, (World.cell?_of_block (G4.out.block g (by have := HGL.out; have := HB5.out.size; omega) (fun e => by rcases e with e | e; (have := HL4.out; have := HGL.out; omega); (simp [Value.ownBlock] at e)))).trans U4.out, (World.cell?_of_block (G4.out.block g (by have := HGL.out; have := HB5.out.size; omega) (fun e => by rcases e with e | e; (have := HL4.out; have := HGL.out; omega); (simp [Value.ownBlock] at e)))).trans U5.out, (World.cell?_of_block (G4.out.block g (by have := HGL.out; have := HB5.out.size; omega) (fun e => by rcases e with e | e; (have := HL4.out; have := HGL.out; omega); (simp [Value.ownBlock] at e)))).trans U6.out, (World.cell?_of_block (G4.out.block g (by have := HGL.out; have := HB5.out.size; omega) (fun e => by rcases e with e | e; (have := HL4.out; have := HGL.out; omega); (simp [Value.ownBlock] at e)))).trans U7.out, (World.cell?_of_block (G4.out.block g (by have := HGL.out; have := HB5.out.size; omega) (fun e => by rcases e with e | e; (have := HL4.out; have := HGL.out; omega); (simp [Value.ownBlock] at e)))).trans U8.out, (World.cell?_of_block (G4.out.block g (by have := HGL.out; have := HB5.out.size; omega) (fun e => by rcases e with e | e; (have := HL4.out; have := HGL.out; omega); (simp [Value.ownBlock] at e)))).trans U9.out, (World.cell?_of_block (G4.out.block g (by have := HGL.out; have := HB5.out.size; omega) (fun e => by rcases e with e | e; (have := HL4.out; have := HGL.out; omega); (simp [Value.ownBlock] at e)))).trans U10.out, (World.cell?_of_block (G4.out.block g (by have := HGL.out; have := HB5.out.size; omega) (fun e => by rcases e with e | e; (have := HL4.out; have := HGL.out; omega); (simp [Value.ownBlock] at e)))).trans U11.out, (World.cell?_of_block (G4.out.block g (by have := HGL.out; have := HB5.out.size; omega) (fun e => by rcases e with e | e; (have := HL4.out; have := HGL.out; omega); (simp [Value.ownBlock] at e)))).trans U12.out, (World.cell?_of_block (G4.out.block g (by have := HGL.out; have := HB5.out.size; omega) (fun e => by rcases e with e | e; (have := HL4.out; have := HGL.out; omega); (simp [Value.ownBlock] at e)))).trans U13.out, (World.cell?_of_block (G4.out.block g (by have := HGL.out; have := HB5.out.size; omega) (fun e => by rcases e with e | e; (have := HL4.out; have := HGL.out; omega); (simp [Value.ownBlock] at e)))).trans U14.out⟩
                clear hK K
                try simp only [Act.put, List.setIfInBounds_toArray, List.set_cons_zero, List.set_cons_succ]
                refine wpAnyH_done (by kernel_rfl) ?_ _
                refine NoPanic.normal ?_
                have HT : Hid (TG w w5 w.heap.size s8 s9 s10 rows (kcl a n r lo hi) (V3.setCell ⟨s10, 1, none⟩ (.slice (some ⟨g3', 0, none⟩) 1 c3')) g3' c3') := Lib.hid (by
                  have hc := HC3.out
                  refine ⟨S4.out, ⟨hc.1, hc.2.1, hc.2.2, fun t u hu => ?_⟩, HB5.out.trans (G4.out.isBelow HB5.out.size (fun b hb e => ?_)), G4.out.block s8 (Go.NR.heap_lt K8.out) (fun e => by rcases e with e | e; (have := HL4.out; omega); (simp [Value.ownBlock] at e)), G4.out.block s9 (Go.NR.heap_lt K9.out) (fun e => by rcases e with e | e; (have := HL4.out; omega); (simp [Value.ownBlock] at e)), ?_⟩
                  · have ht : t < 0 + 1 * 15 := by have := (List.getElem?_eq_some_iff.1 hu).1; rw [kcl_len] at this; omega
                    exact (O4.out.cellAt t (by omega)).trans hu
                  · rcases e with e | e
                    · have := HL4.out; omega
                    · simp [Value.ownBlock] at e
                  · rcases W3.out g3' rfl with e | e
                    · simp [Value.ownBlock] at e
                    · have := K2.out.size; omega)
                clear W3 O4 S4 G4 N4 H3s AK z3 c3 hHeld HC3
                go_wp2_with fail
                exact ⟨.inr ⟨rfl, g3', c3', HT⟩, by simp [intOf]⟩
              exact AllReadyH.nil
            exact AllReadyH.nil
          exact AllReadyH.nil
        exact AllReadyH.nil
      refine AllReadyH.cons (o := { dst := some 22, op := Op.call { callee := Callee.value (Operand.func 54), args := #[Operand.tmp 21], argTypes := #[40] }, type := 128, pos := "law.go:36", after := #[{ on := 6, ground := Ground.data }], guard := none }) rfl (fun K hK => ?_) ?_
      · skip
        go_simp
        refine (Try.toChunk _ a n r lo hi).mono ?_
        rintro x V1 ⟨rfl, hb⟩
        have K1 : Hid (Below w5.heap.size w5 V1) := Lib.hid (K0.out.trans (hb.mono K0.out.size))
        clear hb
        refine hK.out _ _ ?_ (fun hHeld => ?_)
        · exact ⟨cellW Z1.out K1.out, cellW U0.out K1.out, cellW U1.out K1.out, cellW U2.out K1.out, cellW U3.out K1.out, cellW U4.out K1.out, cellW U5.out K1.out, cellW U6.out K1.out, cellW U7.out K1.out, cellW U8.out K1.out, cellW U9.out K1.out, cellW U10.out K1.out, cellW U11.out K1.out, cellW U12.out K1.out, cellW U13.out K1.out, cellW U14.out K1.out⟩
        clear hK K
        try simp only [Act.put, List.setIfInBounds_toArray, List.set_cons_zero, List.set_cons_succ]
        refine wpAnyH_ready (rs := [1, 8]) (by kernel_rfl) (by simp) ?_
        refine AllReadyH.cons (o := { dst := some 16, op := Op.load 77 (Operand.tmp 15), type := 77, pos := "law.go:36", after := #[{ on := 0, ground := Ground.data }], guard := none }) rfl (fun K hK => ?_) ?_
        · skip
          have p1 : V1.cell? ⟨s10, 1, none⟩ = some (.slice none 0 0) := cellW HCL.out K1.out
          go_simp
          clear p1
          refine hK.out _ _ ?_ (fun hHeld => ?_)
          · exact ⟨cellW Z1.out K1.out, cellW U0.out K1.out, cellW U1.out K1.out, cellW U2.out K1.out, cellW U3.out K1.out, cellW U4.out K1.out, cellW U5.out K1.out, cellW U6.out K1.out, cellW U7.out K1.out, cellW U8.out K1.out, cellW U9.out K1.out, cellW U10.out K1.out, cellW U11.out K1.out, cellW U12.out K1.out, cellW U13.out K1.out, cellW U14.out K1.out⟩
          clear hK K
          try simp only [Act.put, List.setIfInBounds_toArray, List.set_cons_zero, List.set_cons_succ]
          refine wpAnyH_ready (rs := [8]) (by kernel_rfl) (by simp) ?_
          refine AllReadyH.cons (o := { dst := some 23, op := Op.buildSlice 77 1 #[(0, Operand.tmp 22)], type := 77, pos := "law.go:36", after := #[{ on := 7, ground := Ground.data }], guard := none }) rfl (fun K hK => ?_) ?_
          · skip
            go_simp
            have K2 := Lib.hid (K1.out.trans (((Below.refl V1.heap.size V1).alloc (Nat.le_refl _) (.cells #[.int .i64 a, .int .i64 n, .int .i64 1, .int .i64 r, .int .i64 0, .int .i64 1, .int .i64 lo, .string ⟨#[]⟩, .complex .f64 0 0, .int .i64 1, .int .i64 hi, .string ⟨#[]⟩, .complex .f64 0 0, .complex .f64 0 0, .complex .f64 0 0] 128)).mono K1.out.size))
            have C2 := Lib.hid (Go.NR.at_alloc V1 #[.int .i64 a, .int .i64 n, .int .i64 1, .int .i64 r, .int .i64 0, .int .i64 1, .int .i64 lo, .string ⟨#[]⟩, .complex .f64 0 0, .int .i64 1, .int .i64 hi, .string ⟨#[]⟩, .complex .f64 0 0, .complex .f64 0 0, .complex .f64 0 0] 128)
            obtain ⟨gb, hgb⟩ : ∃ gb, V1.heap.size = gb := ⟨_, rfl⟩
            rw [hgb] at C2 ⊢
            obtain ⟨V2, hV2⟩ : ∃ V2, V1.alloc (.cells #[.int .i64 a, .int .i64 n, .int .i64 1, .int .i64 r, .int .i64 0, .int .i64 1, .int .i64 lo, .string ⟨#[]⟩, .complex .f64 0 0, .int .i64 1, .int .i64 hi, .string ⟨#[]⟩, .complex .f64 0 0, .complex .f64 0 0, .complex .f64 0 0] 128) = V2 := ⟨_, rfl⟩
            rw [hV2] at K2 C2 ⊢
            have O2 := Lib.hid (Go.NR.own_below OW.out K2.out)
            have K12 : Hid (Below V1.heap.size V1 V2) := Lib.hid (by rw [← hV2]; exact (Below.refl V1.heap.size V1).alloc (Nat.le_refl _) _)
            clear hgb hV2
            refine hK.out _ _ ?_ (fun hHeld => ?_)
            · exact ⟨cellW Z1.out K2.out, cellW U0.out K2.out, cellW U1.out K2.out, cellW U2.out K2.out, cellW U3.out K2.out, cellW U4.out K2.out, cellW U5.out K2.out, cellW U6.out K2.out, cellW U7.out K2.out, cellW U8.out K2.out, cellW U9.out K2.out, cellW U10.out K2.out, cellW U11.out K2.out, cellW U12.out K2.out, cellW U13.out K2.out, cellW U14.out K2.out⟩
            clear hK K
            try simp only [Act.put, List.setIfInBounds_toArray, List.set_cons_zero, List.set_cons_succ]
            refine wpAnyH_ready (rs := [9]) (by kernel_rfl) (by simp) ?_
            refine AllReadyH.cons (o := { dst := some 24, op := Op.call { callee := Callee.builtin Builtin.append, args := #[Operand.tmp 16, Operand.tmp 23], argTypes := #[77, 77] }, type := 77, pos := "law.go:36", after := #[{ on := 1, ground := Ground.data }, { on := 8, ground := Ground.data }, { on := 7, ground := Ground.chain }], guard := none }) rfl (fun K hK => ?_) ?_
            · skip
              refine Go.NR.oper_app Try.E77 (.tmp 16) (.tmp 23) rfl w.heap.size (.slice none 0 0) (0) ([]) rfl O2.out gb 1 1 ((kcl a n r lo hi).toList) rfl rfl C2.out (one_k a n r lo hi) (by omega) (by decide) (by have := K2.out.size; have := HBW.out; omega) ?_
              intro v3 V3 o3 g3 w3
              obtain ⟨g3', c3', rfl, hg3, hg3', hc3, hc3', _, _⟩ := Go.NR.own_at o3 (by omega)
              have HC3 := Lib.hid (And.intro hg3 (And.intro hc3 hc3'))
              have AK := Lib.hid (Go.NR.app_keep K2.out g3)
              obtain ⟨a1, a2, a3, a4⟩ := Go.NR.app_store (off := 1) K2.out OW.out o3 g3 w3 HS.out HNE.out
              have O4 := Lib.hid a1
              have S4 := Lib.hid a2
              have G4 := Lib.hid a3
              have N4 := Lib.hid a4
              have W3 := Lib.hid w3
              have G3 := Lib.hid g3
              have H3s := Lib.hid ((AK.out s10 (Go.NR.heap_lt HS.out) (fun e => HNE.out s10 e rfl)).trans HS.out)
              clear a1 a2 a3 a4 o3 g3 w3 hg3 hg3' hc3 hc3'
              refine hK.out _ _ ?_ (fun hHeld => ?_)
              · exact ⟨(World.cell?_of_block (AK.out s8 (Go.NR.heap_lt K8.out) (by simp [Value.ownBlock]))).trans Z1.out, (World.cell?_of_block (AK.out g (by have := HGL.out; have := HB5.out.size; omega) (by simp [Value.ownBlock]))).trans U0.out, (World.cell?_of_block (AK.out g (by have := HGL.out; have := HB5.out.size; omega) (by simp [Value.ownBlock]))).trans U1.out, (World.cell?_of_block (AK.out g (by have := HGL.out; have := HB5.out.size; omega) (by simp [Value.ownBlock]))).trans U2.out, (World.cell?_of_block (AK.out g (by have := HGL.out; have := HB5.out.size; omega) (by simp [Value.ownBlock]))).trans U3.out, (World.cell?_of_block (AK.out g (by have := HGL.out; have := HB5.out.size; omega) (by simp [Value.ownBlock]))).trans U4.out, (World.cell?_of_block (AK.out g (by have := HGL.out; have := HB5.out.size; omega) (by simp [Value.ownBlock]))).trans U5.out, (World.cell?_of_block (AK.out g (by have := HGL.out; have := HB5.out.size; omega) (by simp [Value.ownBlock]))).trans U6.out, (World.cell?_of_block (AK.out g (by have := HGL.out; have := HB5.out.size; omega) (by simp [Value.ownBlock]))).trans U7.out, (World.cell?_of_block (AK.out g (by have := HGL.out; have := HB5.out.size; omega) (by simp [Value.ownBlock]))).trans U8.out, (World.cell?_of_block (AK.out g (by have := HGL.out; have := HB5.out.size; omega) (by simp [Value.ownBlock]))).trans U9.out, (World.cell?_of_block (AK.out g (by have := HGL.out; have := HB5.out.size; omega) (by simp [Value.ownBlock]))).trans U10.out, (World.cell?_of_block (AK.out g (by have := HGL.out; have := HB5.out.size; omega) (by simp [Value.ownBlock]))).trans U11.out, (World.cell?_of_block (AK.out g (by have := HGL.out; have := HB5.out.size; omega) (by simp [Value.ownBlock]))).trans U12.out, (World.cell?_of_block (AK.out g (by have := HGL.out; have := HB5.out.size; omega) (by simp [Value.ownBlock]))).trans U13.out, (World.cell?_of_block (AK.out g (by have := HGL.out; have := HB5.out.size; omega) (by simp [Value.ownBlock]))).trans U14.out⟩
              clear hK K
              try simp only [Act.put, List.setIfInBounds_toArray, List.set_cons_zero, List.set_cons_succ]
              refine wpAnyH_take (i := 10) (oi := { dst := some 25, op := Op.fieldAddr 79 (Operand.tmp 3) 1, type := 0, pos := "law.go:36", after := #[{ on := 0, ground := Ground.phase }, { on := 1, ground := Ground.phase }, { on := 2, ground := Ground.phase }, { on := 3, ground := Ground.phase }, { on := 4, ground := Ground.phase }, { on := 5, ground := Ground.phase }, { on := 6, ground := Ground.phase }, { on := 7, ground := Ground.phase }, { on := 8, ground := Ground.phase }, { on := 9, ground := Ground.phase }], guard := none }) (v := ?_) rfl (by kernel_rfl) (by kernel_rfl) (by kernel_rfl) (fun _ _ _ h => h) (Or.inl ⟨by rfl, ?_⟩) (by assumption) ?_
              rotate_left
              · (intro w hSw; (try dsimp only at hSw); go_simp; try with_reducible rfl)
              try simp only [Act.put, List.setIfInBounds_toArray, List.set_cons_zero, List.set_cons_succ]
              refine wpAnyH_ready (rs := [11]) (by kernel_rfl) (by simp) ?_
              refine AllReadyH.cons (o := { dst := none, op := Op.store 77 (Operand.tmp 25) (Operand.tmp 24), type := 0, pos := "law.go:36", after := #[{ on := 10, ground := Ground.data }, { on := 9, ground := Ground.data }, { on := 9, ground := Ground.chain }, { on := 0, ground := Ground.phase }, { on := 1, ground := Ground.phase }, { on := 2, ground := Ground.phase }, { on := 3, ground := Ground.phase }, { on := 4, ground := Ground.phase }, { on := 5, ground := Ground.phase }, { on := 6, ground := Ground.phase }, { on := 7, ground := Ground.phase }, { on := 8, ground := Ground.phase }, { on := 9, ground := Ground.phase }], guard := none }) rfl (fun K hK => ?_) ?_
              · skip
                have z3 := frozen_of_row V3 s10 1 _ 79 H3s.out
                have c3 := cell_of_row V3 s10 1 _ 79 _ H3s.out
                simp at c3
                go_simp
                refine hK.out _ _ ?_ (fun hHeld => ?_)
                · exact ⟨(World.cell?_of_block (G4.out.block s8 (Go.NR.heap_lt K8.out) (fun e => by rcases e with e | e; (have := HL4.out; omega); (simp [Value.ownBlock] at e)))).trans Z1.out, (World.cell?_of_block (G4.out.block g (by have := HGL.out; have := HB5.out.size; omega) (fun e => by rcases e with e | e; (have := HL4.out; have := HGL.out; omega); (simp [Value.ownBlock] at e)))).trans U0.out, (World.cell?_of_block (G4.out.block g (by have := HGL.out; have := HB5.out.size; omega) (fun e => by rcases e with e | e; (have := HL4.out; have := HGL.out; omega); (simp [Value.ownBlock] at e)))).trans U1.out, (World.cell?_of_block (G4.out.block g (by have := HGL.out; have := HB5.out.size; omega) (fun e => by rcases e with e | e; (have := HL4.out; have := HGL.out; omega); (simp [Value.ownBlock] at e)))).trans U2.out, (World.cell?_of_block (G4.out.block g (by have := HGL.out; have := HB5.out.size; omega) (fun e => by rcases e with e | e; (have := HL4.out; have := HGL.out; omega); (simp [Value.ownBlock] at e)))).trans U3.out, (World.cell?_of_block (G4.out.block g (by have := HGL.out; have := HB5.out.size; omega) (fun e => by rcases e with e | e; (have := HL4.out; have := HGL.out; omega); (simp [Value.ownBlock] at e)))).trans U4.out, (World.cell?_of_block (G4.out.block g (by have := HGL.out; have := HB5.out.size; omega) (fun e => by rcases e with e | e; (have := HL4.out; have := HGL.out; omega); (simp [Value.ownBlock] at e)))).trans U5.out, (World.cell?_of_block (G4.out.block g (by have := HGL.out; have := HB5.out.size; omega) (fun e => by rcases e with e | e; (have := HL4.out; have := HGL.out; omega); (simp [Value.ownBlock] at e)))).trans U6.out, (World.cell?_of_block (G4.out.block g (by have := HGL.out; have := HB5.out.size; omega) (fun e => by rcases e with e | e; (have := HL4.out; have := HGL.out; omega); (simp [Value.ownBlock] at e)))).trans U7.out, (World.cell?_of_block (G4.out.block g (by have := HGL.out; have := HB5.out.size; omega) (fun e => by rcases e with e | e; (have := HL4.out; have := HGL.out; omega); (simp [Value.ownBlock] at e)))).trans U8.out, (World.cell?_of_block (G4.out.block g (by have := HGL.out; have := HB5.out.size; omega) (fun e => by rcases e with e | e; (have := HL4.out; have := HGL.out; omega); (simp [Value.ownBlock] at e)))).trans U9.out, (World.cell?_of_block (G4.out.block g (by have := HGL.out; have := HB5.out.size; omega) (fun e => by rcases e with e | e; (have := HL4.out; have := HGL.out; omega); (simp [Value.ownBlock] at e)))).trans U10.out, (World.cell?_of_block (G4.out.block g (by have := HGL.out; have := HB5.out.size; omega) (fun e => by rcases e with e | e; (have := HL4.out; have := HGL.out; omega); (simp [Value.ownBlock] at e)))).trans U11.out, (World.cell?_of_block (G4.out.block g (by have := HGL.out; have := HB5.out.size; omega) (fun e => by rcases e with e | e; (have := HL4.out; have := HGL.out; omega); (simp [Value.ownBlock] at e)))).trans U12.out, (World.cell?_of_block (G4.out.block g (by have := HGL.out; have := HB5.out.size; omega) (fun e => by rcases e with e | e; (have := HL4.out; have := HGL.out; omega); (simp [Value.ownBlock] at e)))).trans U13.out, (World.cell?_of_block (G4.out.block g (by have := HGL.out; have := HB5.out.size; omega) (fun e => by rcases e with e | e; (have := HL4.out; have := HGL.out; omega); (simp [Value.ownBlock] at e)))).trans U14.out⟩
                clear hK K
                try simp only [Act.put, List.setIfInBounds_toArray, List.set_cons_zero, List.set_cons_succ]
                refine wpAnyH_done (by kernel_rfl) ?_ _
                refine NoPanic.normal ?_
                have HT : Hid (TG w w5 w.heap.size s8 s9 s10 rows (kcl a n r lo hi) (V3.setCell ⟨s10, 1, none⟩ (.slice (some ⟨g3', 0, none⟩) 1 c3')) g3' c3') := Lib.hid (by
                  have hc := HC3.out
                  refine ⟨S4.out, ⟨hc.1, hc.2.1, hc.2.2, fun t u hu => ?_⟩, HB5.out.trans (G4.out.isBelow HB5.out.size (fun b hb e => ?_)), G4.out.block s8 (Go.NR.heap_lt K8.out) (fun e => by rcases e with e | e; (have := HL4.out; omega); (simp [Value.ownBlock] at e)), G4.out.block s9 (Go.NR.heap_lt K9.out) (fun e => by rcases e with e | e; (have := HL4.out; omega); (simp [Value.ownBlock] at e)), ?_⟩
                  · have ht : t < 0 + 1 * 15 := by have := (List.getElem?_eq_some_iff.1 hu).1; rw [kcl_len] at this; omega
                    exact (O4.out.cellAt t (by omega)).trans hu
                  · rcases e with e | e
                    · have := HL4.out; omega
                    · simp [Value.ownBlock] at e
                  · rcases W3.out g3' rfl with e | e
                    · simp [Value.ownBlock] at e
                    · have := K2.out.size; omega)
                clear W3 O4 S4 G4 N4 H3s AK z3 c3 hHeld HC3
                go_wp2_with fail
                exact ⟨.inr ⟨rfl, g3', c3', HT⟩, by simp [intOf]⟩
              exact AllReadyH.nil
            exact AllReadyH.nil
          exact AllReadyH.nil
        refine AllReadyH.cons (o := { dst := some 23, op := Op.buildSlice 77 1 #[(0, Operand.tmp 22)], type := 77, pos := "law.go:36", after := #[{ on := 7, ground := Ground.data }], guard := none }) rfl (fun K hK => ?_) ?_
        · skip
          go_simp
          have K2 := Lib.hid (K1.out.trans (((Below.refl V1.heap.size V1).alloc (Nat.le_refl _) (.cells #[.int .i64 a, .int .i64 n, .int .i64 1, .int .i64 r, .int .i64 0, .int .i64 1, .int .i64 lo, .string ⟨#[]⟩, .complex .f64 0 0, .int .i64 1, .int .i64 hi, .string ⟨#[]⟩, .complex .f64 0 0, .complex .f64 0 0, .complex .f64 0 0] 128)).mono K1.out.size))
          have C2 := Lib.hid (Go.NR.at_alloc V1 #[.int .i64 a, .int .i64 n, .int .i64 1, .int .i64 r, .int .i64 0, .int .i64 1, .int .i64 lo, .string ⟨#[]⟩, .complex .f64 0 0, .int .i64 1, .int .i64 hi, .string ⟨#[]⟩, .complex .f64 0 0, .complex .f64 0 0, .complex .f64 0 0] 128)
          obtain ⟨gb, hgb⟩ : ∃ gb, V1.heap.size = gb := ⟨_, rfl⟩
          rw [hgb] at C2 ⊢
          obtain ⟨V2, hV2⟩ : ∃ V2, V1.alloc (.cells #[.int .i64 a, .int .i64 n, .int .i64 1, .int .i64 r, .int .i64 0, .int .i64 1, .int .i64 lo, .string ⟨#[]⟩, .complex .f64 0 0, .int .i64 1, .int .i64 hi, .string ⟨#[]⟩, .complex .f64 0 0, .complex .f64 0 0, .complex .f64 0 0] 128) = V2 := ⟨_, rfl⟩
          rw [hV2] at K2 C2 ⊢
          have O2 := Lib.hid (Go.NR.own_below OW.out K2.out)
          have K12 : Hid (Below V1.heap.size V1 V2) := Lib.hid (by rw [← hV2]; exact (Below.refl V1.heap.size V1).alloc (Nat.le_refl _) _)
          clear hgb hV2
          refine hK.out _ _ ?_ (fun hHeld => ?_)
          · exact ⟨cellW Z1.out K2.out, cellW U0.out K2.out, cellW U1.out K2.out, cellW U2.out K2.out, cellW U3.out K2.out, cellW U4.out K2.out, cellW U5.out K2.out, cellW U6.out K2.out, cellW U7.out K2.out, cellW U8.out K2.out, cellW U9.out K2.out, cellW U10.out K2.out, cellW U11.out K2.out, cellW U12.out K2.out, cellW U13.out K2.out, cellW U14.out K2.out⟩
          clear hK K
          try simp only [Act.put, List.setIfInBounds_toArray, List.set_cons_zero, List.set_cons_succ]
          refine wpAnyH_ready (rs := [1]) (by kernel_rfl) (by simp) ?_
          refine AllReadyH.cons (o := { dst := some 16, op := Op.load 77 (Operand.tmp 15), type := 77, pos := "law.go:36", after := #[{ on := 0, ground := Ground.data }], guard := none }) rfl (fun K hK => ?_) ?_
          · skip
            have p1 : V2.cell? ⟨s10, 1, none⟩ = some (.slice none 0 0) := cellW HCL.out K2.out
            go_simp
            clear p1
            refine hK.out _ _ ?_ (fun hHeld => ?_)
            · exact ⟨cellW Z1.out K2.out, cellW U0.out K2.out, cellW U1.out K2.out, cellW U2.out K2.out, cellW U3.out K2.out, cellW U4.out K2.out, cellW U5.out K2.out, cellW U6.out K2.out, cellW U7.out K2.out, cellW U8.out K2.out, cellW U9.out K2.out, cellW U10.out K2.out, cellW U11.out K2.out, cellW U12.out K2.out, cellW U13.out K2.out, cellW U14.out K2.out⟩
            clear hK K
            try simp only [Act.put, List.setIfInBounds_toArray, List.set_cons_zero, List.set_cons_succ]
            refine wpAnyH_ready (rs := [9]) (by kernel_rfl) (by simp) ?_
            refine AllReadyH.cons (o := { dst := some 24, op := Op.call { callee := Callee.builtin Builtin.append, args := #[Operand.tmp 16, Operand.tmp 23], argTypes := #[77, 77] }, type := 77, pos := "law.go:36", after := #[{ on := 1, ground := Ground.data }, { on := 8, ground := Ground.data }, { on := 7, ground := Ground.chain }], guard := none }) rfl (fun K hK => ?_) ?_
            · skip
              refine Go.NR.oper_app Try.E77 (.tmp 16) (.tmp 23) rfl w.heap.size (.slice none 0 0) (0) ([]) rfl O2.out gb 1 1 ((kcl a n r lo hi).toList) rfl rfl C2.out (one_k a n r lo hi) (by omega) (by decide) (by have := K2.out.size; have := HBW.out; omega) ?_
              intro v3 V3 o3 g3 w3
              obtain ⟨g3', c3', rfl, hg3, hg3', hc3, hc3', _, _⟩ := Go.NR.own_at o3 (by omega)
              have HC3 := Lib.hid (And.intro hg3 (And.intro hc3 hc3'))
              have AK := Lib.hid (Go.NR.app_keep K2.out g3)
              obtain ⟨a1, a2, a3, a4⟩ := Go.NR.app_store (off := 1) K2.out OW.out o3 g3 w3 HS.out HNE.out
              have O4 := Lib.hid a1
              have S4 := Lib.hid a2
              have G4 := Lib.hid a3
              have N4 := Lib.hid a4
              have W3 := Lib.hid w3
              have G3 := Lib.hid g3
              have H3s := Lib.hid ((AK.out s10 (Go.NR.heap_lt HS.out) (fun e => HNE.out s10 e rfl)).trans HS.out)
              clear a1 a2 a3 a4 o3 g3 w3 hg3 hg3' hc3 hc3'
              refine hK.out _ _ ?_ (fun hHeld => ?_)
              · exact ⟨(World.cell?_of_block (AK.out s8 (Go.NR.heap_lt K8.out) (by simp [Value.ownBlock]))).trans Z1.out, (World.cell?_of_block (AK.out g (by have := HGL.out; have := HB5.out.size; omega) (by simp [Value.ownBlock]))).trans U0.out, (World.cell?_of_block (AK.out g (by have := HGL.out; have := HB5.out.size; omega) (by simp [Value.ownBlock]))).trans U1.out, (World.cell?_of_block (AK.out g (by have := HGL.out; have := HB5.out.size; omega) (by simp [Value.ownBlock]))).trans U2.out, (World.cell?_of_block (AK.out g (by have := HGL.out; have := HB5.out.size; omega) (by simp [Value.ownBlock]))).trans U3.out, (World.cell?_of_block (AK.out g (by have := HGL.out; have := HB5.out.size; omega) (by simp [Value.ownBlock]))).trans U4.out, (World.cell?_of_block (AK.out g (by have := HGL.out; have := HB5.out.size; omega) (by simp [Value.ownBlock]))).trans U5.out, (World.cell?_of_block (AK.out g (by have := HGL.out; have := HB5.out.size; omega) (by simp [Value.ownBlock]))).trans U6.out, (World.cell?_of_block (AK.out g (by have := HGL.out; have := HB5.out.size; omega) (by simp [Value.ownBlock]))).trans U7.out, (World.cell?_of_block (AK.out g (by have := HGL.out; have := HB5.out.size; omega) (by simp [Value.ownBlock]))).trans U8.out, (World.cell?_of_block (AK.out g (by have := HGL.out; have := HB5.out.size; omega) (by simp [Value.ownBlock]))).trans U9.out, (World.cell?_of_block (AK.out g (by have := HGL.out; have := HB5.out.size; omega) (by simp [Value.ownBlock]))).trans U10.out, (World.cell?_of_block (AK.out g (by have := HGL.out; have := HB5.out.size; omega) (by simp [Value.ownBlock]))).trans U11.out, (World.cell?_of_block (AK.out g (by have := HGL.out; have := HB5.out.size; omega) (by simp [Value.ownBlock]))).trans U12.out, (World.cell?_of_block (AK.out g (by have := HGL.out; have := HB5.out.size; omega) (by simp [Value.ownBlock]))).trans U13.out, (World.cell?_of_block (AK.out g (by have := HGL.out; have := HB5.out.size; omega) (by simp [Value.ownBlock]))).trans U14.out⟩
              clear hK K
              try simp only [Act.put, List.setIfInBounds_toArray, List.set_cons_zero, List.set_cons_succ]
              refine wpAnyH_take (i := 10) (oi := { dst := some 25, op := Op.fieldAddr 79 (Operand.tmp 3) 1, type := 0, pos := "law.go:36", after := #[{ on := 0, ground := Ground.phase }, { on := 1, ground := Ground.phase }, { on := 2, ground := Ground.phase }, { on := 3, ground := Ground.phase }, { on := 4, ground := Ground.phase }, { on := 5, ground := Ground.phase }, { on := 6, ground := Ground.phase }, { on := 7, ground := Ground.phase }, { on := 8, ground := Ground.phase }, { on := 9, ground := Ground.phase }], guard := none }) (v := ?_) rfl (by kernel_rfl) (by kernel_rfl) (by kernel_rfl) (fun _ _ _ h => h) (Or.inl ⟨by rfl, ?_⟩) (by assumption) ?_
              rotate_left
              · (intro w hSw; (try dsimp only at hSw); go_simp; try with_reducible rfl)
              try simp only [Act.put, List.setIfInBounds_toArray, List.set_cons_zero, List.set_cons_succ]
              refine wpAnyH_ready (rs := [11]) (by kernel_rfl) (by simp) ?_
              refine AllReadyH.cons (o := { dst := none, op := Op.store 77 (Operand.tmp 25) (Operand.tmp 24), type := 0, pos := "law.go:36", after := #[{ on := 10, ground := Ground.data }, { on := 9, ground := Ground.data }, { on := 9, ground := Ground.chain }, { on := 0, ground := Ground.phase }, { on := 1, ground := Ground.phase }, { on := 2, ground := Ground.phase }, { on := 3, ground := Ground.phase }, { on := 4, ground := Ground.phase }, { on := 5, ground := Ground.phase }, { on := 6, ground := Ground.phase }, { on := 7, ground := Ground.phase }, { on := 8, ground := Ground.phase }, { on := 9, ground := Ground.phase }], guard := none }) rfl (fun K hK => ?_) ?_
              · skip
                have z3 := frozen_of_row V3 s10 1 _ 79 H3s.out
                have c3 := cell_of_row V3 s10 1 _ 79 _ H3s.out
                simp at c3
                go_simp
                refine hK.out _ _ ?_ (fun hHeld => ?_)
                · exact ⟨(World.cell?_of_block (G4.out.block s8 (Go.NR.heap_lt K8.out) (fun e => by rcases e with e | e; (have := HL4.out; omega); (simp [Value.ownBlock] at e)))).trans Z1.out, (World.cell?_of_block (G4.out.block g (by have := HGL.out; have := HB5.out.size; omega) (fun e => by rcases e with e | e; (have := HL4.out; have := HGL.out; omega); (simp [Value.ownBlock] at e)))).trans U0.out, (World.cell?_of_block (G4.out.block g (by have := HGL.out; have := HB5.out.size; omega) (fun e => by rcases e with e | e; (have := HL4.out; have := HGL.out; omega); (simp [Value.ownBlock] at e)))).trans U1.out, (World.cell?_of_block (G4.out.block g (by have := HGL.out; have := HB5.out.size; omega) (fun e => by rcases e with e | e; (have := HL4.out; have := HGL.out; omega); (simp [Value.ownBlock] at e)))).trans U2.out, (World.cell?_of_block (G4.out.block g (by have := HGL.out; have := HB5.out.size; omega) (fun e => by rcases e with e | e; (have := HL4.out; have := HGL.out; omega); (simp [Value.ownBlock] at e)))).trans U3.out, (World.cell?_of_block (G4.out.block g (by have := HGL.out; have := HB5.out.size; omega) (fun e => by rcases e with e | e; (have := HL4.out; have := HGL.out; omega); (simp [Value.ownBlock] at e)))).trans U4.out, (World.cell?_of_block (G4.out.block g (by have := HGL.out; have := HB5.out.size; omega) (fun e => by rcases e with e | e; (have := HL4.out; have := HGL.out; omega); (simp [Value.ownBlock] at e)))).trans U5.out, (World.cell?_of_block (G4.out.block g (by have := HGL.out; have := HB5.out.size; omega) (fun e => by rcases e with e | e; (have := HL4.out; have := HGL.out; omega); (simp [Value.ownBlock] at e)))).trans U6.out, (World.cell?_of_block (G4.out.block g (by have := HGL.out; have := HB5.out.size; omega) (fun e => by rcases e with e | e; (have := HL4.out; have := HGL.out; omega); (simp [Value.ownBlock] at e)))).trans U7.out, (World.cell?_of_block (G4.out.block g (by have := HGL.out; have := HB5.out.size; omega) (fun e => by rcases e with e | e; (have := HL4.out; have := HGL.out; omega); (simp [Value.ownBlock] at e)))).trans U8.out, (World.cell?_of_block (G4.out.block g (by have := HGL.out; have := HB5.out.size; omega) (fun e => by rcases e with e | e; (have := HL4.out; have := HGL.out; omega); (simp [Value.ownBlock] at e)))).trans U9.out, (World.cell?_of_block (G4.out.block g (by have := HGL.out; have := HB5.out.size; omega) (fun e => by rcases e with e | e; (have := HL4.out; have := HGL.out; omega); (simp [Value.ownBlock] at e)))).trans U10.out, (World.cell?_of_block (G4.out.block g (by have := HGL.out; have := HB5.out.size; omega) (fun e => by rcases e with e | e; (have := HL4.out; have := HGL.out; omega); (simp [Value.ownBlock] at e)))).trans U11.out, (World.cell?_of_block (G4.out.block g (by have := HGL.out; have := HB5.out.size; omega) (fun e => by rcases e with e | e; (have := HL4.out; have := HGL.out; omega); (simp [Value.ownBlock] at e)))).trans U12.out, (World.cell?_of_block (G4.out.block g (by have := HGL.out; have := HB5.out.size; omega) (fun e => by rcases e with e | e; (have := HL4.out; have := HGL.out; omega); (simp [Value.ownBlock] at e)))).trans U13.out, (World.cell?_of_block (G4.out.block g (by have := HGL.out; have := HB5.out.size; omega) (fun e => by rcases e with e | e; (have := HL4.out; have := HGL.out; omega); (simp [Value.ownBlock] at e)))).trans U14.out⟩
                clear hK K
                try simp only [Act.put, List.setIfInBounds_toArray, List.set_cons_zero, List.set_cons_succ]
                refine wpAnyH_done (by kernel_rfl) ?_ _
                refine NoPanic.normal ?_
                have HT : Hid (TG w w5 w.heap.size s8 s9 s10 rows (kcl a n r lo hi) (V3.setCell ⟨s10, 1, none⟩ (.slice (some ⟨g3', 0, none⟩) 1 c3')) g3' c3') := Lib.hid (by
                  have hc := HC3.out
                  refine ⟨S4.out, ⟨hc.1, hc.2.1, hc.2.2, fun t u hu => ?_⟩, HB5.out.trans (G4.out.isBelow HB5.out.size (fun b hb e => ?_)), G4.out.block s8 (Go.NR.heap_lt K8.out) (fun e => by rcases e with e | e; (have := HL4.out; omega); (simp [Value.ownBlock] at e)), G4.out.block s9 (Go.NR.heap_lt K9.out) (fun e => by rcases e with e | e; (have := HL4.out; omega); (simp [Value.ownBlock] at e)), ?_⟩
                  · have ht : t < 0 + 1 * 15 := by have := (List.getElem?_eq_some_iff.1 hu).1; rw [kcl_len] at this; omega
                    exact (O4.out.cellAt t (by omega)).trans hu
                  · rcases e with e | e
                    · have := HL4.out; omega
                    · simp [Value.ownBlock] at e
                  · rcases W3.out g3' rfl with e | e
                    · simp [Value.ownBlock] at e
                    · have := K2.out.size; omega)
                clear W3 O4 S4 G4 N4 H3s AK z3 c3 hHeld HC3
                go_wp2_with fail
                exact ⟨.inr ⟨rfl, g3', c3', HT⟩, by simp [intOf]⟩
              exact AllReadyH.nil
            exact AllReadyH.nil
          exact AllReadyH.nil
        exact AllReadyH.nil
      exact AllReadyH.nil
    · have HTH := HT.out
      have R8 := cell_of_row W s8 1 _ 43 _ (HTH.s8.trans K8.out)
      have R0 := cell_of_row W s10 0 _ 79 _ HTH.h10
      have R1 := cell_of_row W s10 1 _ 79 _ HTH.h10
      simp at R8 R0 R1
      have H9W := Lib.hid (HTH.s9.trans K9.out)
      clear HTH
      go_wp2_with (refine wpList_store_at W rfl 79 (.tmp 2) (.tmp 26) rfl s9 79 0 #[.int .i64 rows, .slice (some ⟨g', 0, none⟩) 1 c'] #[.int .i64 0, .slice none 0 0] #[.int .i64 rows, .slice (some ⟨g', 0, none⟩) 1 c'] rfl rfl H9W.out (show 0 + 2 ≤ 2 by omega) rfl size79 (one_g rows (some ⟨g', 0, none⟩) 1 c') ?_)
      refine bodyPost_ret (results_cell1 rfl _ _ s9 79 _ _ rfl (setRow_heap' _ s9 _ _ 79 H9W.out) size79 st79) rfl ?_
      have hh := HT.out.here
      have h9l := Go.NR.heap_lt H9W.out
      refine ⟨g', c', rfl, ⟨hh.1, hh.2.1, hh.2.2.1, hh.2.2.2.eq (Go.NR.setRow_else _ s9 _ g' (fun e => ?_))⟩, Below.setRow HT.out.be HO.out.2.1 _⟩
      have := HT.out.new
      have := Go.NR.heap_lt K9.out
      omega
end Go.Proofs.Ytfblhcphbcghpaa
end

section
namespace Go.Proofs.Ytfblhcphbcghpaa
open Go.RowKit
open Go.NR (At)
set_option maxRecDepth 100000
structure GQ where
  (a n r lo hi : Nat)
def GQ.k (q : GQ) : Array Value := kcl q.a q.n q.r q.lo q.hi
theorem GQ.k_ne (q : GQ) : q.k.toList ≠ [] := kcl_ne _ _ _ _ _
theorem G1.mono {w : World} {B B' g c : Nat} {l : Array Value} (h : G1 w B g c l) (hb : B' ≤ B) : G1 w B' g c l := ⟨Nat.le_trans hb h.1, h.2⟩
theorem G1.eq {w w' : World} {B g c : Nat} {l : Array Value} (h : G1 w B g c l) (e : w'.heap[g]? = w.heap[g]?) : G1 w' B g c l := ⟨h.1, h.2.1, h.2.2.1, h.2.2.2.eq e⟩
theorem G1.lt {w : World} {B g c : Nat} {q : GQ} (h : G1 w B g c q.k) : g < w.heap.size := h.2.2.2.lt q.k_ne
theorem G1.below {w w' : World} {B g c : Nat} {q : GQ} (h : G1 w B g c q.k) (hb : Below w.heap.size w w') : G1 w' B g c q.k := h.eq (hb.block g h.lt)
structure GRow (w : World) (B : Nat) (A : Option Addr) (n c : Nat) (gs : List GQ) : Prop where
  len : gs.length = n
  le : n ≤ c
  max : c ≤ maxLen
  at' : ∀ (j : Nat) (q : GQ), gs[j]? = some q → ∃ b g c', A = some ⟨b, 0, none⟩ ∧ b < w.heap.size ∧ w.cell? ⟨b, j * 2, none⟩ = some (.int .i64 q.r) ∧ w.cell? ⟨b, j * 2 + 1, none⟩ = some (.slice (some ⟨g, 0, none⟩) 1 c') ∧ G1 w B g c' q.k
theorem GRow.below {w w' : World} {B : Nat} {A : Option Addr} {n c : Nat} {gs : List GQ} (h : GRow w B A n c gs) (hb : Below w.heap.size w w') : GRow w' B A n c gs :=
  ⟨h.len, h.le, h.max, fun j q hj => by
    obtain ⟨b, g, c', e, hl, h1, h2, h3⟩ := h.at' j q hj
    exact ⟨b, g, c', e, Nat.lt_of_lt_of_le hl hb.size, cellW h1 hb, cellW h2 hb, h3.below hb⟩⟩
theorem GRow.nil (w : World) (B : Nat) : GRow w B none 0 0 [] := ⟨rfl, Nat.le_refl _, Nat.zero_le _, fun j q hj => by simp at hj⟩
theorem GRow.mono {w : World} {B B' : Nat} {A : Option Addr} {n c : Nat} {gs : List GQ} (h : GRow w B A n c gs) (hb : B' ≤ B) : GRow w B' A n c gs :=
  ⟨h.len, h.le, h.max, fun j q hj => by
    obtain ⟨b, g, c', e, hl, h1, h2, h3⟩ := h.at' j q hj
    exact ⟨b, g, c', e, hl, h1, h2, h3.mono hb⟩⟩
theorem GRow.set {w : World} {B s : Nat} {cs : Array Value} {A : Option Addr} {n c : Nat} {gs : List GQ} (h : GRow w B A n c gs) (hs : s < B) (hA : ∀ b, A = some ⟨b, 0, none⟩ → b ≠ s) : GRow (w.setRow s cs) B A n c gs :=
  ⟨h.len, h.le, h.max, fun j q hj => by
    obtain ⟨b, g, c', e, hl, h1, h2, h3⟩ := h.at' j q hj
    have hk := Go.NR.setRow_else w s cs b (hA b e)
    exact ⟨b, g, c', e, by rw [Go.NR.setRow_size]; exact hl, (World.cell?_of_block hk).trans h1, (World.cell?_of_block hk).trans h2, h3.eq (Go.NR.setRow_else w s cs g (by have := h3.1; omega))⟩⟩
def GX (w : World) (B : Nat) (v : Value) (gs : List GQ) (xs : List Value) : Prop := xs.length = gs.length * 2 ∧ ∀ (j : Nat) (q : GQ), gs[j]? = some q → ∃ g c, xs[j * 2]? = some (.int .i64 q.r) ∧ xs[j * 2 + 1]? = some (.slice (some ⟨g, 0, none⟩) 1 c) ∧ G1 w B g c q.k ∧ v.ownBlock ≠ some g
def GO (w : World) (B e : Nat) (v : Value) (gs : List GQ) : Prop := ∃ xs, w.ownsRow B e 2 v gs.length xs ∧ GX w B v gs xs
theorem GO.nil (w : World) (B e : Nat) : GO w B e (.slice none 0 0) [] := ⟨[], World.ownsRow_nil w B e 2, rfl, fun j q hj => by simp at hj⟩
theorem GO.lt {w : World} {B e : Nat} {v : Value} {gs : List GQ} (h : GO w B e v gs) : ∀ k, v.ownBlock = some k → B ≤ k ∧ k < w.heap.size := by
  obtain ⟨xs, ho, _⟩ := h
  exact fun k hk => ho.lt k hk
theorem GO.gr {w : World} {B e : Nat} {v : Value} {gs : List GQ} (h : GO w B e v gs) : ∃ A c, v = .slice A gs.length c ∧ GRow w B A gs.length c gs := by
  obtain ⟨xs, ho, hx⟩ := h
  by_cases hn : gs.length = 0
  · rcases ho.2 with ⟨rfl, _⟩ | ⟨g, cap, cur, rfl, hb, hg, h1, h2, _⟩
    · obtain rfl : gs = [] := List.length_eq_zero_iff.1 hn
      exact ⟨none, 0, rfl, GRow.nil w B⟩
    · obtain rfl : gs = [] := List.length_eq_zero_iff.1 hn
      exact ⟨_, cap, rfl, rfl, h1, h2, fun j q hj => by simp at hj⟩
  · obtain ⟨g, c, rfl, hb, hl, h1, h2, hc, _⟩ := Go.NR.own_at ho hn
    refine ⟨_, c, rfl, rfl, h1, h2, fun j q hj => ?_⟩
    obtain ⟨g', c', x1, x2, x3, _⟩ := hx.2 j q hj
    have hjl : j < gs.length := (List.getElem?_eq_some_iff.1 hj).1
    exact ⟨g, g', c', rfl, hl, (hc (j * 2) (by omega)).trans x1, (hc (j * 2 + 1) (by omega)).trans x2, x3⟩
theorem GO.below {w w' : World} {B e : Nat} {v : Value} {gs : List GQ} (h : GO w B e v gs) (hb : Below w.heap.size w w') : GO w' B e v gs := by
  obtain ⟨xs, ho, hx⟩ := h
  exact ⟨xs, Go.NR.own_below ho hb, hx.1, fun j q hj => by
    obtain ⟨g, c, x1, x2, x3, x4⟩ := hx.2 j q hj
    exact ⟨g, c, x1, x2, x3.below hb, x4⟩⟩
theorem GX.push {W W' : World} {B : Nat} {v v' : Value} {gs : List GQ} {xs : List Value} (hx : GX W B v gs xs) (q : GQ) {g c s : Nat} (hG : G1 W' B g c q.k) (hs : s < B) (hst : ∀ b, b < W.heap.size → b ≠ s → v.ownBlock ≠ some b → W'.heap[b]? = W.heap[b]?) (hw : ∀ k, v'.ownBlock = some k → v.ownBlock = some k ∨ W.heap.size ≤ k) (hg : v'.ownBlock ≠ some g) :
    GX W' B v' (gs ++ [q]) (xs ++ [.int .i64 q.r, .slice (some ⟨g, 0, none⟩) 1 c]) := by
  refine ⟨by simp [hx.1]; omega, fun j p hj => ?_⟩
  have hxl := hx.1
  rcases Nat.lt_or_ge j gs.length with hl | hl
  · rw [List.getElem?_append_left hl] at hj
    obtain ⟨g', c', x1, x2, x3, x4⟩ := hx.2 j p hj
    have hlt := x3.lt
    refine ⟨g', c', ?_, ?_, x3.eq (hst g' hlt (fun e => by have := x3.1; omega) x4), fun e => ?_⟩
    · rw [List.getElem?_append_left (by omega)]; exact x1
    · rw [List.getElem?_append_left (by omega)]; exact x2
    · rcases hw g' e with h | h
      · exact x4 h
      · omega
  · have hj' : j = gs.length := by
      have := (List.getElem?_eq_some_iff.1 hj).1
      simp at this
      omega
    subst hj'
    rw [List.getElem?_append_right (Nat.le_refl _)] at hj
    simp at hj
    subst hj
    refine ⟨g, c, ?_, ?_, hG, hg⟩
    · rw [List.getElem?_append_right (by omega)]; simp [hxl]
    · rw [List.getElem?_append_right (by omega)]
      have : gs.length * 2 + 1 - xs.length = 1 := by omega
      rw [this]; rfl
end Go.Proofs.Ytfblhcphbcghpaa
end

section
namespace Go.Proofs.Ytfblhcphbcghpaa
open Go.RowKit
open Go.NR (At)
set_option maxRecDepth 100000
theorem Try.E45 : Go.NR.Elems Try.prog 45 103 2 24 (.agg #[.string ⟨#[]⟩, .int .i64 0]) := ⟨by kernel_rfl, by kernel_rfl, rfl, by decide, by decide⟩
def colA : List (List UInt8 × Int) := [([97], 1)]
theorem colA_chk : chk colA = 0 := by decide +kernel
theorem crA {w : World} {g c : Nat} (h1 : 1 ≤ c) (hm : c ≤ maxLen) (c0 : w.cell? ⟨g, 0, none⟩ = some (.string ⟨#[97]⟩)) (c1 : w.cell? ⟨g, 1, none⟩ = some (.int .i64 1)) : CR w (some ⟨g, 0, none⟩) 1 c colA := by
  refine ⟨rfl, h1, hm, fun j q hj => ?_⟩
  match j, hj with
  | 0, h => cases h; exact ⟨g, rfl, c0, c1⟩
  | j + 1, h => simp [colA] at h
set_option maxHeartbeats 8000000 in
theorem Try.toSchema (w : World) {b cb : Nat} (hb : 1 ≤ cb) (hbm : cb ≤ maxLen) (c0 : w.cell? ⟨b, 0, none⟩ = some (.string ⟨#[97]⟩)) (c1 : w.cell? ⟨b, 1, none⟩ = some (.int .i64 1)) :
    Calls Try.prog 21 #[.slice (some ⟨b, 0, none⟩) 1 cb] w fun x w' => ∃ g c, x = .returned (.slice (some ⟨g, 0, none⟩) 1 c) ∧ CR w' (some ⟨g, 0, none⟩) 1 c colA ∧ (Below w.heap.size w w' ∧ w.heap.size ≤ g ∧ g < w'.heap.size) := by
  have C0 := Lib.hid c0
  have C1 := Lib.hid c1
  clear c0 c1
  go_enter Try.func21, Try.ntmps21
  go_wp2_with fail
  go_loopw [3, 4] (fun v t W => (v = .slice none 0 0 ∧ t = .int .i64 0 ∧ W = w) ∨ ∃ g c, v = .slice (some ⟨g, 0, none⟩) 1 c ∧ t = .int .i64 1 ∧ Hid (CR W (some ⟨g, 0, none⟩) 1 c colA ∧ (Below w.heap.size w W ∧ w.heap.size ≤ g ∧ g < W.heap.size))) (fun _ t _ => 1 - (intOf t).toNat)
  case atStart => exact .inl ⟨rfl, rfl, rfl⟩
  case round =>
    rename World => W
    rcases hrel with ⟨rfl, rfl, hW⟩ | ⟨g, c, rfl, rfl, HT⟩
    · subst W
      go_upto_region 5 with fail
      refine wp_region_noPanic ?_
      refine wp_region_held_drew (S := (fun W => W.cell? ⟨b, 0, none⟩ = some (.string ⟨#[97]⟩) ∧ W.cell? ⟨b, 1, none⟩ = some (.int .i64 1))) (by kernel_rfl) ?_ (fun hHeld => ?_)
      · exact ⟨C0.out, C1.out⟩
      refine wpAnyH_take (i := 0) (oi := { dst := some 11, op := Op.move (Operand.tmp 3), type := 45, pos := "law.go:23", after := #[], guard := none }) (v := ?_) rfl (by kernel_rfl) (by kernel_rfl) (by kernel_rfl) (fun _ _ _ h => h) (Or.inl ⟨by rfl, ?_⟩) (by assumption) ?_
      rotate_left
      · (intro w hSw; (try dsimp only at hSw); go_simp; try with_reducible rfl)
      try simp only [Act.put, List.setIfInBounds_toArray, List.set_cons_zero, List.set_cons_succ]
      refine wpAnyH_take (i := 1) (oi := { dst := some 12, op := Op.move (Operand.tmp 0), type := 26, pos := "law.go:23", after := #[], guard := none }) (v := ?_) rfl (by kernel_rfl) (by kernel_rfl) (by kernel_rfl) (fun _ _ _ h => h) (Or.inl ⟨by rfl, ?_⟩) (by assumption) ?_
      rotate_left
      · (intro w hSw; (try dsimp only at hSw); go_simp; try with_reducible rfl)
      try simp only [Act.put, List.setIfInBounds_toArray, List.set_cons_zero, List.set_cons_succ]
      refine wpAnyH_take (i := 2) (oi := { dst := some 13, op := Op.move (Operand.tmp 4), type := 3, pos := "law.go:23", after := #[], guard := none }) (v := ?_) rfl (by kernel_rfl) (by kernel_rfl) (by kernel_rfl) (fun _ _ _ h => h) (Or.inl ⟨by rfl, ?_⟩) (by assumption) ?_
      rotate_left
      · (intro w hSw; (try dsimp only at hSw); go_simp; try with_reducible rfl)
      try simp only [Act.put, List.setIfInBounds_toArray, List.set_cons_zero, List.set_cons_succ]
      refine wpAnyH_take (i := 3) (oi := { dst := some 14, op := Op.indexAddr 26 (Operand.tmp 12) (Operand.tmp 13), type := 0, pos := "law.go:23", after := #[{ on := 1, ground := Ground.data }, { on := 2, ground := Ground.data }], guard := none }) (v := ?_) rfl (by kernel_rfl) (by kernel_rfl) (by kernel_rfl) (fun _ _ _ h => h) (Or.inl ⟨by rfl, ?_⟩) (by assumption) ?_
      rotate_left
      · (intro w hSw; (try dsimp only at hSw); go_simp; try with_reducible rfl)
      try simp only [Act.put, List.setIfInBounds_toArray, List.set_cons_zero, List.set_cons_succ]
      refine wpAnyH_take (i := 4) (oi := { dst := some 15, op := Op.fieldAddr 25 (Operand.tmp 14) 0, type := 0, pos := "law.go:23", after := #[{ on := 3, ground := Ground.data }], guard := none }) (v := ?_) rfl (by kernel_rfl) (by kernel_rfl) (by kernel_rfl) (fun _ _ _ h => h) (Or.inl ⟨by rfl, ?_⟩) (by assumption) ?_
      rotate_left
      · (intro w hSw; (try dsimp only at hSw); go_simp; try with_reducible rfl)
      try simp only [Act.put, List.setIfInBounds_toArray, List.set_cons_zero, List.set_cons_succ]
      refine wpAnyH_take (i := 5) (oi := { dst := some 16, op := Op.load 9 (Operand.tmp 15), type := 9, pos := "law.go:23", after := #[{ on := 4, ground := Ground.data }], guard := none }) (v := ?_) rfl (by kernel_rfl) (by kernel_rfl) (by kernel_rfl) (fun _ _ _ h => h) (Or.inl ⟨by rfl, ?_⟩) (by assumption) ?_
      rotate_left
      · (intro w hSw; (try dsimp only at hSw); go_simp; try with_reducible rfl)
      try simp only [Act.put, List.setIfInBounds_toArray, List.set_cons_zero, List.set_cons_succ]
      refine wpAnyH_take (i := 6) (oi := { dst := some 17, op := Op.move (Operand.tmp 0), type := 26, pos := "law.go:23", after := #[], guard := none }) (v := ?_) rfl (by kernel_rfl) (by kernel_rfl) (by kernel_rfl) (fun _ _ _ h => h) (Or.inl ⟨by rfl, ?_⟩) (by assumption) ?_
      rotate_left
      · (intro w hSw; (try dsimp only at hSw); go_simp; try with_reducible rfl)
      try simp only [Act.put, List.setIfInBounds_toArray, List.set_cons_zero, List.set_cons_succ]
      refine wpAnyH_take (i := 7) (oi := { dst := some 18, op := Op.move (Operand.tmp 4), type := 3, pos := "law.go:23", after := #[], guard := none }) (v := ?_) rfl (by kernel_rfl) (by kernel_rfl) (by kernel_rfl) (fun _ _ _ h => h) (Or.inl ⟨by rfl, ?_⟩) (by assumption) ?_
      rotate_left
      · (intro w hSw; (try dsimp only at hSw); go_simp; try with_reducible rfl)
      try simp only [Act.put, List.setIfInBounds_toArray, List.set_cons_zero, List.set_cons_succ]
      refine wpAnyH_take (i := 8) (oi := { dst := some 19, op := Op.indexAddr 26 (Operand.tmp 17) (Operand.tmp 18), type := 0, pos := "law.go:23", after := #[{ on := 6, ground := Ground.data }, { on := 7, ground := Ground.data }], guard := none }) (v := ?_) rfl (by kernel_rfl) (by kernel_rfl) (by kernel_rfl) (fun _ _ _ h => h) (Or.inl ⟨by rfl, ?_⟩) (by assumption) ?_
      rotate_left
      · (intro w hSw; (try dsimp only at hSw); go_simp; try with_reducible rfl)
      try simp only [Act.put, List.setIfInBounds_toArray, List.set_cons_zero, List.set_cons_succ]
      refine wpAnyH_take (i := 9) (oi := { dst := some 20, op := Op.fieldAddr 25 (Operand.tmp 19) 1, type := 0, pos := "law.go:23", after := #[{ on := 8, ground := Ground.data }], guard := none }) (v := ?_) rfl (by kernel_rfl) (by kernel_rfl) (by kernel_rfl) (fun _ _ _ h => h) (Or.inl ⟨by rfl, ?_⟩) (by assumption) ?_
      rotate_left
      · (intro w hSw; (try dsimp only at hSw); go_simp; try with_reducible rfl)
      try simp only [Act.put, List.setIfInBounds_toArray, List.set_cons_zero, List.set_cons_succ]
      refine wpAnyH_take (i := 10) (oi := { dst := some 21, op := Op.load 3 (Operand.tmp 20), type := 3, pos := "law.go:23", after := #[{ on := 9, ground := Ground.data }], guard := none }) (v := ?_) rfl (by kernel_rfl) (by kernel_rfl) (by kernel_rfl) (fun _ _ _ h => h) (Or.inl ⟨by rfl, ?_⟩) (by assumption) ?_
      rotate_left
      · (intro w hSw; (try dsimp only at hSw); go_simp; try with_reducible rfl)
      try simp only [Act.put, List.setIfInBounds_toArray, List.set_cons_zero, List.set_cons_succ]
      refine wpAnyH_take (i := 11) (oi := { dst := some 22, op := Op.build 103 #[(0, Operand.tmp 16), (1, Operand.tmp 21)], type := 103, pos := "law.go:23", after := #[{ on := 5, ground := Ground.data }, { on := 10, ground := Ground.data }], guard := none }) (v := ?_) rfl (by kernel_rfl) (by kernel_rfl) (by kernel_rfl) (fun _ _ _ h => h) (Or.inl ⟨by rfl, ?_⟩) (by assumption) ?_
      rotate_left
      · (intro w hSw; (try dsimp only at hSw); go_simp; try with_reducible rfl)
      try simp only [Act.put, List.setIfInBounds_toArray, List.set_cons_zero, List.set_cons_succ]
      refine wpAnyH_ready (rs := [12]) (by kernel_rfl) (by simp) ?_
      refine AllReadyH.cons (o := { dst := some 23, op := Op.buildSlice 45 1 #[(0, Operand.tmp 22)], type := 45, pos := "law.go:23", after := #[{ on := 11, ground := Ground.data }], guard := none }) rfl (fun K hK => ?_) AllReadyH.nil
      go_simp
      have K2 : Hid (Below w.heap.size w (w.alloc (.cells #[.string ⟨#[97]⟩, .int .i64 1] 103)).drew) := Lib.hid (((Below.refl w.heap.size w).alloc (Nat.le_refl _) _).drew)
      have C2 : Hid (At (w.alloc (.cells #[.string ⟨#[97]⟩, .int .i64 1] 103)).drew w.heap.size [.string ⟨#[97]⟩, .int .i64 1]) := Lib.hid (Go.NR.at_alloc w #[.string ⟨#[97]⟩, .int .i64 1] 103)
      obtain ⟨V2, hV2⟩ : ∃ V2, (w.alloc (.cells #[.string ⟨#[97]⟩, .int .i64 1] 103)).drew = V2 := ⟨_, rfl⟩
      rw [hV2] at K2 C2
      rw [hV2]
      clear hV2
      refine hK.out _ _ ?_ (fun hHeld => ?_)
      · exact ⟨cellW C0.out K2.out, cellW C1.out K2.out⟩
      clear hK K
      try simp only [Act.put, List.setIfInBounds_toArray, List.set_cons_zero, List.set_cons_succ]
      refine wpAnyH_ready (rs := [13]) (by kernel_rfl) (by simp) ?_
      refine AllReadyH.cons (o := { dst := some 24, op := Op.call { callee := Callee.builtin Builtin.append, args := #[Operand.tmp 11, Operand.tmp 23], argTypes := #[45, 45] }, type := 45, pos := "law.go:23", after := #[{ on := 0, ground := Ground.data }, { on := 12, ground := Ground.data }], guard := none }) rfl (fun K hK => ?_) AllReadyH.nil
      refine Go.NR.oper_app Try.E45 (.tmp 11) (.tmp 23) rfl w.heap.size (.slice none 0 0) 0 [] rfl (World.ownsRow_nil V2 _ 103 2) w.heap.size 1 1 [.string ⟨#[97]⟩, .int .i64 1] rfl rfl C2.out (by intro u hu; simp at hu; rcases hu with rfl | rfl <;> rfl) (by omega) (by decide) K2.out.size ?_
      intro v3 V3 o3 g3 w3
      obtain ⟨g3', c3', rfl, hg3, hg3', hc3, hc3', hcc, _⟩ := Go.NR.own_at o3 (by omega)
      have hb3 : Below w.heap.size w V3 := K2.out.grown g3 K2.out.size (fun k hk => by simp [Value.ownBlock] at hk)
      have HT : Hid (CR V3 (some ⟨g3', 0, none⟩) 1 c3' colA ∧ (Below w.heap.size w V3 ∧ w.heap.size ≤ g3' ∧ g3' < V3.heap.size)) := Lib.hid ⟨crA (by omega) hc3' (hcc 0 (by omega)) (hcc 1 (by omega)), hb3, hg3, hg3'⟩
      have k0 : V3.cell? ⟨b, 0, none⟩ = some (.string ⟨#[97]⟩) := cellW C0.out hb3
      have k1 : V3.cell? ⟨b, 1, none⟩ = some (.int .i64 1) := cellW C1.out hb3
      clear o3 g3 w3 hg3 hg3' hc3 hc3' hcc
      refine hK.out _ _ ?_ (fun hHeld => ?_)
      · exact ⟨k0, k1⟩
      clear hK K
      try simp only [Act.put, List.setIfInBounds_toArray, List.set_cons_zero, List.set_cons_succ]
      refine wpAnyH_take (i := 14) (oi := { dst := some 3, op := Op.assign (Operand.tmp 24), type := 45, pos := "law.go:23", after := #[{ on := 13, ground := Ground.data }, { on := 13, ground := Ground.chain }, { on := 0, ground := Ground.phase }, { on := 1, ground := Ground.phase }, { on := 2, ground := Ground.phase }, { on := 3, ground := Ground.phase }, { on := 4, ground := Ground.phase }, { on := 5, ground := Ground.phase }, { on := 6, ground := Ground.phase }, { on := 7, ground := Ground.phase }, { on := 8, ground := Ground.phase }, { on := 9, ground := Ground.phase }, { on := 10, ground := Ground.phase }, { on := 11, ground := Ground.phase }, { on := 12, ground := Ground.phase }, { on := 13, ground := Ground.phase }], guard := none }) (v := ?_) rfl (by kernel_rfl) (by kernel_rfl) (by kernel_rfl) (fun _ _ _ h => h) (Or.inl ⟨by rfl, ?_⟩) (by assumption) ?_
      rotate_left
      · (intro w hSw; (try dsimp only at hSw); go_simp; try with_reducible rfl)
      try simp only [Act.put, List.setIfInBounds_toArray, List.set_cons_zero, List.set_cons_succ]
      refine wpAnyH_done (by kernel_rfl) ?_ _
      refine NoPanic.normal ?_
      go_wp2_with fail
      exact ⟨.inr ⟨g3', c3', rfl, rfl, HT⟩, by simp [intOf]⟩
    · go_wp2_with fail
      go_ret
      exact ⟨g, c, rfl, HT.out.1, HT.out.2⟩
end Go.Proofs.Ytfblhcphbcghpaa
end

section
namespace Go.Proofs.Ytfblhcphbcghpaa
open Go.RowKit
open Go.NR (At)
set_option maxRecDepth 100000
theorem Try.E46 : Go.NR.Elems Try.prog 46 79 2 32 (.agg #[.int .i64 0, .slice none 0 0]) := ⟨by kernel_rfl, by kernel_rfl, rfl, by decide, by decide⟩
theorem CR.eq {w w' : World} {g n c : Nat} {cs : List (List UInt8 × Int)} (h : CR w (some ⟨g, 0, none⟩) n c cs) (e : w'.heap[g]? = w.heap[g]?) : CR w' (some ⟨g, 0, none⟩) n c cs :=
  ⟨h.len, h.le, h.max, fun j q hj => by
    obtain ⟨b, hb, c0, c1⟩ := h.at' j q hj
    cases hb
    exact ⟨g, rfl, (World.cell?_of_block e).trans c0, (World.cell?_of_block e).trans c1⟩⟩
structure TF (w5 W : World) (s3 e g cg : Nat) (v : Value) (cs : List (List UInt8 × Int)) (gs : List GQ) : Prop where
  h3 : W.heap[s3]? = some (.cells #[.int .u64 e, .slice (some ⟨g, 0, none⟩) cs.length cg, v] 48 (0, 0))
  own : GO W (s3 + 1) 79 v gs
  be : Below s3 w5 W
  cr : CR W (some ⟨g, 0, none⟩) cs.length cg cs
  col : g ≠ s3 ∧ g < W.heap.size ∧ v.ownBlock ≠ some g
theorem take_snoc {gs : List GQ} {i : Nat} {q : GQ} (h : gs[i]? = some q) : gs.take (i + 1) = gs.take i ++ [q] := by
  rw [List.take_add_one, h]
  rfl
theorem one_p (r : Int) (g c : Nat) : ∀ u ∈ ([.int .i64 r, .slice (some ⟨g, 0, none⟩) 1 c] : List Value), u.oneCell' = true := by
  intro u h
  simp only [List.mem_cons, List.not_mem_nil, or_false] at h
  rcases h with rfl | rfl <;> rfl
theorem TF.push {w5 W V0 V1 V2 V3 : World} {s3 i e g cg : Nat} {v v3 : Value} {cs : List (List UInt8 × Int)} {gs : List GQ} {q : GQ} {xs : List Value} {g2 c2 : Nat} (hq : gs[i]? = some q) (hi : (gs.take i).length = i) (hbe : Below s3 w5 W) (hsl : s3 < W.heap.size) (hcr : CR W (some ⟨g, 0, none⟩) cs.length cg cs) (hcol : g ≠ s3 ∧ g < W.heap.size ∧ v.ownBlock ≠ some g)
    (hx : GX W (s3 + 1) v (gs.take i) xs) (hv : ∀ k, v.ownBlock = some k → s3 + 1 ≤ k ∧ k < W.heap.size) (K0 : Below W.heap.size W V0) (K01 : Below V0.heap.size V0 V1) (K12 : Below V1.heap.size V1 V2) (g3 : V2.grownBy V3 v.ownBlock) (w3 : ∀ k, v3.ownBlock = some k → v.ownBlock = some k ∨ V2.heap.size ≤ k)
    (hg2 : G1 V1 V0.heap.size g2 c2 q.k) (o4 : (V3.setCell ⟨s3, 2, none⟩ v3).ownsRow (s3 + 1) 79 2 v3 (i + 1) (xs ++ [.int .i64 q.r, .slice (some ⟨g2, 0, none⟩) 1 c2])) (s4 : (V3.setCell ⟨s3, 2, none⟩ v3).heap[s3]? = some (.cells #[.int .u64 e, .slice (some ⟨g, 0, none⟩) cs.length cg, v3] 48 (0, 0)))
    (g4 : Go.NR.Chg W (V3.setCell ⟨s3, 2, none⟩ v3) (fun b => b = s3 ∨ v.ownBlock = some b)) : TF w5 (V3.setCell ⟨s3, 2, none⟩ v3) s3 e g cg v3 cs (gs.take (i + 1)) := by
  have hl1 := hg2.lt
  have hl0 := hg2.1
  have e0 := K0.size
  have e1 := K01.size
  have e2 := K12.size
  have e4 := g4.size
  have hne2 : v.ownBlock ≠ some g2 := fun e => by have := (hv g2 e).2; omega
  have hst2 : (V3.setCell ⟨s3, 2, none⟩ v3).heap[g2]? = V1.heap[g2]? := ((Below.heap_setCell _ _ _ _ (by dsimp only; omega)).trans (g3.block g2 (by omega) (fun e => hne2 e.symm))).trans (K12.block g2 hl1)
  refine ⟨s4, ⟨xs ++ [.int .i64 q.r, .slice (some ⟨g2, 0, none⟩) 1 c2], ?_, ?_⟩, hbe.trans (g4.isBelow (by omega) (fun b hb e => ?_)), hcr.eq (g4.block g hcol.2.1 (fun e => by rcases e with e | e; exact hcol.1 e; exact hcol.2.2 e)), hcol.1, by omega, fun e => ?_⟩
  · rw [take_snoc hq, List.length_append, hi]
    exact o4
  · rw [take_snoc hq]
    refine hx.push q ((hg2.eq hst2).mono (by omega)) (Nat.lt_succ_self s3) (fun b hb hn hn2 => g4.block b hb (fun e => by rcases e with e | e; exact hn e; exact hn2 e)) (fun k hk => ?_) (fun e => ?_)
    · rcases w3 k hk with h | h
      · exact .inl h
      · exact .inr (by omega)
    · rcases w3 g2 e with h | h
      · exact hne2 h
      · omega
  · rcases e with e | e
    · omega
    · have := (hv b e).1
      omega
  · rcases w3 g e with h | h
    · exact hcol.2.2 h
    · omega
theorem oneFG (e : Nat) (A : Option Addr) (n c : Nat) (A' : Option Addr) (n' c' : Nat) : ∀ u ∈ (#[Value.int .u64 (e : Int), .slice A n c, .slice A' n' c'] : Array Value).toList, u.oneCell' = true := by
  intro u hu
  have h : u ∈ ([.int .u64 e, .slice A n c, .slice A' n' c'] : List Value) := hu
  simp only [List.mem_cons, List.not_mem_nil, or_false] at h
  rcases h with rfl | rfl | rfl <;> rfl
theorem G1.set {w : World} {B g c s : Nat} {l cs : Array Value} (h : G1 w B g c l) (hs : s < B) : G1 (w.setRow s cs) B g c l := h.eq (Go.NR.setRow_else _ s _ g (by have := h.1; omega))
structure FJ (w4 W : World) (s3 e g cg : Nat) : Prop where
  h3 : W.heap[s3]? = some (.cells #[.int .u64 e, .slice (some ⟨g, 0, none⟩) 1 cg, .slice none 0 0] 48 (0, 0))
  be : Below w4.heap.size w4 W
  cr : CR W (some ⟨g, 0, none⟩) 1 cg colA
  col : g ≠ s3 ∧ g < W.heap.size ∧ w4.heap.size ≤ s3
  lo : w4.heap.size ≤ g
set_option maxHeartbeats 16000000 in
theorem Try.toFoot (w : World) (e : Nat) {b cb : Nat} (hb : 1 ≤ cb) (hbm : cb ≤ maxLen) (c0 : w.cell? ⟨b, 0, none⟩ = some (.string ⟨#[97]⟩)) (c1 : w.cell? ⟨b, 1, none⟩ = some (.int .i64 1)) {A : Option Addr} {n c : Nat} {gs : List GQ} (hG : GRow w 0 A n c gs) (hn : n ≤ 1000) :
    Calls Try.prog 6 #[.agg #[.int .u64 e, .slice (some ⟨b, 0, none⟩) 1 cb, .slice A n c]] w fun x w' => ∃ g cg A' c', x = .returned (.agg #[.int .u64 e, .slice (some ⟨g, 0, none⟩) 1 cg, .slice A' n c']) ∧ CR w' (some ⟨g, 0, none⟩) 1 cg colA ∧ GRow w' w.heap.size A' n c' gs ∧ Below w.heap.size w w' := by
  obtain ⟨w4, s8, s9, hw4, hs8, hs9, HB, H8, H9, HO⟩ := alloc2' w (.cells #[.int .u64 e, .slice (some ⟨b, 0, none⟩) 1 cb, .slice A n c] 29) (.cells #[.int .u64 0, .slice none 0 0, .slice none 0 0] 48)
  have HG := Lib.hid hG
  have HLN := Lib.hid hG.len
  have hcm : c ≤ maxLen := hG.max
  have hnc : n ≤ c := hG.le
  have C0 := Lib.hid c0
  have C1 := Lib.hid c1
  clear hG c0 c1
  go_enter Try.func6, Try.ntmps6
  go_upto_region 1 with fail
  (try rw [hw4])
  (try rw [hs8])
  (try rw [hs9])
  clear hw4 hs8 hs9
  have U0 := Lib.hid (cell_of_row w4 s8 0 _ 29 _ H8.out)
  have U1 := Lib.hid (cell_of_row w4 s8 1 _ 29 _ H8.out)
  have D0 := Lib.hid (cellW C0.out HB.out)
  have D1 := Lib.hid (cellW C1.out HB.out)
  refine Code.wp_mono ?_ (?_ : Code.wp Try.prog _ (fun ex a2 w2 => ex = .normal ∧ ∃ s3 g cg, a2 = ⟨#[.agg #[.int .u64 e, .slice (some ⟨b, 0, none⟩) 1 cb, .slice A n c], .pointer (some ⟨s8, 0, none⟩), .pointer (some ⟨s9, 0, none⟩), .pointer (some ⟨s3, 0, none⟩), undef, .pointer (some ⟨s8, 0, none⟩), .int .u64 e, .pointer (some ⟨s8, 1, none⟩), .slice (some ⟨b, 0, none⟩) 1 cb, .slice (some ⟨g, 0, none⟩) 1 cg, .agg #[.int .u64 e, .slice (some ⟨g, 0, none⟩) 1 cg, .slice none 0 0], undef, undef, undef, undef, undef, undef, undef, undef, undef, undef, undef, undef, undef, undef, undef, undef, undef, undef, undef], []⟩ ∧ FJ w4 w2 s3 e g cg) _ w4)
  rotate_left
  · refine wp_region_noPanic ?_
    refine wp_region_held_drew (S := (fun W => W.cell? ⟨s8, 0, none⟩ = some (.int .u64 e) ∧ W.cell? ⟨s8, 1, none⟩ = some (.slice (some ⟨b, 0, none⟩) 1 cb))) (by kernel_rfl) ?_ (fun hHeld => ?_)
    · exact ⟨U0.out, U1.out⟩
    obtain ⟨V0, hV0⟩ : ∃ V0, w4.drew = V0 := ⟨_, rfl⟩
    have K0 : Hid (Below w4.heap.size w4 V0) := Lib.hid (by rw [← hV0]; exact (Below.refl _ w4).drew)
    rw [hV0] at hHeld ⊢
    clear hV0
    refine wpAnyH_take (i := 0) (oi := { dst := some 5, op := Op.fieldAddr 29 (Operand.tmp 1) 0, type := 0, pos := "law.go:24", after := #[], guard := none }) (v := ?_) rfl (by kernel_rfl) (by kernel_rfl) (by kernel_rfl) (fun _ _ _ h => h) (Or.inl ⟨by rfl, ?_⟩) (by assumption) ?_
    rotate_left
    · (intro w hSw; (try dsimp only at hSw); go_simp; try with_reducible rfl)
    try simp only [Act.put, List.setIfInBounds_toArray, List.set_cons_zero, List.set_cons_succ]
    refine wpAnyH_take (i := 1) (oi := { dst := some 6, op := Op.load 23 (Operand.tmp 5), type := 23, pos := "law.go:24", after := #[{ on := 0, ground := Ground.data }], guard := none }) (v := ?_) rfl (by kernel_rfl) (by kernel_rfl) (by kernel_rfl) (fun _ _ _ h => h) (Or.inl ⟨by rfl, ?_⟩) (by assumption) ?_
    rotate_left
    · (intro w hSw; (try dsimp only at hSw); go_simp; try with_reducible rfl)
    try simp only [Act.put, List.setIfInBounds_toArray, List.set_cons_zero, List.set_cons_succ]
    refine wpAnyH_take (i := 2) (oi := { dst := some 7, op := Op.fieldAddr 29 (Operand.tmp 1) 1, type := 0, pos := "law.go:24", after := #[], guard := none }) (v := ?_) rfl (by kernel_rfl) (by kernel_rfl) (by kernel_rfl) (fun _ _ _ h => h) (Or.inl ⟨by rfl, ?_⟩) (by assumption) ?_
    rotate_left
    · (intro w hSw; (try dsimp only at hSw); go_simp; try with_reducible rfl)
    try simp only [Act.put, List.setIfInBounds_toArray, List.set_cons_zero, List.set_cons_succ]
    refine wpAnyH_take (i := 3) (oi := { dst := some 8, op := Op.load 26 (Operand.tmp 7), type := 26, pos := "law.go:24", after := #[{ on := 2, ground := Ground.data }], guard := none }) (v := ?_) rfl (by kernel_rfl) (by kernel_rfl) (by kernel_rfl) (fun _ _ _ h => h) (Or.inl ⟨by rfl, ?_⟩) (by assumption) ?_
    rotate_left
    · (intro w hSw; (try dsimp only at hSw); go_simp; try with_reducible rfl)
    try simp only [Act.put, List.setIfInBounds_toArray, List.set_cons_zero, List.set_cons_succ]
    refine wpAnyH_ready (rs := [4, 6]) (by kernel_rfl) (by simp) ?_
    refine AllReadyH.cons (o := { dst := some 9, op := Op.call { callee := Callee.value (Operand.func 21), args := #[Operand.tmp 8], argTypes := #[26] }, type := 45, pos := "law.go:24", after := #[{ on := 3, ground := Ground.data }], guard := none }) rfl (fun K hK => ?_) ?_
    · skip
      go_simp
      refine (Try.toSchema V0 hb hbm (cellW D0.out K0.out) (cellW D1.out K0.out)).mono ?_
      rintro x w1 ⟨g, cg, rfl, hcr, hb5, hgl, hgs⟩
      have K1 : Hid (Below w4.heap.size w4 w1) := Lib.hid (K0.out.trans (hb5.mono K0.out.size))
      have HCR := Lib.hid hcr
      have HGS := Lib.hid hgs
      have HGLO : Hid (w4.heap.size ≤ g) := Lib.hid (by have := K0.out.size; omega)
      clear hb5 hcr hgl hgs
      refine hK.out _ _ ?_ (fun hHeld => ?_)
      · exact ⟨cellW U0.out K1.out, cellW U1.out K1.out⟩
      clear hK K
      try simp only [Act.put, List.setIfInBounds_toArray, List.set_cons_zero, List.set_cons_succ]
      refine wpAnyH_take (i := 5) (oi := { dst := some 10, op := Op.build 48 #[(0, Operand.tmp 6), (1, Operand.tmp 9)], type := 48, pos := "law.go:24", after := #[{ on := 1, ground := Ground.data }, { on := 4, ground := Ground.data }], guard := none }) (v := ?_) rfl (by kernel_rfl) (by kernel_rfl) (by kernel_rfl) (fun _ _ _ h => h) (Or.inl ⟨by rfl, ?_⟩) (by assumption) ?_
      rotate_left
      · (intro w hSw; (try dsimp only at hSw); go_simp; try with_reducible rfl)
      try simp only [Act.put, List.setIfInBounds_toArray, List.set_cons_zero, List.set_cons_succ]
      refine wpAnyH_ready (rs := [6]) (by kernel_rfl) (by simp) ?_
      refine AllReadyH.cons (o := { dst := some 3, op := Op.alloc 48, type := 0, pos := "law.go:24", after := #[], guard := none }) rfl (fun K hK => ?_) ?_
      · skip
        go_simp
        have K2 : Hid (Below w4.heap.size w4 (w1.alloc (.cells #[.int .u64 0, .slice none 0 0, .slice none 0 0] 48))) := Lib.hid (K1.out.trans (((Below.refl w1.heap.size w1).alloc (Nat.le_refl _) _).mono K1.out.size))
        have HN := Lib.hid (heap_alloc_new w1 (.cells #[.int .u64 0, .slice none 0 0, .slice none 0 0] 48))
        have HSZ : Hid ((w1.alloc (.cells #[.int .u64 0, .slice none 0 0, .slice none 0 0] 48)).heap.size = w1.heap.size + 1) := Lib.hid (by simp)
        have HCR2 := Lib.hid (HCR.out.below ((Below.refl w1.heap.size w1).alloc (Nat.le_refl _) (.cells #[.int .u64 0, .slice none 0 0, .slice none 0 0] 48)))
        obtain ⟨s10, hs10⟩ : ∃ s10, w1.heap.size = s10 := ⟨_, rfl⟩
        obtain ⟨w2, hw2⟩ : ∃ w6, w1.alloc (.cells #[.int .u64 0, .slice none 0 0, .slice none 0 0] 48) = w6 := ⟨_, rfl⟩
        have HSA : Hid (w1.heap.size = s10) := Lib.hid hs10
        have HLO : Hid (w4.heap.size ≤ s10) := Lib.hid (by rw [← hs10]; exact K1.out.size)
        rw [hw2] at K2 HN HSZ HCR2
        rw [hs10] at HN HSZ
        (try rw [hw2])
        (try rw [hs10])
        clear hw2 hs10
        have HN2 := HN
        have HGN : Hid (g ≠ s10 ∧ g < w2.heap.size ∧ w4.heap.size ≤ g) := Lib.hid ⟨by have := HGS.out; have := HSA.out; omega, by have := HGS.out; have := HSA.out; have := HSZ.out; omega, HGLO.out⟩
        refine hK.out _ _ ?_ (fun hHeld => ?_)
        · exact ⟨cellW U0.out K2.out, cellW U1.out K2.out⟩
        clear hK K
        try simp only [Act.put, List.setIfInBounds_toArray, List.set_cons_zero, List.set_cons_succ]
        refine wpAnyH_ready (rs := [7]) (by kernel_rfl) (by simp) ?_
        refine AllReadyH.cons (o := { dst := none, op := Op.store 48 (Operand.tmp 3) (Operand.tmp 10), type := 0, pos := "law.go:24", after := #[{ on := 6, ground := Ground.data }, { on := 5, ground := Ground.data }, { on := 4, ground := Ground.chain }, { on := 0, ground := Ground.phase }, { on := 1, ground := Ground.phase }, { on := 2, ground := Ground.phase }, { on := 3, ground := Ground.phase }, { on := 4, ground := Ground.phase }, { on := 5, ground := Ground.phase }, { on := 6, ground := Ground.phase }], guard := none }) rfl (fun K hK => ?_) ?_
        · skip
          have HJ : Hid (FJ w4 (w2.setRow s10 #[.int .u64 e, .slice (some ⟨g, 0, none⟩) 1 cg, .slice none 0 0]) s10 e g cg) := Lib.hid ⟨setRow_heap' _ s10 _ _ 48 HN2.out, Below.setRow K2.out HLO.out _, HCR2.out.eq (Go.NR.setRow_else _ s10 _ g HGN.out.1), ⟨HGN.out.1, by rw [Go.NR.setRow_size]; exact HGN.out.2.1, HLO.out⟩, HGN.out.2.2⟩
          refine oper_store_at _ 48 (.tmp 3) (.tmp 10) rfl s10 48 0 #[.int .u64 e, .slice (some ⟨g, 0, none⟩) 1 cg, .slice none 0 0] #[.int .u64 0, .slice none 0 0, .slice none 0 0] #[.int .u64 e, .slice (some ⟨g, 0, none⟩) 1 cg, .slice none 0 0] rfl rfl HN2.out (show 0 + 3 ≤ 3 by omega) rfl size48 (oneS e (some ⟨g, 0, none⟩) 1 cg) ?_
          refine hK.out _ _ ?_ (fun hHeld => ?_)
          · exact ⟨(World.cell?_of_block (Go.NR.setRow_else _ s10 _ s8 (by have := Go.NR.heap_lt H8.out; have := HLO.out; omega))).trans (cellW U0.out K2.out), (World.cell?_of_block (Go.NR.setRow_else _ s10 _ s8 (by have := Go.NR.heap_lt H8.out; have := HLO.out; omega))).trans (cellW U1.out K2.out)⟩
          clear hK K
          try simp only [Act.put, List.setIfInBounds_toArray, List.set_cons_zero, List.set_cons_succ]
          refine wpAnyH_done (by kernel_rfl) ?_ _
          refine NoPanic.normal ?_
          exact ⟨rfl, s10, g, cg, rfl, HJ.out⟩
        exact AllReadyH.nil
      exact AllReadyH.nil
    refine AllReadyH.cons (o := { dst := some 3, op := Op.alloc 48, type := 0, pos := "law.go:24", after := #[], guard := none }) rfl (fun K hK => ?_) ?_
    · skip
      go_simp
      have K1 : Hid (Below w4.heap.size w4 (V0.alloc (.cells #[.int .u64 0, .slice none 0 0, .slice none 0 0] 48))) := Lib.hid (K0.out.trans (((Below.refl V0.heap.size V0).alloc (Nat.le_refl _) _).mono K0.out.size))
      have HN := Lib.hid (heap_alloc_new V0 (.cells #[.int .u64 0, .slice none 0 0, .slice none 0 0] 48))
      have HSZ : Hid ((V0.alloc (.cells #[.int .u64 0, .slice none 0 0, .slice none 0 0] 48)).heap.size = V0.heap.size + 1) := Lib.hid (by simp)
      obtain ⟨s10, hs10⟩ : ∃ s10, V0.heap.size = s10 := ⟨_, rfl⟩
      obtain ⟨w1, hw1⟩ : ∃ w6, V0.alloc (.cells #[.int .u64 0, .slice none 0 0, .slice none 0 0] 48) = w6 := ⟨_, rfl⟩
      have HLO : Hid (w4.heap.size ≤ s10) := Lib.hid (by rw [← hs10]; exact K0.out.size)
      rw [hw1] at K1 HN HSZ
      rw [hs10] at HN HSZ
      (try rw [hw1])
      (try rw [hs10])
      clear hw1 hs10
      refine hK.out _ _ ?_ (fun hHeld => ?_)
      · exact ⟨cellW U0.out K1.out, cellW U1.out K1.out⟩
      clear hK K
      try simp only [Act.put, List.setIfInBounds_toArray, List.set_cons_zero, List.set_cons_succ]
      refine wpAnyH_ready (rs := [4]) (by kernel_rfl) (by simp) ?_
      refine AllReadyH.cons (o := { dst := some 9, op := Op.call { callee := Callee.value (Operand.func 21), args := #[Operand.tmp 8], argTypes := #[26] }, type := 45, pos := "law.go:24", after := #[{ on := 3, ground := Ground.data }], guard := none }) rfl (fun K hK => ?_) ?_
      · skip
        go_simp
        refine (Try.toSchema w1 hb hbm (cellW D0.out K1.out) (cellW D1.out K1.out)).mono ?_
        rintro x w2 ⟨g, cg, rfl, hcr, hb5, hgl, hgs⟩
        have K2 : Hid (Below w4.heap.size w4 w2) := Lib.hid (K1.out.trans (hb5.mono K1.out.size))
        have HCR2 := Lib.hid hcr
        have HN2 := Lib.hid ((hb5.block s10 (Go.NR.heap_lt HN.out)).trans HN.out)
        have HGN : Hid (g ≠ s10 ∧ g < w2.heap.size ∧ w4.heap.size ≤ g) := Lib.hid ⟨by have := HSZ.out; omega, hgs, by have := K1.out.size; omega⟩
        clear hb5 hcr hgl hgs
        refine hK.out _ _ ?_ (fun hHeld => ?_)
        · exact ⟨cellW U0.out K2.out, cellW U1.out K2.out⟩
        clear hK K
        try simp only [Act.put, List.setIfInBounds_toArray, List.set_cons_zero, List.set_cons_succ]
        refine wpAnyH_take (i := 5) (oi := { dst := some 10, op := Op.build 48 #[(0, Operand.tmp 6), (1, Operand.tmp 9)], type := 48, pos := "law.go:24", after := #[{ on := 1, ground := Ground.data }, { on := 4, ground := Ground.data }], guard := none }) (v := ?_) rfl (by kernel_rfl) (by kernel_rfl) (by kernel_rfl) (fun _ _ _ h => h) (Or.inl ⟨by rfl, ?_⟩) (by assumption) ?_
        rotate_left
        · (intro w hSw; (try dsimp only at hSw); go_simp; try with_reducible rfl)
        try simp only [Act.put, List.setIfInBounds_toArray, List.set_cons_zero, List.set_cons_succ]
        refine wpAnyH_ready (rs := [7]) (by kernel_rfl) (by simp) ?_
        refine AllReadyH.cons (o := { dst := none, op := Op.store 48 (Operand.tmp 3) (Operand.tmp 10), type := 0, pos := "law.go:24", after := #[{ on := 6, ground := Ground.data }, { on := 5, ground := Ground.data }, { on := 4, ground := Ground.chain }, { on := 0, ground := Ground.phase }, { on := 1, ground := Ground.phase }, { on := 2, ground := Ground.phase }, { on := 3, ground := Ground.phase }, { on := 4, ground := Ground.phase }, { on := 5, ground := Ground.phase }, { on := 6, ground := Ground.phase }], guard := none }) rfl (fun K hK => ?_) ?_
        · skip
          have HJ : Hid (FJ w4 (w2.setRow s10 #[.int .u64 e, .slice (some ⟨g, 0, none⟩) 1 cg, .slice none 0 0]) s10 e g cg) := Lib.hid ⟨setRow_heap' _ s10 _ _ 48 HN2.out, Below.setRow K2.out HLO.out _, HCR2.out.eq (Go.NR.setRow_else _ s10 _ g HGN.out.1), ⟨HGN.out.1, by rw [Go.NR.setRow_size]; exact HGN.out.2.1, HLO.out⟩, HGN.out.2.2⟩
          refine oper_store_at _ 48 (.tmp 3) (.tmp 10) rfl s10 48 0 #[.int .u64 e, .slice (some ⟨g, 0, none⟩) 1 cg, .slice none 0 0] #[.int .u64 0, .slice none 0 0, .slice none 0 0] #[.int .u64 e, .slice (some ⟨g, 0, none⟩) 1 cg, .slice none 0 0] rfl rfl HN2.out (show 0 + 3 ≤ 3 by omega) rfl size48 (oneS e (some ⟨g, 0, none⟩) 1 cg) ?_
          refine hK.out _ _ ?_ (fun hHeld => ?_)
          · exact ⟨(World.cell?_of_block (Go.NR.setRow_else _ s10 _ s8 (by have := Go.NR.heap_lt H8.out; have := HLO.out; omega))).trans (cellW U0.out K2.out), (World.cell?_of_block (Go.NR.setRow_else _ s10 _ s8 (by have := Go.NR.heap_lt H8.out; have := HLO.out; omega))).trans (cellW U1.out K2.out)⟩
          clear hK K
          try simp only [Act.put, List.setIfInBounds_toArray, List.set_cons_zero, List.set_cons_succ]
          refine wpAnyH_done (by kernel_rfl) ?_ _
          refine NoPanic.normal ?_
          exact ⟨rfl, s10, g, cg, rfl, HJ.out⟩
        exact AllReadyH.nil
      exact AllReadyH.nil
    exact AllReadyH.nil
  rintro ex a2 w5 ⟨rfl, s3, g, cg, rfl, hj⟩
  have HL4 : Hid (s8 < w4.heap.size ∧ s9 < w4.heap.size ∧ w.heap.size ≤ w4.heap.size ∧ w4.heap.size ≤ s3) := Lib.hid ⟨Go.NR.heap_lt H8.out, Go.NR.heap_lt H9.out, HB.out.size, hj.col.2.2⟩
  have HB5 := Lib.hid (HB.out.trans (hj.be.mono HB.out.size))
  have K8 := Lib.hid ((hj.be.block s8 (Go.NR.heap_lt H8.out)).trans H8.out)
  have K9 := Lib.hid ((hj.be.block s9 (Go.NR.heap_lt H9.out)).trans H9.out)
  have HT0 : Hid (TF w5 w5 s3 e g cg (.slice none 0 0) colA (gs.take 0)) := Lib.hid ⟨hj.h3, GO.nil w5 (s3 + 1) 79, Below.refl _ _, hj.cr, hj.col.1, hj.col.2.1, by simp [Value.ownBlock]⟩
  have HGN9 : Hid (g ≠ s9) := Lib.hid (fun e => by have := hj.lo; have := Go.NR.heap_lt H9.out; omega)
  have HS5 : Hid (s3 < w5.heap.size) := Lib.hid (Go.NR.heap_lt hj.h3)
  clear hj H8 H9 HB U0 U1 D0 D1 C0 C1
  go_wp2_with fail
  go_loopw [4] (fun t W => ∃ (i : Nat) (vA : Option Addr) (vc : Nat), i ≤ n ∧ t = .int .i64 i ∧ Hid (TF w5 W s3 e g cg (.slice vA i vc) colA (gs.take i))) (fun t _ => n - (intOf t).toNat)
  case atStart => exact ⟨0, none, 0, Nat.zero_le _, rfl, HT0⟩
  case round =>
    rename World => W
    obtain ⟨i, vA, vc, hi, rfl, HT⟩ := hrel
    have z1 := cell_of_row W s8 2 _ 29 _ ((HT.out.be.block s8 (by have := HL4.out; omega)).trans K8.out)
    simp at z1
    by_cases hlt : i < n
    · have d1 : decide ((i : Int) < (n : Int)) = true := decide_eq_true (by omega)
      have d1' : decide (i < n) = true := decide_eq_true hlt
      obtain ⟨q, hq⟩ : ∃ q, gs[i]? = some q := ⟨_, List.getElem?_eq_getElem (by rw [HLN.out]; exact hlt)⟩
      obtain ⟨b2, gq, cq, eA, hbl, p0, p1, hgq⟩ := HG.out.at' i q hq
      subst eA
      have HBW0 := Lib.hid (HB5.out.trans (HT.out.be.mono (by have := HL4.out; omega)))
      have Z1 := Lib.hid z1
      have Z2 := Lib.hid (cellW p0 HBW0.out)
      have Z3 := Lib.hid (cellW p1 HBW0.out)
      have HGQ : Hid (G1 W 0 gq cq q.k) := Lib.hid (hgq.below HBW0.out)
      have HBL : Hid (b2 < w.heap.size) := Lib.hid hbl
      clear hbl p0 p1 hgq
      obtain ⟨xs, ho, hx⟩ := HT.out.own
      have hti : (gs.take i).length = i := by rw [List.length_take, HLN.out]; omega
      rw [hti] at ho
      have OW := Lib.hid ho
      have HX := Lib.hid hx
      have HTI := Lib.hid hti
      have HV : Hid (∀ k, (Value.slice vA i vc).ownBlock = some k → s3 + 1 ≤ k ∧ k < W.heap.size) := Lib.hid (fun k hk => ho.lt k hk)
      have HNE : Hid (∀ k, (Value.slice vA i vc).ownBlock = some k → k ≠ s3) := Lib.hid (fun k hk => by have := HV.out k hk; omega)
      have HS := Lib.hid HT.out.h3
      have HSL : Hid (s3 < W.heap.size) := Lib.hid (Go.NR.heap_lt HT.out.h3)
      have HBW : Hid (s3 + 1 ≤ W.heap.size) := Lib.hid HSL.out
      have HCL := cell_of_row W s3 2 _ 48 _ HS.out
      simp at HCL
      have HCL := Lib.hid HCL
      have HQ := Lib.hid hq
      clear ho hx hti z1 hq
      have z1 := Z1.out
      go_upto_region 5 with fail
      clear z1
      refine wp_region_noPanic ?_
      refine wp_region_held_drew (S := (fun V => V.cell? ⟨s8, 2, none⟩ = some (.slice (some ⟨b2, 0, none⟩) n c) ∧ V.cell? ⟨b2, i * 2, none⟩ = some (.int .i64 q.r) ∧ V.cell? ⟨b2, i * 2 + 1, none⟩ = some (.slice (some ⟨gq, 0, none⟩) 1 cq))) (by kernel_rfl) ?_ (fun hHeld => ?_)
      · exact ⟨Z1.out, Z2.out, Z3.out⟩
      obtain ⟨V0, hV0⟩ : ∃ V0, W.drew = V0 := ⟨_, rfl⟩
      have K0 : Hid (Below W.heap.size W V0) := Lib.hid (by rw [← hV0]; exact (Below.refl _ W).drew)
      rw [hV0] at hHeld ⊢
      clear hV0
      refine wpAnyH_take (i := 0) (oi := { dst := some 18, op := Op.fieldAddr 48 (Operand.tmp 3) 2, type := 0, pos := "law.go:26", after := #[], guard := none }) (v := ?_) rfl (by kernel_rfl) (by kernel_rfl) (by kernel_rfl) (fun _ _ _ h => h) (Or.inl ⟨by rfl, ?_⟩) (by assumption) ?_
      rotate_left
      · (intro w hSw; (try dsimp only at hSw); go_simp; try with_reducible rfl)
      try simp only [Act.put, List.setIfInBounds_toArray, List.set_cons_zero, List.set_cons_succ]
      refine wpAnyH_take (i := 2) (oi := { dst := some 20, op := Op.fieldAddr 29 (Operand.tmp 1) 2, type := 0, pos := "law.go:26", after := #[], guard := none }) (v := ?_) rfl (by kernel_rfl) (by kernel_rfl) (by kernel_rfl) (fun _ _ _ h => h) (Or.inl ⟨by rfl, ?_⟩) (by assumption) ?_
      rotate_left
      · (intro w hSw; (try dsimp only at hSw); go_simp; try with_reducible rfl)
      try simp only [Act.put, List.setIfInBounds_toArray, List.set_cons_zero, List.set_cons_succ]
      refine wpAnyH_take (i := 3) (oi := { dst := some 21, op := Op.load 27 (Operand.tmp 20), type := 27, pos := "law.go:26", after := #[{ on := 2, ground := Ground.data }], guard := none }) (v := ?_) rfl (by kernel_rfl) (by kernel_rfl) (by kernel_rfl) (fun _ _ _ h => h) (Or.inl ⟨by rfl, ?_⟩) (by assumption) ?_
      rotate_left
      · (intro w hSw; (try dsimp only at hSw); go_simp; try with_reducible rfl)
      try simp only [Act.put, List.setIfInBounds_toArray, List.set_cons_zero, List.set_cons_succ]
      refine wpAnyH_take (i := 4) (oi := { dst := some 22, op := Op.move (Operand.tmp 4), type := 3, pos := "law.go:26", after := #[], guard := none }) (v := ?_) rfl (by kernel_rfl) (by kernel_rfl) (by kernel_rfl) (fun _ _ _ h => h) (Or.inl ⟨by rfl, ?_⟩) (by assumption) ?_
      rotate_left
      · (intro w hSw; (try dsimp only at hSw); go_simp; try with_reducible rfl)
      try simp only [Act.put, List.setIfInBounds_toArray, List.set_cons_zero, List.set_cons_succ]
      refine wpAnyH_take (i := 5) (oi := { dst := some 23, op := Op.indexAddr 27 (Operand.tmp 21) (Operand.tmp 22), type := 0, pos := "law.go:26", after := #[{ on := 3, ground := Ground.data }, { on := 4, ground := Ground.data }], guard := none }) (v := ?_) rfl (by kernel_rfl) (by kernel_rfl) (by kernel_rfl) (fun _ _ _ h => h) (Or.inl ⟨by rfl, ?_⟩) (by assumption) ?_
      rotate_left
      · (intro w hSw; (try dsimp only at hSw); go_simp; try with_reducible rfl)
      try simp only [Act.put, List.setIfInBounds_toArray, List.set_cons_zero, List.set_cons_succ]
      refine wpAnyH_take (i := 6) (oi := { dst := some 24, op := Op.load 43 (Operand.tmp 23), type := 43, pos := "law.go:26", after := #[{ on := 5, ground := Ground.data }], guard := none }) (v := ?_) rfl (by kernel_rfl) (by kernel_rfl) (by kernel_rfl) (fun _ _ _ h => h) (Or.inl ⟨by rfl, ?_⟩) (by assumption) ?_
      rotate_left
      · (intro w hSw; (try dsimp only at hSw); go_simp; try with_reducible rfl)
      try simp only [Act.put, List.setIfInBounds_toArray, List.set_cons_zero, List.set_cons_succ]
      refine wpAnyH_ready (rs := [1, 7]) (by kernel_rfl) (by simp) ?_
      refine AllReadyH.cons (o := { dst := some 19, op := Op.load 46 (Operand.tmp 18), type := 46, pos := "law.go:26", after := #[{ on := 0, ground := Ground.data }], guard := none }) rfl (fun K hK => ?_) ?_
      · skip
        have p1 : V0.cell? ⟨s3, 2, none⟩ = some (.slice vA i vc) := cellW HCL.out K0.out
        go_simp
        clear p1
        refine hK.out _ _ ?_ (fun hHeld => ?_)
        · exact ⟨cellW Z1.out K0.out, cellW Z2.out K0.out, cellW Z3.out K0.out⟩
        clear hK K
        try simp only [Act.put, List.setIfInBounds_toArray, List.set_cons_zero, List.set_cons_succ]
        refine wpAnyH_ready (rs := [7]) (by kernel_rfl) (by simp) ?_
        refine AllReadyH.cons (o := { dst := some 25, op := Op.call { callee := Callee.value (Operand.func 22), args := #[Operand.tmp 24], argTypes := #[43] }, type := 79, pos := "law.go:26", after := #[{ on := 6, ground := Ground.data }], guard := none }) rfl (fun K hK => ?_) ?_
        · skip
          go_simp
          refine (Try.toGroup V0 q.r q.a q.n q.r q.lo q.hi (HGQ.out.below K0.out)).mono ?_
          rintro x V1 ⟨g2, c2, rfl, hg2, hb⟩
          have K01 := Lib.hid hb
          have K1 : Hid (Below W.heap.size W V1) := Lib.hid (K0.out.trans (hb.mono K0.out.size))
          have HG2 := Lib.hid hg2
          clear hb hg2
          refine hK.out _ _ ?_ (fun hHeld => ?_)
          · exact ⟨cellW Z1.out K1.out, cellW Z2.out K1.out, cellW Z3.out K1.out⟩
          clear hK K
          try simp only [Act.put, List.setIfInBounds_toArray, List.set_cons_zero, List.set_cons_succ]
          refine wpAnyH_ready (rs := [8]) (by kernel_rfl) (by simp) ?_
          refine AllReadyH.cons (o := { dst := some 26, op := Op.buildSlice 46 1 #[(0, Operand.tmp 25)], type := 46, pos := "law.go:26", after := #[{ on := 7, ground := Ground.data }], guard := none }) rfl (fun K hK => ?_) ?_
          · skip
            go_simp
            have K2 := Lib.hid (K1.out.trans (((Below.refl V1.heap.size V1).alloc (Nat.le_refl _) (.cells #[.int .i64 q.r, .slice (some ⟨g2, 0, none⟩) 1 c2] 79)).mono K1.out.size))
            have C2 := Lib.hid (Go.NR.at_alloc V1 #[.int .i64 q.r, .slice (some ⟨g2, 0, none⟩) 1 c2] 79)
            obtain ⟨gb, hgb⟩ : ∃ gb, V1.heap.size = gb := ⟨_, rfl⟩
            rw [hgb] at C2 ⊢
            obtain ⟨V2, hV2⟩ : ∃ V2, V1.alloc (.cells #[.int .i64 q.r, .slice (some ⟨g2, 0, none⟩) 1 c2] 79) = V2 := ⟨_, rfl⟩
            rw [hV2] at K2 C2 ⊢
            have O2 := Lib.hid (Go.NR.own_below OW.out K2.out)
            have K12 : Hid (Below V1.heap.size V1 V2) := Lib.hid (by rw [← hV2]; exact (Below.refl V1.heap.size V1).alloc (Nat.le_refl _) _)
            clear hgb hV2
            refine hK.out _ _ ?_ (fun hHeld => ?_)
            · exact ⟨cellW Z1.out K2.out, cellW Z2.out K2.out, cellW Z3.out K2.out⟩
            clear hK K
            try simp only [Act.put, List.setIfInBounds_toArray, List.set_cons_zero, List.set_cons_succ]
            refine wpAnyH_ready (rs := [9]) (by kernel_rfl) (by simp) ?_
            refine AllReadyH.cons (o := { dst := some 27, op := Op.call { callee := Callee.builtin Builtin.append, args := #[Operand.tmp 19, Operand.tmp 26], argTypes := #[46, 46] }, type := 46, pos := "law.go:26", after := #[{ on := 1, ground := Ground.data }, { on := 8, ground := Ground.data }, { on := 7, ground := Ground.chain }], guard := none }) rfl (fun K hK => ?_) ?_
            · skip
              refine Go.NR.oper_app Try.E46 (.tmp 19) (.tmp 26) rfl (s3 + 1) (.slice vA i vc) (i) (xs) rfl O2.out gb 1 1 ([.int .i64 q.r, .slice (some ⟨g2, 0, none⟩) 1 c2]) rfl rfl C2.out (one_p q.r g2 c2) (by omega) (by decide) (by have := K2.out.size; have := HBW.out; omega) ?_
              intro v3 V3 o3 g3 w3
              obtain ⟨g3', c3', rfl, hg3, hg3', hc3, hc3', _, _⟩ := Go.NR.own_at o3 (by omega)
              have HC3 := Lib.hid (And.intro hg3 (And.intro hc3 hc3'))
              have AK := Lib.hid (Go.NR.app_keep K2.out g3)
              obtain ⟨a1, a2, a3, a4⟩ := Go.NR.app_store (off := 2) K2.out OW.out o3 g3 w3 HS.out HNE.out
              have O4 := Lib.hid a1
              have S4 := Lib.hid a2
              have G4 := Lib.hid a3
              have N4 := Lib.hid a4
              have W3 := Lib.hid w3
              have G3 := Lib.hid g3
              have H3s := Lib.hid ((AK.out s3 (Go.NR.heap_lt HS.out) (fun e => HNE.out s3 e rfl)).trans HS.out)
              clear a1 a2 a3 a4 o3 g3 w3 hg3 hg3' hc3 hc3'
              refine hK.out _ _ ?_ (fun hHeld => ?_)
              · exact ⟨(World.cell?_of_block (AK.out s8 (by have := HL4.out; have := HSL.out; omega) (fun e => by have := HV.out _ e; have := HL4.out; omega))).trans Z1.out, (World.cell?_of_block (AK.out b2 (by have := HL4.out; have := HSL.out; have := HBL.out; omega) (fun e => by have := HV.out _ e; have := HL4.out; have := HBL.out; omega))).trans Z2.out, (World.cell?_of_block (AK.out b2 (by have := HL4.out; have := HSL.out; have := HBL.out; omega) (fun e => by have := HV.out _ e; have := HL4.out; have := HBL.out; omega))).trans Z3.out⟩
              clear hK K
              try simp only [Act.put, List.setIfInBounds_toArray, List.set_cons_zero, List.set_cons_succ]
              refine wpAnyH_take (i := 10) (oi := { dst := some 28, op := Op.fieldAddr 48 (Operand.tmp 3) 2, type := 0, pos := "law.go:26", after := #[{ on := 0, ground := Ground.phase }, { on := 1, ground := Ground.phase }, { on := 2, ground := Ground.phase }, { on := 3, ground := Ground.phase }, { on := 4, ground := Ground.phase }, { on := 5, ground := Ground.phase }, { on := 6, ground := Ground.phase }, { on := 7, ground := Ground.phase }, { on := 8, ground := Ground.phase }, { on := 9, ground := Ground.phase }], guard := none }) (v := ?_) rfl (by kernel_rfl) (by kernel_rfl) (by kernel_rfl) (fun _ _ _ h => h) (Or.inl ⟨by rfl, ?_⟩) (by assumption) ?_
              rotate_left
              · (intro w hSw; (try dsimp only at hSw); go_simp; try with_reducible rfl)
              try simp only [Act.put, List.setIfInBounds_toArray, List.set_cons_zero, List.set_cons_succ]
              refine wpAnyH_ready (rs := [11]) (by kernel_rfl) (by simp) ?_
              refine AllReadyH.cons (o := { dst := none, op := Op.store 46 (Operand.tmp 28) (Operand.tmp 27), type := 0, pos := "law.go:26", after := #[{ on := 10, ground := Ground.data }, { on := 9, ground := Ground.data }, { on := 9, ground := Ground.chain }, { on := 0, ground := Ground.phase }, { on := 1, ground := Ground.phase }, { on := 2, ground := Ground.phase }, { on := 3, ground := Ground.phase }, { on := 4, ground := Ground.phase }, { on := 5, ground := Ground.phase }, { on := 6, ground := Ground.phase }, { on := 7, ground := Ground.phase }, { on := 8, ground := Ground.phase }, { on := 9, ground := Ground.phase }], guard := none }) rfl (fun K hK => ?_) ?_
              · skip
                have z3 := frozen_of_row V3 s3 2 _ 48 H3s.out
                have c3 := cell_of_row V3 s3 2 _ 48 _ H3s.out
                simp at c3
                go_simp
                refine hK.out _ _ ?_ (fun hHeld => ?_)
                · exact ⟨(World.cell?_of_block (G4.out.block s8 (by have := HL4.out; have := HSL.out; omega) (fun e => by rcases e with e | e; (have := HL4.out; omega); (have := HV.out _ e; have := HL4.out; omega)))).trans Z1.out, (World.cell?_of_block (G4.out.block b2 (by have := HL4.out; have := HSL.out; have := HBL.out; omega) (fun e => by rcases e with e | e; (have := HL4.out; have := HBL.out; omega); (have := HV.out _ e; have := HL4.out; have := HBL.out; omega)))).trans Z2.out, (World.cell?_of_block (G4.out.block b2 (by have := HL4.out; have := HSL.out; have := HBL.out; omega) (fun e => by rcases e with e | e; (have := HL4.out; have := HBL.out; omega); (have := HV.out _ e; have := HL4.out; have := HBL.out; omega)))).trans Z3.out⟩
                clear hK K
                try simp only [Act.put, List.setIfInBounds_toArray, List.set_cons_zero, List.set_cons_succ]
                refine wpAnyH_done (by kernel_rfl) ?_ _
                refine NoPanic.normal ?_
                have HT2 : Hid (TF w5 (V3.setCell ⟨s3, 2, none⟩ (.slice (some ⟨g3', 0, none⟩) (i + 1) c3')) s3 e g cg (.slice (some ⟨g3', 0, none⟩) (i + 1) c3') colA (gs.take (i + 1))) := Lib.hid (TF.push HQ.out HTI.out HT.out.be HSL.out HT.out.cr HT.out.col HX.out HV.out K0.out K01.out K12.out G3.out W3.out HG2.out O4.out S4.out G4.out)
                clear O4 S4 G4 N4 H3s AK z3 c3 hHeld HC3 G3 W3 K12 O2 C2 K2 K1 K01 HG2 K0
                go_wp2_with fail
                exact ⟨⟨i + 1, _, _, hlt, rfl, HT2⟩, by simp [intOf]; omega⟩
              exact AllReadyH.nil
            exact AllReadyH.nil
          exact AllReadyH.nil
        exact AllReadyH.nil
      refine AllReadyH.cons (o := { dst := some 25, op := Op.call { callee := Callee.value (Operand.func 22), args := #[Operand.tmp 24], argTypes := #[43] }, type := 79, pos := "law.go:26", after := #[{ on := 6, ground := Ground.data }], guard := none }) rfl (fun K hK => ?_) ?_
      · skip
        go_simp
        refine (Try.toGroup V0 q.r q.a q.n q.r q.lo q.hi (HGQ.out.below K0.out)).mono ?_
        rintro x V1 ⟨g2, c2, rfl, hg2, hb⟩
        have K01 := Lib.hid hb
        have K1 : Hid (Below W.heap.size W V1) := Lib.hid (K0.out.trans (hb.mono K0.out.size))
        have HG2 := Lib.hid hg2
        clear hb hg2
        refine hK.out _ _ ?_ (fun hHeld => ?_)
        · exact ⟨cellW Z1.out K1.out, cellW Z2.out K1.out, cellW Z3.out K1.out⟩
        clear hK K
        try simp only [Act.put, List.setIfInBounds_toArray, List.set_cons_zero, List.set_cons_succ]
        refine wpAnyH_ready (rs := [1, 8]) (by kernel_rfl) (by simp) ?_
        refine AllReadyH.cons (o := { dst := some 19, op := Op.load 46 (Operand.tmp 18), type := 46, pos := "law.go:26", after := #[{ on := 0, ground := Ground.data }], guard := none }) rfl (fun K hK => ?_) ?_
        · skip
          have p1 : V1.cell? ⟨s3, 2, none⟩ = some (.slice vA i vc) := cellW HCL.out K1.out
          go_simp
          clear p1
          refine hK.out _ _ ?_ (fun hHeld => ?_)
          · exact ⟨cellW Z1.out K1.out, cellW Z2.out K1.out, cellW Z3.out K1.out⟩
          clear hK K
          try simp only [Act.put, List.setIfInBounds_toArray, List.set_cons_zero, List.set_cons_succ]
          refine wpAnyH_ready (rs := [8]) (by kernel_rfl) (by simp) ?_
          refine AllReadyH.cons (o := { dst := some 26, op := Op.buildSlice 46 1 #[(0, Operand.tmp 25)], type := 46, pos := "law.go:26", after := #[{ on := 7, ground := Ground.data }], guard := none }) rfl (fun K hK => ?_) ?_
          · skip
            go_simp
            have K2 := Lib.hid (K1.out.trans (((Below.refl V1.heap.size V1).alloc (Nat.le_refl _) (.cells #[.int .i64 q.r, .slice (some ⟨g2, 0, none⟩) 1 c2] 79)).mono K1.out.size))
            have C2 := Lib.hid (Go.NR.at_alloc V1 #[.int .i64 q.r, .slice (some ⟨g2, 0, none⟩) 1 c2] 79)
            obtain ⟨gb, hgb⟩ : ∃ gb, V1.heap.size = gb := ⟨_, rfl⟩
            rw [hgb] at C2 ⊢
            obtain ⟨V2, hV2⟩ : ∃ V2, V1.alloc (.cells #[.int .i64 q.r, .slice (some ⟨g2, 0, none⟩) 1 c2] 79) = V2 := ⟨_, rfl⟩
            rw [hV2] at K2 C2 ⊢
            have O2 := Lib.hid (Go.NR.own_below OW.out K2.out)
            have K12 : Hid (Below V1.heap.size V1 V2) := Lib.hid (by rw [← hV2]; exact (Below.refl V1.heap.size V1).alloc (Nat.le_refl _) _)
            clear hgb hV2
            refine hK.out _ _ ?_ (fun hHeld => ?_)
            · exact ⟨cellW Z1.out K2.out, cellW Z2.out K2.out, cellW Z3.out K2.out⟩
            clear hK K
            try simp only [Act.put, List.setIfInBounds_toArray, List.set_cons_zero, List.set_cons_succ]
            refine wpAnyH_ready (rs := [9]) (by kernel_rfl) (by simp) ?_
            refine AllReadyH.cons (o := { dst := some 27, op := Op.call { callee := Callee.builtin Builtin.append, args := #[Operand.tmp 19, Operand.tmp 26], argTypes := #[46, 46] }, type := 46, pos := "law.go:26", after := #[{ on := 1, ground := Ground.data }, { on := 8, ground := Ground.data }, { on := 7, ground := Ground.chain }], guard := none }) rfl (fun K hK => ?_) ?_
            · skip
              refine Go.NR.oper_app Try.E46 (.tmp 19) (.tmp 26) rfl (s3 + 1) (.slice vA i vc) (i) (xs) rfl O2.out gb 1 1 ([.int .i64 q.r, .slice (some ⟨g2, 0, none⟩) 1 c2]) rfl rfl C2.out (one_p q.r g2 c2) (by omega) (by decide) (by have := K2.out.size; have := HBW.out; omega) ?_
              intro v3 V3 o3 g3 w3
              obtain ⟨g3', c3', rfl, hg3, hg3', hc3, hc3', _, _⟩ := Go.NR.own_at o3 (by omega)
              have HC3 := Lib.hid (And.intro hg3 (And.intro hc3 hc3'))
              have AK := Lib.hid (Go.NR.app_keep K2.out g3)
              obtain ⟨a1, a2, a3, a4⟩ := Go.NR.app_store (off := 2) K2.out OW.out o3 g3 w3 HS.out HNE.out
              have O4 := Lib.hid a1
              have S4 := Lib.hid a2
              have G4 := Lib.hid a3
              have N4 := Lib.hid a4
              have W3 := Lib.hid w3
              have G3 := Lib.hid g3
              have H3s := Lib.hid ((AK.out s3 (Go.NR.heap_lt HS.out) (fun e => HNE.out s3 e rfl)).trans HS.out)
              clear a1 a2 a3 a4 o3 g3 w3 hg3 hg3' hc3 hc3'
              refine hK.out _ _ ?_ (fun hHeld => ?_)
              · exact ⟨(World.cell?_of_block (AK.out s8 (by have := HL4.out; have := HSL.out; omega) (fun e => by have := HV.out _ e; have := HL4.out; omega))).trans Z1.out, (World.cell?_of_block (AK.out b2 (by have := HL4.out; have := HSL.out; have := HBL.out; omega) (fun e => by have := HV.out _ e; have := HL4.out; have := HBL.out; omega))).trans Z2.out, (World.cell?_of_block (AK.out b2 (by have := HL4.out; have := HSL.out; have := HBL.out; omega) (fun e => by have := HV.out _ e; have := HL4.out; have := HBL.out; omega))).trans Z3.out⟩
              clear hK K
              try simp only [Act.put, List.setIfInBounds_toArray, List.set_cons_zero, List.set_cons_succ]
              refine wpAnyH_take (i := 10) (oi := { dst := some 28, op := Op.fieldAddr 48 (Operand.tmp 3) 2, type := 0, pos := "law.go:26", after := #[{ on := 0, ground := Ground.phase }, { on := 1, ground := Ground.phase }, { on := 2, ground := Ground.phase }, { on := 3, ground := Ground.phase }, { on := 4, ground := Ground.phase }, { on := 5, ground := Ground.phase }, { on := 6, ground := Ground.phase }, { on := 7, ground := Ground.phase }, { on := 8, ground := Ground.phase }, { on := 9, ground := Ground.phase }], guard := none }) (v := ?_) rfl (by kernel_rfl) (by kernel_rfl) (by kernel_rfl) (fun _ _ _ h => h) (Or.inl ⟨by rfl, ?_⟩) (by assumption) ?_
              rotate_left
              · (intro w hSw; (try dsimp only at hSw); go_simp; try with_reducible rfl)
              try simp only [Act.put, List.setIfInBounds_toArray, List.set_cons_zero, List.set_cons_succ]
              refine wpAnyH_ready (rs := [11]) (by kernel_rfl) (by simp) ?_
              refine AllReadyH.cons (o := { dst := none, op := Op.store 46 (Operand.tmp 28) (Operand.tmp 27), type := 0, pos := "law.go:26", after := #[{ on := 10, ground := Ground.data }, { on := 9, ground := Ground.data }, { on := 9, ground := Ground.chain }, { on := 0, ground := Ground.phase }, { on := 1, ground := Ground.phase }, { on := 2, ground := Ground.phase }, { on := 3, ground := Ground.phase }, { on := 4, ground := Ground.phase }, { on := 5, ground := Ground.phase }, { on := 6, ground := Ground.phase }, { on := 7, ground := Ground.phase }, { on := 8, ground := Ground.phase }, { on := 9, ground := Ground.phase }], guard := none }) rfl (fun K hK => ?_) ?_
              · skip
                have z3 := frozen_of_row V3 s3 2 _ 48 H3s.out
                have c3 := cell_of_row V3 s3 2 _ 48 _ H3s.out
                simp at c3
                go_simp
                refine hK.out _ _ ?_ (fun hHeld => ?_)
                · exact ⟨(World.cell?_of_block (G4.out.block s8 (by have := HL4.out; have := HSL.out; omega) (fun e => by rcases e with e | e; (have := HL4.out; omega); (have := HV.out _ e; have := HL4.out; omega)))).trans Z1.out, (World.cell?_of_block (G4.out.block b2 (by have := HL4.out; have := HSL.out; have := HBL.out; omega) (fun e => by rcases e with e | e; (have := HL4.out; have := HBL.out; omega); (have := HV.out _ e; have := HL4.out; have := HBL.out; omega)))).trans Z2.out, (World.cell?_of_block (G4.out.block b2 (by have := HL4.out; have := HSL.out; have := HBL.out; omega) (fun e => by rcases e with e | e; (have := HL4.out; have := HBL.out; omega); (have := HV.out _ e; have := HL4.out; have := HBL.out; omega)))).trans Z3.out⟩
                clear hK K
                try simp only [Act.put, List.setIfInBounds_toArray, List.set_cons_zero, List.set_cons_succ]
                refine wpAnyH_done (by kernel_rfl) ?_ _
                refine NoPanic.normal ?_
                have HT2 : Hid (TF w5 (V3.setCell ⟨s3, 2, none⟩ (.slice (some ⟨g3', 0, none⟩) (i + 1) c3')) s3 e g cg (.slice (some ⟨g3', 0, none⟩) (i + 1) c3') colA (gs.take (i + 1))) := Lib.hid (TF.push HQ.out HTI.out HT.out.be HSL.out HT.out.cr HT.out.col HX.out HV.out K0.out K01.out K12.out G3.out W3.out HG2.out O4.out S4.out G4.out)
                clear O4 S4 G4 N4 H3s AK z3 c3 hHeld HC3 G3 W3 K12 O2 C2 K2 K1 K01 HG2 K0
                go_wp2_with fail
                exact ⟨⟨i + 1, _, _, hlt, rfl, HT2⟩, by simp [intOf]; omega⟩
              exact AllReadyH.nil
            exact AllReadyH.nil
          exact AllReadyH.nil
        refine AllReadyH.cons (o := { dst := some 26, op := Op.buildSlice 46 1 #[(0, Operand.tmp 25)], type := 46, pos := "law.go:26", after := #[{ on := 7, ground := Ground.data }], guard := none }) rfl (fun K hK => ?_) ?_
        · skip
          go_simp
          have K2 := Lib.hid (K1.out.trans (((Below.refl V1.heap.size V1).alloc (Nat.le_refl _) (.cells #[.int .i64 q.r, .slice (some ⟨g2, 0, none⟩) 1 c2] 79)).mono K1.out.size))
          have C2 := Lib.hid (Go.NR.at_alloc V1 #[.int .i64 q.r, .slice (some ⟨g2, 0, none⟩) 1 c2] 79)
          obtain ⟨gb, hgb⟩ : ∃ gb, V1.heap.size = gb := ⟨_, rfl⟩
          rw [hgb] at C2 ⊢
          obtain ⟨V2, hV2⟩ : ∃ V2, V1.alloc (.cells #[.int .i64 q.r, .slice (some ⟨g2, 0, none⟩) 1 c2] 79) = V2 := ⟨_, rfl⟩
          rw [hV2] at K2 C2 ⊢
          have O2 := Lib.hid (Go.NR.own_below OW.out K2.out)
          have K12 : Hid (Below V1.heap.size V1 V2) := Lib.hid (by rw [← hV2]; exact (Below.refl V1.heap.size V1).alloc (Nat.le_refl _) _)
          clear hgb hV2
          refine hK.out _ _ ?_ (fun hHeld => ?_)
          · exact ⟨cellW Z1.out K2.out, cellW Z2.out K2.out, cellW Z3.out K2.out⟩
          clear hK K
          try simp only [Act.put, List.setIfInBounds_toArray, List.set_cons_zero, List.set_cons_succ]
          refine wpAnyH_ready (rs := [1]) (by kernel_rfl) (by simp) ?_
          refine AllReadyH.cons (o := { dst := some 19, op := Op.load 46 (Operand.tmp 18), type := 46, pos := "law.go:26", after := #[{ on := 0, ground := Ground.data }], guard := none }) rfl (fun K hK => ?_) ?_
          · skip
            have p1 : V2.cell? ⟨s3, 2, none⟩ = some (.slice vA i vc) := cellW HCL.out K2.out
            go_simp
            clear p1
            refine hK.out _ _ ?_ (fun hHeld => ?_)
            · exact ⟨cellW Z1.out K2.out, cellW Z2.out K2.out, cellW Z3.out K2.out⟩
            clear hK K
            try simp only [Act.put, List.setIfInBounds_toArray, List.set_cons_zero, List.set_cons_succ]
            refine wpAnyH_ready (rs := [9]) (by kernel_rfl) (by simp) ?_
            refine AllReadyH.cons (o := { dst := some 27, op := Op.call { callee := Callee.builtin Builtin.append, args := #[Operand.tmp 19, Operand.tmp 26], argTypes := #[46, 46] }, type := 46, pos := "law.go:26", after := #[{ on := 1, ground := Ground.data }, { on := 8, ground := Ground.data }, { on := 7, ground := Ground.chain }], guard := none }) rfl (fun K hK => ?_) ?_
            · skip
              refine Go.NR.oper_app Try.E46 (.tmp 19) (.tmp 26) rfl (s3 + 1) (.slice vA i vc) (i) (xs) rfl O2.out gb 1 1 ([.int .i64 q.r, .slice (some ⟨g2, 0, none⟩) 1 c2]) rfl rfl C2.out (one_p q.r g2 c2) (by omega) (by decide) (by have := K2.out.size; have := HBW.out; omega) ?_
              intro v3 V3 o3 g3 w3
              obtain ⟨g3', c3', rfl, hg3, hg3', hc3, hc3', _, _⟩ := Go.NR.own_at o3 (by omega)
              have HC3 := Lib.hid (And.intro hg3 (And.intro hc3 hc3'))
              have AK := Lib.hid (Go.NR.app_keep K2.out g3)
              obtain ⟨a1, a2, a3, a4⟩ := Go.NR.app_store (off := 2) K2.out OW.out o3 g3 w3 HS.out HNE.out
              have O4 := Lib.hid a1
              have S4 := Lib.hid a2
              have G4 := Lib.hid a3
              have N4 := Lib.hid a4
              have W3 := Lib.hid w3
              have G3 := Lib.hid g3
              have H3s := Lib.hid ((AK.out s3 (Go.NR.heap_lt HS.out) (fun e => HNE.out s3 e rfl)).trans HS.out)
              clear a1 a2 a3 a4 o3 g3 w3 hg3 hg3' hc3 hc3'
              refine hK.out _ _ ?_ (fun hHeld => ?_)
              · exact ⟨(World.cell?_of_block (AK.out s8 (by have := HL4.out; have := HSL.out; omega) (fun e => by have := HV.out _ e; have := HL4.out; omega))).trans Z1.out, (World.cell?_of_block (AK.out b2 (by have := HL4.out; have := HSL.out; have := HBL.out; omega) (fun e => by have := HV.out _ e; have := HL4.out; have := HBL.out; omega))).trans Z2.out, (World.cell?_of_block (AK.out b2 (by have := HL4.out; have := HSL.out; have := HBL.out; omega) (fun e => by have := HV.out _ e; have := HL4.out; have := HBL.out; omega))).trans Z3.out⟩
              clear hK K
              try simp only [Act.put, List.setIfInBounds_toArray, List.set_cons_zero, List.set_cons_succ]
              refine wpAnyH_take (i := 10) (oi := { dst := some 28, op := Op.fieldAddr 48 (Operand.tmp 3) 2, type := 0, pos := "law.go:26", after := #[{ on := 0, ground := Ground.phase }, { on := 1, ground := Ground.phase }, { on := 2, ground := Ground.phase }, { on := 3, ground := Ground.phase }, { on := 4, ground := Ground.phase }, { on := 5, ground := Ground.phase }, { on := 6, ground := Ground.phase }, { on := 7, ground := Ground.phase }, { on := 8, ground := Ground.phase }, { on := 9, ground := Ground.phase }], guard := none }) (v := ?_) rfl (by kernel_rfl) (by kernel_rfl) (by kernel_rfl) (fun _ _ _ h => h) (Or.inl ⟨by rfl, ?_⟩) (by assumption) ?_
              rotate_left
              · (intro w hSw; (try dsimp only at hSw); go_simp; try with_reducible rfl)
              try simp only [Act.put, List.setIfInBounds_toArray, List.set_cons_zero, List.set_cons_succ]
              refine wpAnyH_ready (rs := [11]) (by kernel_rfl) (by simp) ?_
              refine AllReadyH.cons (o := { dst := none, op := Op.store 46 (Operand.tmp 28) (Operand.tmp 27), type := 0, pos := "law.go:26", after := #[{ on := 10, ground := Ground.data }, { on := 9, ground := Ground.data }, { on := 9, ground := Ground.chain }, { on := 0, ground := Ground.phase }, { on := 1, ground := Ground.phase }, { on := 2, ground := Ground.phase }, { on := 3, ground := Ground.phase }, { on := 4, ground := Ground.phase }, { on := 5, ground := Ground.phase }, { on := 6, ground := Ground.phase }, { on := 7, ground := Ground.phase }, { on := 8, ground := Ground.phase }, { on := 9, ground := Ground.phase }], guard := none }) rfl (fun K hK => ?_) ?_
              · skip
                have z3 := frozen_of_row V3 s3 2 _ 48 H3s.out
                have c3 := cell_of_row V3 s3 2 _ 48 _ H3s.out
                simp at c3
                go_simp
                refine hK.out _ _ ?_ (fun hHeld => ?_)
                · exact ⟨(World.cell?_of_block (G4.out.block s8 (by have := HL4.out; have := HSL.out; omega) (fun e => by rcases e with e | e; (have := HL4.out; omega); (have := HV.out _ e; have := HL4.out; omega)))).trans Z1.out, (World.cell?_of_block (G4.out.block b2 (by have := HL4.out; have := HSL.out; have := HBL.out; omega) (fun e => by rcases e with e | e; (have := HL4.out; have := HBL.out; omega); (have := HV.out _ e; have := HL4.out; have := HBL.out; omega)))).trans Z2.out, (World.cell?_of_block (G4.out.block b2 (by have := HL4.out; have := HSL.out; have := HBL.out; omega) (fun e => by rcases e with e | e; (have := HL4.out; have := HBL.out; omega); (have := HV.out _ e; have := HL4.out; have := HBL.out; omega)))).trans Z3.out⟩
                clear hK K
                try simp only [Act.put, List.setIfInBounds_toArray, List.set_cons_zero, List.set_cons_succ]
                refine wpAnyH_done (by kernel_rfl) ?_ _
                refine NoPanic.normal ?_
                have HT2 : Hid (TF w5 (V3.setCell ⟨s3, 2, none⟩ (.slice (some ⟨g3', 0, none⟩) (i + 1) c3')) s3 e g cg (.slice (some ⟨g3', 0, none⟩) (i + 1) c3') colA (gs.take (i + 1))) := Lib.hid (TF.push HQ.out HTI.out HT.out.be HSL.out HT.out.cr HT.out.col HX.out HV.out K0.out K01.out K12.out G3.out W3.out HG2.out O4.out S4.out G4.out)
                clear O4 S4 G4 N4 H3s AK z3 c3 hHeld HC3 G3 W3 K12 O2 C2 K2 K1 K01 HG2 K0
                go_wp2_with fail
                exact ⟨⟨i + 1, _, _, hlt, rfl, HT2⟩, by simp [intOf]; omega⟩
              exact AllReadyH.nil
            exact AllReadyH.nil
          exact AllReadyH.nil
        exact AllReadyH.nil
      exact AllReadyH.nil
    · obtain rfl : i = n := by omega
      have d1 : decide ((i : Int) < (i : Int)) = false := by simp
      have d1' : decide (i < i) = false := by simp
      have hT := HT.out
      have R0 := cell_of_row W s3 0 _ 48 _ hT.h3
      have R1 := cell_of_row W s3 1 _ 48 _ hT.h3
      have R2 := cell_of_row W s3 2 _ 48 _ hT.h3
      simp at R0 R1 R2
      have H9W := Lib.hid ((hT.be.block s9 (by have := HL4.out; omega)).trans K9.out)
      clear hT
      go_wp2_with (refine wpList_store_at W rfl 48 (.tmp 2) (.tmp 29) rfl s9 48 0 #[.int .u64 e, .slice (some ⟨g, 0, none⟩) 1 cg, .slice vA i vc] #[.int .u64 0, .slice none 0 0, .slice none 0 0] #[.int .u64 e, .slice (some ⟨g, 0, none⟩) 1 cg, .slice vA i vc] rfl rfl H9W.out (show 0 + 3 ≤ 3 by omega) rfl size48 (oneFG e (some ⟨g, 0, none⟩) 1 cg vA i vc) ?_)
      refine bodyPost_ret (results_cell1 rfl _ _ s9 48 _ _ rfl (setRow_heap' _ s9 _ _ 48 H9W.out) size48 st48) rfl ?_
      have hT := HT.out
      rw [List.take_of_length_le (by rw [HLN.out]; exact Nat.le_refl _)] at hT
      obtain ⟨A', c', eA, hgr⟩ := hT.own.gr
      rw [HLN.out] at eA hgr
      cases eA
      have hss : s9 < s3 := by have := HL4.out; omega
      have hcol : g ≠ s9 := HGN9.out
      refine ⟨g, cg, vA, vc, rfl, hT.cr.eq (Go.NR.setRow_else _ s9 _ g hcol), (hgr.set (s := s9) (by omega) (fun b' e' => by have := (hT.own.lt b' (by rw [e']; rfl)).1; omega)).mono (by have := HL4.out; omega), Below.setRow (HB5.out.trans (hT.be.mono (by have := HL4.out; omega))) HO.out.2.1 _⟩
end Go.Proofs.Ytfblhcphbcghpaa
end

section
namespace Go.Proofs.Ytfblhcphbcghpaa
open Go.RowKit
set_option maxRecDepth 100000
def vN (n : Int) : Value := .agg #[.int .i64 1, .int .i64 n, .string ⟨#[]⟩, .complex .f64 0 0]
theorem storeC (w : World) (a : Addr) (m : Mode) : (store a (.complex .f64 0 0) m).run Try.prog w = stored Try.prog w a (.complex .f64 0 0) m := run_store Try.prog w a _ m rfl
theorem Try.nan (n : Int) (w : World) : Calls Try.prog 113 #[.int .i64 n] w fun e w' => e = .returned (.bool false) ∧ w = w' := by
  go_enter Try.func113, Try.ntmps113
  go_wp2
  go_ret
  exact ⟨rfl, rfl⟩
def sgn (a b : Int) : Int := if a < b then -1 else if b < a then 1 else 0
theorem Try.cmp (a b : Int) (w : World) : Calls Try.prog 106 #[.int .i64 a, .int .i64 b] w fun e w' => e = .returned (.int .i64 (sgn a b)) ∧ w = w' := by
  have e1 : a < b → sgn a b = -1 := fun h => by unfold sgn; rw [if_pos h]
  have e2 : b < a → sgn a b = 1 := fun h => by unfold sgn; rw [if_neg (by omega), if_pos h]
  have e3 : ¬ a < b → ¬ b < a → sgn a b = 0 := fun h h' => by unfold sgn; rw [if_neg h, if_neg h']
  have E1 := Lib.hid e1
  have E2 := Lib.hid e2
  have E3 := Lib.hid e3
  clear e1 e2 e3
  by_cases h1 : a < b
  · have d1 : decide (a < b) = true := by simpa using h1
    rw [E1.out h1]
    clear h1
    go_enter Try.func106, Try.ntmps106
    go_wp2_with (go_at_call 113; refine (Try.nan _ _).mono ?_; rintro e w' ⟨rfl, rfl⟩)
    go_ret
    exact ⟨rfl, rfl⟩
  · have d1 : decide (a < b) = false := by simpa using h1
    by_cases h2 : b < a
    · have d2 : decide (b < a) = true := by simpa using h2
      rw [E2.out h2]
      clear h1 h2
      go_enter Try.func106, Try.ntmps106
      go_wp2_with (go_at_call 113; refine (Try.nan _ _).mono ?_; rintro e w' ⟨rfl, rfl⟩)
      go_ret
      exact ⟨rfl, rfl⟩
    · have d2 : decide (b < a) = false := by simpa using h2
      rw [E3.out h1 h2]
      clear h1 h2
      go_enter Try.func106, Try.ntmps106
      go_wp2_with (go_at_call 113; refine (Try.nan _ _).mono ?_; rintro e w' ⟨rfl, rfl⟩)
      go_ret
      exact ⟨rfl, rfl⟩
theorem Try.compare (a b : Int) (w : World) : Calls Try.prog 99 #[vN a, vN b] w fun e w' => e = .returned (.int .i64 (sgn a b)) ∧ Below w.heap.size w w' := by
  unfold vN
  go_enter Try.func99, Try.ntmps99
  go_wp2
  refine wp_scope_fwd 1 ?_
  go_wp2_with fail
  go_step3
  refine ⟨_, rfl, ?_⟩
  go_wp2_with (go_at_call 106; refine (Try.cmp _ _ _).mono ?_; rintro e w' ⟨rfl, rfl⟩)
  refine (Fwd.other (by intro l; simp)).2 ?_
  go_ret
  refine ⟨rfl, ?_⟩
  exact ((Below.refl _ w).alloc (Nat.le_refl _) _).alloc (by simp) _
theorem Try.held123 : Try.prog.stoodInHeld 123 = false := by kernel_rfl
theorem Try.guard123 : Try.prog.eqGuardType Try.prog.depth 123 = false := by kernel_rfl
theorem fields123 : ∃ f1 f2 f3 f4 : Field, (Try.prog.fieldsOf 123).toList = [f1, f2, f3, f4] ∧ (f1.name ≠ "_" ∧ f1.type = 3 ∧ f1.offset = 0) ∧ (f2.name ≠ "_" ∧ f2.type = 2 ∧ f2.offset = 1) ∧ (f3.name ≠ "_" ∧ f3.type = 9 ∧ f3.offset = 2) ∧ (f4.name ≠ "_" ∧ f4.type = 30 ∧ f4.offset = 3) :=
  by
  have h : (Try.prog.fieldsOf 123).toList.map (fun f => (f.name == "_", f.type, f.offset)) = [(false, 3, 0), (false, 2, 1), (false, 9, 2), (false, 30, 3)] := by kernel_rfl
  generalize (Try.prog.fieldsOf 123).toList = L at h
  rcases L with _ | ⟨f1, _ | ⟨f2, _ | ⟨f3, _ | ⟨f4, _ | ⟨f5, L⟩⟩⟩⟩⟩ <;> simp at h
  exact ⟨f1, f2, f3, f4, rfl, h.1, h.2.1, h.2.2.1, h.2.2.2⟩
theorem eqC (w : World) (d : Nat) : (Op.equalIn (d + 1) 30 (.complex .f64 0 0) (.complex .f64 0 0)).run Try.prog w = .ok true w := by
  simp [Op.equalIn, run_underlying Try.underlying30]
  kernel_rfl
theorem eqA (w : World) (k a k' b : Int) : (Op.equalIn 10000 123 (.agg #[.int .i64 k, .int .i64 a, .string ⟨#[]⟩, .complex .f64 0 0]) (.agg #[.int .i64 k', .int .i64 b, .string ⟨#[]⟩, .complex .f64 0 0])).run Try.prog w = .ok ((k == k') && (a == b)) w := by
  rw [run_equalIn_agg w 9999 123 _ _ st123 Try.held123]
  obtain ⟨f1, f2, f3, f4, h, ⟨a1, a2, a3⟩, ⟨b1, b2, b3⟩, ⟨c1, c2, c3⟩, d1, d2, d3⟩ := fields123
  rw [h]
  have q3 : (Op.equalIn 9999 3 (.int .i64 k) (.int .i64 k')).run Try.prog w = .ok (k == k') w := run_equalIn_int w 9998 3 .i64 .i64 k k' Try.underlying3
  have q2 : (Op.equalIn 9999 2 (.int .i64 a) (.int .i64 b)).run Try.prog w = .ok (a == b) w := run_equalIn_int w 9998 2 .i64 .i64 a b Try.underlying2
  have q9 : (Op.equalIn 9999 9 (.string ⟨#[]⟩) (.string ⟨#[]⟩)).run Try.prog w = .ok true w := by rw [run_equalIn_string w 9998 9 _ _ Try.underlying9, beq_self_eq_true]
  have q26 : (Op.equalIn 9999 30 (.complex .f64 0 0) (.complex .f64 0 0)).run Try.prog w = .ok true w := eqC w 9998
  simp only [Op.eqFields, a1, a2, a3, b1, b2, b3, c1, c2, c3, d1, d2, d3, if_true, ne_eq, not_false_eq_true]
  simp [part, go_sem, q26]
  by_cases hk : k = k' <;> by_cases ha : a = b <;> simp [hk, ha]
theorem eqG (op : BinOp) (x y : Operand) (xs ys : Array Value) (w : World) : (eqGuard op 123 x y (.agg xs) (.agg ys)).run Try.prog w = .ok () w := run_eqGuard_agg w op 123 x y xs ys Try.guard123
theorem eqlV (w : World) (k a k' b : Int) : (binOp .eql 123 (.agg #[.int .i64 k, .int .i64 a, .string ⟨#[]⟩, .complex .f64 0 0]) (.agg #[.int .i64 k', .int .i64 b, .string ⟨#[]⟩, .complex .f64 0 0])).run Try.prog w = .ok (.bool ((k == k') && (a == b))) w := by
  rw [run_eql_struct, eqA, Result.andThen_ok]
theorem neqV (w : World) (k a k' b : Int) : (binOp .neq 123 (.agg #[.int .i64 k, .int .i64 a, .string ⟨#[]⟩, .complex .f64 0 0]) (.agg #[.int .i64 k', .int .i64 b, .string ⟨#[]⟩, .complex .f64 0 0])).run Try.prog w = .ok (.bool (!((k == k') && (a == b)))) w := by
  rw [run_neq_struct, eqA, Result.andThen_ok]
theorem Try.vcheckN (n : Int) (w : World) : Calls Try.prog 95 #[vN n] w fun e w' => e = .returned (.int .i64 0) ∧ Below w.heap.size w w' := by
  unfold vN
  have hsc := storeC
  have heq := eqlV
  have hne := neqV
  have hgd := eqG
  go_enter Try.func95, Try.ntmps95
  go_wp2
  refine wp_scope_fwd 2 ?_
  go_wp2_with fail
  go_step3
  refine ⟨_, rfl, ?_⟩
  go_wp2_with fail
  go_step3
  refine ⟨_, rfl, ?_⟩
  go_wp2_with fail
  refine (Fwd.other (by intro l; simp)).2 ?_
  go_ret
  refine ⟨rfl, ?_⟩
  exact ((Below.refl _ w).alloc (Nat.le_refl _) _).alloc (by simp) _
theorem Try.isKind (w : World) : Calls Try.prog 94 #[.int .i64 1] w fun e w' => e = .returned (.bool true) ∧ w = w' := by
  go_enter Try.func94, Try.ntmps94
  go_wp2_with fail
  go_ret
  exact ⟨rfl, rfl⟩
theorem Try.colcheck_nil (w : World) : Calls Try.prog 90 #[.slice none 0 0, .int .i64 1] w fun e w' => e = .returned (.int .i64 0) ∧ w = w' := by
  go_enter Try.func90, Try.ntmps90
  go_wp2_with (go_at_call 94; refine (Try.isKind _).mono ?_; rintro e w' ⟨rfl, rfl⟩)
  go_loopw [16] (fun t wr => t = .int .i64 0 ∧ w = wr) (fun t _ => 0)
  case atStart => exact ⟨rfl, rfl⟩
  case round =>
    obtain ⟨rfl, rfl⟩ := hrel
    go_wp2_with fail
    go_ret
    exact ⟨rfl, rfl⟩
end Go.Proofs.Ytfblhcphbcghpaa
end

section
namespace Go.Proofs.Ytfblhcphbcghpaa
open Go.RowKit
set_option maxRecDepth 100000
theorem Try.held124 : Try.prog.stoodInHeld 124 = false := by kernel_rfl
theorem Try.guard124 : Try.prog.eqGuardType Try.prog.depth 124 = false := by kernel_rfl
theorem fields124 : ∃ f1 f2 : Field, (Try.prog.fieldsOf 124).toList = [f1, f2] ∧ (f1.name ≠ "_" ∧ f1.type = 30 ∧ f1.offset = 0) ∧ (f2.name ≠ "_" ∧ f2.type = 30 ∧ f2.offset = 1) := by
  have h : (Try.prog.fieldsOf 124).toList.map (fun f => (f.name == "_", f.type, f.offset)) = [(false, 30, 0), (false, 30, 1)] := by kernel_rfl
  generalize (Try.prog.fieldsOf 124).toList = L at h
  rcases L with _ | ⟨f1, _ | ⟨f2, _ | ⟨f3, L⟩⟩⟩ <;> simp at h
  exact ⟨f1, f2, rfl, h.1, h.2⟩
theorem eqAB (w : World) : (Op.equalIn 10000 124 (.agg #[.complex .f64 0 0, .complex .f64 0 0]) (.agg #[.complex .f64 0 0, .complex .f64 0 0])).run Try.prog w = .ok true w := by
  rw [run_equalIn_agg w 9999 124 _ _ st124 Try.held124]
  obtain ⟨f1, f2, h, ⟨a1, a2, a3⟩, b1, b2, b3⟩ := fields124
  rw [h]
  have q30 : (Op.equalIn 9999 30 (.complex .f64 0 0) (.complex .f64 0 0)).run Try.prog w = .ok true w := eqC w 9998
  simp only [Op.eqFields, a1, a2, a3, b1, b2, b3, if_true, ne_eq, not_false_eq_true]
  simp [part, go_sem, q30]
theorem eqGB (op : BinOp) (x y : Operand) (xs ys : Array Value) (w : World) : (eqGuard op 124 x y (.agg xs) (.agg ys)).run Try.prog w = .ok () w := run_eqGuard_agg w op 124 x y xs ys Try.guard124
theorem eqlB (w : World) : (binOp .eql 124 (.agg #[.complex .f64 0 0, .complex .f64 0 0]) (.agg #[.complex .f64 0 0, .complex .f64 0 0])).run Try.prog w = .ok (.bool true) w := by
  rw [run_eql_struct, eqAB, Result.andThen_ok]
theorem Try.isEnd (n : Int) (w : World) : Calls Try.prog 98 #[vN n, .int .i64 1] w fun e w' => e = .returned (.bool true) ∧ Below w.heap.size w w' := by
  unfold vN
  have hsc := storeC
  go_enter Try.func98, Try.ntmps98
  go_wp2_with fail
  refine (Try.vcheckN n _).mono ?_
  rintro x w1 ⟨rfl, hb⟩
  have hb1 := (((Below.refl _ w).alloc (Nat.le_refl _) (.cells #[.int .i64 1, .int .i64 n, .string ⟨#[]⟩, .complex .f64 0 0] 123))).trans (hb.mono (by simp))
  clear hb
  go_wp2_with fail
  go_ret
  exact ⟨rfl, hb1⟩
set_option maxHeartbeats 4000000 in
theorem Try.ends (w : World) (r lo hi : Nat) (hr : 1 ≤ r) (hlh : lo ≤ hi) : Calls Try.prog 91 #[.agg (scl r lo hi)] w fun e w' => e = .returned (.bool true) ∧ Below w.heap.size w w' := by
  unfold scl
  have hsc := storeC
  have heq := eqlV
  have hgd := eqG
  have heb := eqlB
  have hgb := eqGB
  have d0 : ((r : Int) == 0) = false := by simp; omega
  have d0' : decide (r = 0) = false := decide_eq_false (by omega)
  have hb1 := ((Below.refl _ w).alloc (Nat.le_refl _) (.cells #[.int .i64 1, .int .i64 r, .int .i64 0, .int .i64 1, .int .i64 lo, .string ⟨#[]⟩, .complex .f64 0 0, .int .i64 1, .int .i64 hi, .string ⟨#[]⟩, .complex .f64 0 0, .complex .f64 0 0, .complex .f64 0 0] 126))
  have hn1 := heap_alloc_new w (.cells #[.int .i64 1, .int .i64 r, .int .i64 0, .int .i64 1, .int .i64 lo, .string ⟨#[]⟩, .complex .f64 0 0, .int .i64 1, .int .i64 hi, .string ⟨#[]⟩, .complex .f64 0 0, .complex .f64 0 0, .complex .f64 0 0] 126)
  have HB1 := Lib.hid hb1
  have HN1 := Lib.hid hn1
  clear hb1 hn1 hr
  go_enter Try.func91, Try.ntmps91
  go_wp2_with fail
  obtain ⟨w1, hw1⟩ : ∃ w1, w.alloc (.cells #[.int .i64 1, .int .i64 r, .int .i64 0, .int .i64 1, .int .i64 lo, .string ⟨#[]⟩, .complex .f64 0 0, .int .i64 1, .int .i64 hi, .string ⟨#[]⟩, .complex .f64 0 0, .complex .f64 0 0, .complex .f64 0 0] 126) = w1 := ⟨_, rfl⟩
  obtain ⟨sx, hsx⟩ : ∃ sx, w.heap.size = sx := ⟨_, rfl⟩
  have hb1 := HB1.out
  have hn1 := HN1.out
  rw [hw1] at hb1 hn1
  rw [hsx] at hn1
  rw [hw1]
  (try rw [hsx])
  have WB := Lib.hid hb1
  have HX := Lib.hid hn1
  clear HB1 HN1 hb1 hn1 hw1 hsx
  refine (Try.isEnd lo w1).mono ?_
  rintro x w2 ⟨rfl, hb⟩
  have WB2 := Lib.hid (WB.out.trans (hb.mono WB.out.size))
  have HX2 := Lib.hid ((hb.block sx (Go.NR.heap_lt HX.out)).trans HX.out)
  clear hb WB HX
  have V0 := cell_of_row w2 sx 0 _ 126 _ HX2.out
  have V1 := cell_of_row w2 sx 1 _ 126 _ HX2.out
  have V2 := cell_of_row w2 sx 2 _ 126 _ HX2.out
  have V3 := cell_of_row w2 sx 3 _ 126 _ HX2.out
  have V4 := cell_of_row w2 sx 4 _ 126 _ HX2.out
  have V5 := cell_of_row w2 sx 5 _ 126 _ HX2.out
  have V6 := cell_of_row w2 sx 6 _ 126 _ HX2.out
  have V7 := cell_of_row w2 sx 7 _ 126 _ HX2.out
  have V8 := cell_of_row w2 sx 8 _ 126 _ HX2.out
  have V9 := cell_of_row w2 sx 9 _ 126 _ HX2.out
  have V10 := cell_of_row w2 sx 10 _ 126 _ HX2.out
  have V11 := cell_of_row w2 sx 11 _ 126 _ HX2.out
  have V12 := cell_of_row w2 sx 12 _ 126 _ HX2.out
  simp at V0 V1 V2 V3 V4 V5 V6 V7 V8 V9 V10 V11 V12
  go_wp2_with fail
  clear V0 V1 V2 V3 V4 V5 V6 V7 V8 V9 V10 V11 V12
  refine (Try.isEnd hi w2).mono ?_
  rintro x w3 ⟨rfl, hb⟩
  have WB3 := Lib.hid (WB2.out.trans (hb.mono WB2.out.size))
  have HX3 := Lib.hid ((hb.block sx (Go.NR.heap_lt HX2.out)).trans HX2.out)
  clear hb WB2 HX2
  have V0 := cell_of_row w3 sx 0 _ 126 _ HX3.out
  have V1 := cell_of_row w3 sx 1 _ 126 _ HX3.out
  have V2 := cell_of_row w3 sx 2 _ 126 _ HX3.out
  have V3 := cell_of_row w3 sx 3 _ 126 _ HX3.out
  have V4 := cell_of_row w3 sx 4 _ 126 _ HX3.out
  have V5 := cell_of_row w3 sx 5 _ 126 _ HX3.out
  have V6 := cell_of_row w3 sx 6 _ 126 _ HX3.out
  have V7 := cell_of_row w3 sx 7 _ 126 _ HX3.out
  have V8 := cell_of_row w3 sx 8 _ 126 _ HX3.out
  have V9 := cell_of_row w3 sx 9 _ 126 _ HX3.out
  have V10 := cell_of_row w3 sx 10 _ 126 _ HX3.out
  have V11 := cell_of_row w3 sx 11 _ 126 _ HX3.out
  have V12 := cell_of_row w3 sx 12 _ 126 _ HX3.out
  simp at V0 V1 V2 V3 V4 V5 V6 V7 V8 V9 V10 V11 V12
  go_wp2_with fail
  clear V0 V1 V2 V3 V4 V5 V6 V7 V8 V9 V10 V11 V12
  refine (Try.compare lo hi w3).mono ?_
  rintro x w4 ⟨rfl, hb⟩
  have WB4 := Lib.hid (WB3.out.trans (hb.mono WB3.out.size))
  have hsg : sgn (lo : Int) (hi : Int) ≤ 0 := by unfold sgn; split; omega; rw [if_neg (by omega)]; omega
  obtain ⟨z, hz⟩ : ∃ z, sgn (lo : Int) (hi : Int) = z := ⟨_, rfl⟩
  rw [hz] at hsg
  rw [hz]
  have dz : decide (z ≤ 0) = true := decide_eq_true hsg
  clear hb WB3 HX3 hz
  go_wp2_with fail
  go_ret
  exact ⟨rfl, WB4.out⟩
set_option maxHeartbeats 4000000 in
theorem Try.statCheck (w : World) (r lo hi : Nat) (hr : 1 ≤ r) (hr2 : r ≤ 64) (hlh : lo ≤ hi) : Calls Try.prog 82 #[.agg (scl r lo hi)] w fun e w' => e = .returned (.int .i64 0) ∧ Below w.heap.size w w' := by
  have HE := Lib.hid (fun W => Try.ends W r lo hi hr hlh)
  unfold scl at *
  have d1 : decide ((r : Int) < 0) = false := decide_eq_false (by omega)
  have d2 : decide (64 < (r : Int)) = false := decide_eq_false (by omega)
  have d2' : decide (64 < r) = false := decide_eq_false (by omega)
  have hb1 := ((Below.refl _ w).alloc (Nat.le_refl _) (.cells #[.int .i64 1, .int .i64 r, .int .i64 0, .int .i64 1, .int .i64 lo, .string ⟨#[]⟩, .complex .f64 0 0, .int .i64 1, .int .i64 hi, .string ⟨#[]⟩, .complex .f64 0 0, .complex .f64 0 0, .complex .f64 0 0] 126))
  have hn1 := heap_alloc_new w (.cells #[.int .i64 1, .int .i64 r, .int .i64 0, .int .i64 1, .int .i64 lo, .string ⟨#[]⟩, .complex .f64 0 0, .int .i64 1, .int .i64 hi, .string ⟨#[]⟩, .complex .f64 0 0, .complex .f64 0 0, .complex .f64 0 0] 126)
  obtain ⟨w1, hw1⟩ : ∃ w1, w.alloc (.cells #[.int .i64 1, .int .i64 r, .int .i64 0, .int .i64 1, .int .i64 lo, .string ⟨#[]⟩, .complex .f64 0 0, .int .i64 1, .int .i64 hi, .string ⟨#[]⟩, .complex .f64 0 0, .complex .f64 0 0, .complex .f64 0 0] 126) = w1 := ⟨_, rfl⟩
  obtain ⟨sx, hsx⟩ : ∃ sx, w.heap.size = sx := ⟨_, rfl⟩
  rw [hw1] at hb1 hn1
  rw [hsx] at hn1
  have WB := Lib.hid hb1
  have HX := Lib.hid hn1
  clear hb1 hn1
  go_enter Try.func82, Try.ntmps82
  go_upto_region 1 with fail
  (try rw [hw1])
  (try rw [hsx])
  clear hw1 hsx
  have V0 := cell_of_row w1 sx 0 _ 126 _ HX.out
  have V1 := cell_of_row w1 sx 1 _ 126 _ HX.out
  have V2 := cell_of_row w1 sx 2 _ 126 _ HX.out
  have V3 := cell_of_row w1 sx 3 _ 126 _ HX.out
  have V4 := cell_of_row w1 sx 4 _ 126 _ HX.out
  have V5 := cell_of_row w1 sx 5 _ 126 _ HX.out
  have V6 := cell_of_row w1 sx 6 _ 126 _ HX.out
  have V7 := cell_of_row w1 sx 7 _ 126 _ HX.out
  have V8 := cell_of_row w1 sx 8 _ 126 _ HX.out
  have V9 := cell_of_row w1 sx 9 _ 126 _ HX.out
  have V10 := cell_of_row w1 sx 10 _ 126 _ HX.out
  have V11 := cell_of_row w1 sx 11 _ 126 _ HX.out
  have V12 := cell_of_row w1 sx 12 _ 126 _ HX.out
  simp at V0 V1 V2 V3 V4 V5 V6 V7 V8 V9 V10 V11 V12
  go_wp2_with fail
  refine (Try.colcheck_nil w1).mono ?_
  rintro x w2 ⟨rfl, hw2⟩
  subst hw2
  go_wp2_with fail
  clear V0 V1 V2 V3 V4 V5 V6 V7 V8 V9 V10 V11 V12
  refine (HE.out w1).mono ?_
  rintro x w3 ⟨rfl, hb⟩
  have WB4 := Lib.hid (WB.out.trans (hb.mono WB.out.size))
  clear hb
  go_wp2_with fail
  go_ret
  exact ⟨rfl, WB4.out⟩
theorem Try.rowsMay (r : Nat) (hr : 1 ≤ r) (hr2 : r ≤ 64) (w : World) : Calls Try.prog 55 #[.int .i64 r] w fun e w' => e = .returned (.bool true) ∧ w' = w := by
  have d1 : decide (1 ≤ (r : Int)) = true := decide_eq_true (by omega)
  have d1' : decide (1 ≤ r) = true := decide_eq_true hr
  have d2 : decide ((r : Int) ≤ 64) = true := decide_eq_true (by omega)
  have d2' : decide (r ≤ 64) = true := decide_eq_true (by omega)
  go_enter Try.func55, Try.ntmps55
  go_wp2
  go_ret
  exact ⟨rfl, rfl⟩
theorem bits_xor0 (k : IntKind) (j : Nat) (hj : j ≤ k.bits) (hk : ∀ n : Int, 0 ≤ n → n < 2 ^ j → k.wrap n = n) (a : Nat) (ha : a < 2 ^ j) : bits .xor k (a : Int) 0 = (a : Int) := by
  have hp : 2 ^ j ≤ 2 ^ k.bits := Nat.pow_le_pow_right (by decide) hj
  have ha' : a % 2 ^ k.bits = a := Nat.mod_eq_of_lt (Nat.lt_of_lt_of_le ha hp)
  have h0 : (0 : Int) = ((0 : Nat) : Int) := rfl
  have cast : ((a : Nat) : Int) < 2 ^ j := by exact_mod_cast ha
  rw [h0]
  simp only [bits, BitVec.ofInt_natCast, BitVec.toNat_xor, BitVec.toNat_ofNat, ha', Nat.zero_mod, Nat.xor_zero]
  exact hk _ (Int.natCast_nonneg _) cast
theorem xor0_u64 (a : Nat) (ha : a < 2 ^ 62) : bits .xor .u64 (a : Int) 0 = (a : Int) := bits_xor0 .u64 62 (by decide) (fun n h1 h2 => by rw [IntKind.wrap_u64]; omega) a ha
theorem xor0_i64 (a : Nat) (ha : a < 2 ^ 62) : bits .xor .i64 (a : Int) 0 = (a : Int) := bits_xor0 .i64 62 (by decide) (fun n h1 h2 => by rw [IntKind.wrap_i64]; omega) a ha
theorem and1_u64 (a : Nat) (ha : a < 2 ^ 62) : bits .and .u64 (a : Int) 1 = (a : Int) % 2 := bits_mask .u64 62 (by decide) (fun n h1 h2 => by rw [IntKind.wrap_u64]; omega) 1 (by decide) (a : Int) (Int.natCast_nonneg _) (by exact_mod_cast ha)
theorem Try.zig (n : Nat) (hn : n ≤ 100000) (w : World) : Calls Try.prog 88 #[.int .i64 n] w fun e w' => e = .returned (.int .u64 (2 * n : Nat)) ∧ w' = w := by
  go_enter Try.func88, Try.ntmps88
  go_wp2
  go_ret
  have e1 : (n : Int) / 9223372036854775808 = 0 := by omega
  have e2 : (n : Int) * 2 = ((2 * n : Nat) : Int) := by omega
  have e3 := xor0_u64 (2 * n) (by omega)
  refine ⟨?_, rfl⟩
  rw [e1, e2, e3]
  rfl
theorem Try.zag (n : Nat) (hn : n ≤ 100000) (w : World) : Calls Try.prog 109 #[.int .u64 (2 * n : Nat)] w fun e w' => e = .returned (.int .i64 n) ∧ w' = w := by
  go_enter Try.func109, Try.ntmps109
  go_wp2
  go_ret
  have e2 : 2 * (n : Int) = ((2 * n : Nat) : Int) := by omega
  have e3 := and1_u64 (2 * n) (by omega)
  have e4 : (((2 * n : Nat) : Int)) % 2 = 0 := by omega
  have e5 : wrap64 (-wrap64 0) = 0 := by unfold wrap64; omega
  have e6 := xor0_i64 n (by omega)
  refine ⟨?_, rfl⟩
  rw [e2, e3, e4, e5, e6]
  rfl
end Go.Proofs.Ytfblhcphbcghpaa
end

section
namespace Go.Proofs.Ytfblhcphbcghpaa
open Go.RowKit
open Go.NR (wpList_app)
set_option maxRecDepth 100000
structure PB (w : World) (l : List UInt8) (A : Option Addr) (m c : Nat) (w' : World) : Prop where
  ob : OB w' w.heap.size (.slice A m c) l
  di : DI w' A m c l
  be : Below w.heap.size w w'
theorem PB.of {w w' : World} {v : Value} {l : List UInt8} (ho : OB w' w.heap.size v l) (hb : Below w.heap.size w w') : ∃ A m c, v = .slice A m c ∧ PB w l A m c w' := by
  obtain ⟨A, c, rfl, hd⟩ := ho.di
  exact ⟨A, _, c, rfl, ho, hd, hb⟩
theorem PB.below {w w' w'' : World} {A : Option Addr} {m c : Nat} {l : List UInt8} (h : PB w l A m c w') (hb : Below w'.heap.size w' w'') : PB w l A m c w'' :=
  ⟨Go.NR.own_below h.ob hb, h.di.below hb, h.be.trans (hb.mono h.be.size)⟩
theorem PB.drew {w w' : World} {A : Option Addr} {m c : Nat} {l : List UInt8} (h : PB w l A m c w') : PB w l A m c w'.drew := h.below (Below.refl _ w').drew
theorem PB.len {w w' : World} {A : Option Addr} {m c : Nat} {l : List UInt8} (h : PB w l A m c w') : l.length = m := h.di.len
theorem PB.put {w w' : World} {A : Option Addr} {m c : Nat} {l : List UInt8} (h : PB w l A m c w') (hl : l.length ≤ 60000) (u : Nat) (hu : u < 18446744073709551616) :
    Calls Try.prog 24 #[.slice A m c, .int .u64 u] w' fun x w'' => ∃ A' m' c', x = .returned (.slice A' m' c') ∧ PB w (l ++ encN u) A' m' c' w'' ∧ Below w'.heap.size w' w'' := by
  refine (Try.put w' h.di (by rw [← h.len]; exact hl) u hu).mono ?_
  rintro x w'' ⟨v, rfl, ho, hb⟩
  obtain ⟨A', m', c', rfl, hp⟩ := PB.of (ho.mono h.be.size) (h.be.trans (hb.mono h.be.size))
  exact ⟨A', m', c', rfl, hp, hb⟩
theorem PB.nil (w : World) : PB w [] none 0 0 w := ⟨by unfold OB; exact World.ownsRow_nil w _ 5 1, di_nil w, Below.refl _ _⟩
def statB (r lo hi : Nat) : List UInt8 := 1 :: (encN r ++ (encN 0 ++ (encN (2 * lo) ++ encN (2 * hi))))
theorem statB_le (r lo hi : Nat) : (statB r lo hi).length ≤ 50 := by
  have h1 := encN_in r
  have h2 := encN_in 0
  have h3 := encN_in (2 * lo)
  have h4 := encN_in (2 * hi)
  unfold statB
  simp only [List.length_cons, List.length_append]
  omega
set_option maxHeartbeats 8000000 in
theorem Try.statPut (w : World) {A : Option Addr} {n c : Nat} {l : List UInt8} (hD : DI w A n c l) (hn0 : 0 < n) (hn : n ≤ 40000) (r lo hi : Nat) (hr : 1 ≤ r) (hr2 : r ≤ 64) (hlh : lo ≤ hi) (hh : hi ≤ 1000) :
    Calls Try.prog 81 #[.slice A n c, .agg (scl r lo hi)] w fun x w' => ∃ A' m' c', x = .returned (.tuple #[.slice A' m' c', .int .i64 0]) ∧ PB w (l ++ statB r lo hi) A' m' c' w' := by
  have HCK := Lib.hid (fun W => Try.statCheck W r lo hi hr hr2 hlh)
  unfold scl at *
  obtain ⟨b, og, rfl⟩ := hD.place hn0
  have HL := Lib.hid hD.len
  have hb1 := ((Below.refl _ w).alloc (Nat.le_refl _) (.cells #[.int .i64 1, .int .i64 r, .int .i64 0, .int .i64 1, .int .i64 lo, .string ⟨#[]⟩, .complex .f64 0 0, .int .i64 1, .int .i64 hi, .string ⟨#[]⟩, .complex .f64 0 0, .complex .f64 0 0, .complex .f64 0 0] 126))
  have hn1 := heap_alloc_new w (.cells #[.int .i64 1, .int .i64 r, .int .i64 0, .int .i64 1, .int .i64 lo, .string ⟨#[]⟩, .complex .f64 0 0, .int .i64 1, .int .i64 hi, .string ⟨#[]⟩, .complex .f64 0 0, .complex .f64 0 0, .complex .f64 0 0] 126)
  have HD := Lib.hid (hD.below hb1)
  obtain ⟨w1, hw1⟩ : ∃ w1, w.alloc (.cells #[.int .i64 1, .int .i64 r, .int .i64 0, .int .i64 1, .int .i64 lo, .string ⟨#[]⟩, .complex .f64 0 0, .int .i64 1, .int .i64 hi, .string ⟨#[]⟩, .complex .f64 0 0, .complex .f64 0 0, .complex .f64 0 0] 126) = w1 := ⟨_, rfl⟩
  obtain ⟨sx, hsx⟩ : ∃ sx, w.heap.size = sx := ⟨_, rfl⟩
  rw [hw1] at hb1 hn1 HD
  rw [hsx] at hn1
  have WB := Lib.hid hb1
  have HX := Lib.hid hn1
  have hd0 : ((r : Int) == 0) = false := by simp; omega
  have hd0' : decide (r = 0) = false := decide_eq_false (by omega)
  clear hb1 hn1 hD
  go_enter Try.func81, Try.ntmps81
  go_upto_region 1 with fail
  (try rw [hw1])
  (try rw [hsx])
  clear hw1 hsx
  go_wp2_with fail
  refine (Try.clone ⟨b, og, none⟩ n c w1 (by omega) l HL.out (HD.out.srcX (Below.refl _ w1))).mono ?_
  rintro x w2 ⟨b2, c2, rfl, hlo, hnc, hby, hb2⟩
  have P2 : Hid (PB w l (some ⟨b2, 0, none⟩) n c2 w2) := Lib.hid ⟨hby.ob (by have := WB.out.size; omega) HL.out hnc, hby.di n hnc HL.out, WB.out.trans (hb2.mono WB.out.size)⟩
  have HX2 := Lib.hid ((hb2.block sx (Go.NR.heap_lt HX.out)).trans HX.out)
  have HSB : Hid (sx < b2) := Lib.hid (by have := Go.NR.heap_lt HX.out; omega)
  clear hlo hnc hby hb2 WB HX HD
  have V0 := cell_of_row w2 sx 0 _ 126 _ HX2.out
  have V1 := cell_of_row w2 sx 1 _ 126 _ HX2.out
  have V2 := cell_of_row w2 sx 2 _ 126 _ HX2.out
  have V3 := cell_of_row w2 sx 3 _ 126 _ HX2.out
  have V4 := cell_of_row w2 sx 4 _ 126 _ HX2.out
  have V5 := cell_of_row w2 sx 5 _ 126 _ HX2.out
  have V6 := cell_of_row w2 sx 6 _ 126 _ HX2.out
  have V7 := cell_of_row w2 sx 7 _ 126 _ HX2.out
  have V8 := cell_of_row w2 sx 8 _ 126 _ HX2.out
  have V9 := cell_of_row w2 sx 9 _ 126 _ HX2.out
  have V10 := cell_of_row w2 sx 10 _ 126 _ HX2.out
  have V11 := cell_of_row w2 sx 11 _ 126 _ HX2.out
  have V12 := cell_of_row w2 sx 12 _ 126 _ HX2.out
  simp at V0 V1 V2 V3 V4 V5 V6 V7 V8 V9 V10 V11 V12
  go_wp2_with fail
  refine (HCK.out w2).mono ?_
  rintro x w3 ⟨rfl, hb3⟩
  have P3 := Lib.hid (P2.out.below hb3)
  have HX3 := Lib.hid ((hb3.block sx (Go.NR.heap_lt HX2.out)).trans HX2.out)
  clear V0 V1 V2 V3 V4 V5 V6 V7 V8 V9 V10 V11 V12 hb3 P2 HX2 HCK
  have V0 := cell_of_row w3 sx 0 _ 126 _ HX3.out
  simp at V0
  have P4 := Lib.hid (P3.out.below ((Below.refl w3.heap.size w3).alloc (Nat.le_refl _) (.cells #[.int .u8 1] 5)))
  have HX4 := Lib.hid ((((Below.refl w3.heap.size w3).alloc (Nat.le_refl _) (.cells #[.int .u8 1] 5)).block sx (Go.NR.heap_lt HX3.out)).trans HX3.out)
  have HN4 := Lib.hid (Go.NR.at_alloc w3 #[.int .u8 1] 5)
  go_wp2_with (refine wpList_app Try.E50 rfl (.tmp 16) (.tmp 20) rfl w.heap.size (.slice (some ⟨b2, 0, none⟩) n c2) l.length (l.map u8v) rfl P4.out.ob w3.heap.size 1 1 [.int .u8 1] rfl rfl HN4.out (fun u hu => by simp at hu; subst hu; rfl) (by have := HL.out; omega) P4.out.be.size ?_)
  intro v5 w5 o5 g5
  have hp5 : BB w (l ++ [1]) v5 w5 := BB.grow (l' := [1]) ⟨P4.out.ob, P4.out.be⟩ g5 o5
  have HX5 := Lib.hid ((g5.block sx (Go.NR.heap_lt HX4.out) (fun e => by have e2 : sx = b2 := (by simpa [Value.ownBlock] using e); have := HSB.out; omega)).trans HX4.out)
  obtain ⟨A5, m5, c5, rfl, h5⟩ := PB.of hp5.ob hp5.be
  have P5 := Lib.hid h5
  clear V0 o5 g5 hp5 h5 P4 HX4 HN4 P3 HX3
  go_upto_region 6 with fail
  have HLL : Hid (l.length ≤ 40000) := Lib.hid (by have := HL.out; omega)
  have HR : Hid (r < 100) := Lib.hid (by omega)
  have HWR : Hid (IntKind.u64.wrap (r : Int) = (r : Int)) := Lib.hid (by rw [IntKind.wrap_u64]; omega)
  have HW0 : Hid (IntKind.u64.wrap 0 = 0) := Lib.hid (by rw [IntKind.wrap_u64]; rfl)
  have U1 := Lib.hid (cell_of_row w5 sx 1 _ 126 _ HX5.out)
  have U2 := Lib.hid (cell_of_row w5 sx 2 _ 126 _ HX5.out)
  refine wp_region_noPanic ?_
  refine wp_region_held_drew (S := (fun W => W.cell? ⟨sx, 1, none⟩ = some (.int .i64 r) ∧ W.cell? ⟨sx, 2, none⟩ = some (.int .i64 0))) (by kernel_rfl) ?_ (fun hHeld => ?_)
  · exact ⟨U1.out, U2.out⟩
  refine wpAnyH_take (i := 0) (oi := { dst := some 22, op := Op.move (Operand.tmp 6), type := 50, pos := "stat.go:113", after := #[], guard := none }) (v := ?_) rfl (by kernel_rfl) (by kernel_rfl) (by kernel_rfl) (fun _ _ _ h => h) (Or.inl ⟨by rfl, ?_⟩) (by assumption) ?_
  rotate_left
  · (intro w hSw; (try dsimp only at hSw); go_simp; try with_reducible rfl)
  try simp only [Act.put, List.setIfInBounds_toArray, List.set_cons_zero, List.set_cons_succ]
  refine wpAnyH_take (i := 1) (oi := { dst := some 23, op := Op.fieldAddr 126 (Operand.tmp 3) 1, type := 0, pos := "stat.go:113", after := #[], guard := none }) (v := ?_) rfl (by kernel_rfl) (by kernel_rfl) (by kernel_rfl) (fun _ _ _ h => h) (Or.inl ⟨by rfl, ?_⟩) (by assumption) ?_
  rotate_left
  · (intro w hSw; (try dsimp only at hSw); go_simp; try with_reducible rfl)
  try simp only [Act.put, List.setIfInBounds_toArray, List.set_cons_zero, List.set_cons_succ]
  refine wpAnyH_take (i := 2) (oi := { dst := some 24, op := Op.load 3 (Operand.tmp 23), type := 3, pos := "stat.go:113", after := #[{ on := 1, ground := Ground.data }], guard := none }) (v := ?_) rfl (by kernel_rfl) (by kernel_rfl) (by kernel_rfl) (fun _ _ _ h => h) (Or.inl ⟨by rfl, ?_⟩) (by assumption) ?_
  rotate_left
  · (intro w hSw; (try dsimp only at hSw); go_simp; try with_reducible rfl)
  try simp only [Act.put, List.setIfInBounds_toArray, List.set_cons_zero, List.set_cons_succ]
  refine wpAnyH_take (i := 3) (oi := { dst := some 25, op := Op.convert 3 23 (Operand.tmp 24), type := 23, pos := "stat.go:113", after := #[{ on := 2, ground := Ground.data }], guard := none }) (v := ?_) rfl (by kernel_rfl) (by kernel_rfl) (by kernel_rfl) (fun _ _ _ h => h) (Or.inl ⟨by rfl, ?_⟩) (by assumption) ?_
  rotate_left
  · (intro w hSw; (try dsimp only at hSw); go_simp; try with_reducible rfl)
  try simp only [Act.put, List.setIfInBounds_toArray, List.set_cons_zero, List.set_cons_succ]
  refine wpAnyH_take (i := 5) (oi := { dst := some 27, op := Op.fieldAddr 126 (Operand.tmp 3) 2, type := 0, pos := "stat.go:113", after := #[], guard := none }) (v := ?_) rfl (by kernel_rfl) (by kernel_rfl) (by kernel_rfl) (fun _ _ _ h => h) (Or.inl ⟨by rfl, ?_⟩) (by assumption) ?_
  rotate_left
  · (intro w hSw; (try dsimp only at hSw); go_simp; try with_reducible rfl)
  try simp only [Act.put, List.setIfInBounds_toArray, List.set_cons_zero, List.set_cons_succ]
  refine wpAnyH_take (i := 6) (oi := { dst := some 28, op := Op.load 3 (Operand.tmp 27), type := 3, pos := "stat.go:113", after := #[{ on := 5, ground := Ground.data }], guard := none }) (v := ?_) rfl (by kernel_rfl) (by kernel_rfl) (by kernel_rfl) (fun _ _ _ h => h) (Or.inl ⟨by rfl, ?_⟩) (by assumption) ?_
  rotate_left
  · (intro w hSw; (try dsimp only at hSw); go_simp; try with_reducible rfl)
  try simp only [Act.put, List.setIfInBounds_toArray, List.set_cons_zero, List.set_cons_succ]
  refine wpAnyH_take (i := 7) (oi := { dst := some 29, op := Op.convert 3 23 (Operand.tmp 28), type := 23, pos := "stat.go:113", after := #[{ on := 6, ground := Ground.data }], guard := none }) (v := ?_) rfl (by kernel_rfl) (by kernel_rfl) (by kernel_rfl) (fun _ _ _ h => h) (Or.inl ⟨by rfl, ?_⟩) (by assumption) ?_
  rotate_left
  · (intro w hSw; (try dsimp only at hSw); go_simp; try with_reducible rfl)
  try simp only [Act.put, List.setIfInBounds_toArray, List.set_cons_zero, List.set_cons_succ]
  refine wpAnyH_ready (rs := [4]) (by kernel_rfl) (by simp) ?_
  refine AllReadyH.cons (o := { dst := some 26, op := Op.call { callee := Callee.value (Operand.func 24), args := #[Operand.tmp 22, Operand.tmp 25], argTypes := #[50, 23] }, type := 50, pos := "stat.go:113", after := #[{ on := 0, ground := Ground.data }, { on := 3, ground := Ground.data }], guard := none }) rfl (fun K hK => ?_) AllReadyH.nil
  go_simp
  (try rw [HWR.out])
  (try rw [HW0.out])
  refine (P5.out.drew.put (by have h1 := encN_in r; have h2 := encN_in 0; have h3 := encN_in (2 * lo); have := HLL.out; simp only [List.length_append, List.length_cons, List.length_nil]; omega) (r) (by have := HR.out; omega)).mono ?_
  rintro x w6 ⟨A6, m6, c6, rfl, h6, hb6⟩
  have P6 := Lib.hid h6
  have K6 : Hid (Below w5.heap.size w5 w6) := Lib.hid ((Below.refl _ w5).drew.trans hb6)
  clear h6 hb6
  refine hK.out _ _ ?_ (fun hHeld => ?_)
  · exact ⟨cellW U1.out K6.out, cellW U2.out K6.out⟩
  clear hK K
  try simp only [Act.put, List.setIfInBounds_toArray, List.set_cons_zero, List.set_cons_succ]
  refine wpAnyH_ready (rs := [8]) (by kernel_rfl) (by simp) ?_
  refine AllReadyH.cons (o := { dst := some 30, op := Op.call { callee := Callee.value (Operand.func 24), args := #[Operand.tmp 26, Operand.tmp 29], argTypes := #[50, 23] }, type := 50, pos := "stat.go:113", after := #[{ on := 4, ground := Ground.data }, { on := 7, ground := Ground.data }, { on := 4, ground := Ground.chain }], guard := none }) rfl (fun K hK => ?_) AllReadyH.nil
  go_simp
  (try rw [HWR.out])
  (try rw [HW0.out])
  refine (P6.out.put (by have h1 := encN_in r; have h2 := encN_in 0; have h3 := encN_in (2 * lo); have := HLL.out; simp only [List.length_append, List.length_cons, List.length_nil]; omega) (0) (by decide)).mono ?_
  rintro x w7 ⟨A7, m7, c7, rfl, h7, hb7⟩
  have P7 := Lib.hid h7
  have K7 : Hid (Below w5.heap.size w5 w7) := Lib.hid (K6.out.trans (hb7.mono K6.out.size))
  clear h7 hb7
  refine hK.out _ _ ?_ (fun hHeld => ?_)
  · exact ⟨cellW U1.out K7.out, cellW U2.out K7.out⟩
  clear hK K
  try simp only [Act.put, List.setIfInBounds_toArray, List.set_cons_zero, List.set_cons_succ]
  refine wpAnyH_take (i := 9) (oi := { dst := some 6, op := Op.assign (Operand.tmp 30), type := 50, pos := "stat.go:113", after := #[{ on := 8, ground := Ground.data }, { on := 8, ground := Ground.chain }, { on := 0, ground := Ground.phase }, { on := 1, ground := Ground.phase }, { on := 2, ground := Ground.phase }, { on := 3, ground := Ground.phase }, { on := 4, ground := Ground.phase }, { on := 5, ground := Ground.phase }, { on := 6, ground := Ground.phase }, { on := 7, ground := Ground.phase }, { on := 8, ground := Ground.phase }], guard := none }) (v := ?_) rfl (by kernel_rfl) (by kernel_rfl) (by kernel_rfl) (fun _ _ _ h => h) (Or.inl ⟨by rfl, ?_⟩) (by assumption) ?_
  rotate_left
  · (intro w hSw; (try dsimp only at hSw); go_simp; try with_reducible rfl)
  try simp only [Act.put, List.setIfInBounds_toArray, List.set_cons_zero, List.set_cons_succ]
  refine wpAnyH_done (by kernel_rfl) ?_ _
  refine NoPanic.normal ?_
  have HX7 := Lib.hid ((K7.out.block sx (Go.NR.heap_lt HX5.out)).trans HX5.out)
  clear U1 U2 HX5 K6 K7 P5 P6 hHeld
  have V0 := cell_of_row w7 sx 0 _ 126 _ HX7.out
  have V1 := cell_of_row w7 sx 1 _ 126 _ HX7.out
  have V2 := cell_of_row w7 sx 2 _ 126 _ HX7.out
  simp at V0 V1 V2
  go_upto_region 11 with fail
  clear V0 V1 V2
  have U1 := Lib.hid (cell_of_row w7 sx 4 _ 126 _ HX7.out)
  have U2 := Lib.hid (cell_of_row w7 sx 8 _ 126 _ HX7.out)
  refine wp_region_noPanic ?_
  refine wp_region_held_drew (S := (fun W => W.cell? ⟨sx, 4, none⟩ = some (.int .i64 lo) ∧ W.cell? ⟨sx, 8, none⟩ = some (.int .i64 hi))) (by kernel_rfl) ?_ (fun hHeld => ?_)
  · exact ⟨U1.out, U2.out⟩
  refine wpAnyH_take (i := 0) (oi := { dst := some 41, op := Op.move (Operand.tmp 6), type := 50, pos := "stat.go:119", after := #[], guard := none }) (v := ?_) rfl (by kernel_rfl) (by kernel_rfl) (by kernel_rfl) (fun _ _ _ h => h) (Or.inl ⟨by rfl, ?_⟩) (by assumption) ?_
  rotate_left
  · (intro w hSw; (try dsimp only at hSw); go_simp; try with_reducible rfl)
  try simp only [Act.put, List.setIfInBounds_toArray, List.set_cons_zero, List.set_cons_succ]
  refine wpAnyH_take (i := 1) (oi := { dst := some 42, op := Op.fieldAddr 126 (Operand.tmp 3) 3, type := 0, pos := "stat.go:119", after := #[], guard := none }) (v := ?_) rfl (by kernel_rfl) (by kernel_rfl) (by kernel_rfl) (fun _ _ _ h => h) (Or.inl ⟨by rfl, ?_⟩) (by assumption) ?_
  rotate_left
  · (intro w hSw; (try dsimp only at hSw); go_simp; try with_reducible rfl)
  try simp only [Act.put, List.setIfInBounds_toArray, List.set_cons_zero, List.set_cons_succ]
  refine wpAnyH_take (i := 2) (oi := { dst := some 43, op := Op.fieldAddr 123 (Operand.tmp 42) 1, type := 0, pos := "stat.go:119", after := #[{ on := 1, ground := Ground.data }], guard := none }) (v := ?_) rfl (by kernel_rfl) (by kernel_rfl) (by kernel_rfl) (fun _ _ _ h => h) (Or.inl ⟨by rfl, ?_⟩) (by assumption) ?_
  rotate_left
  · (intro w hSw; (try dsimp only at hSw); go_simp; try with_reducible rfl)
  try simp only [Act.put, List.setIfInBounds_toArray, List.set_cons_zero, List.set_cons_succ]
  refine wpAnyH_take (i := 3) (oi := { dst := some 44, op := Op.load 2 (Operand.tmp 43), type := 2, pos := "stat.go:119", after := #[{ on := 2, ground := Ground.data }], guard := none }) (v := ?_) rfl (by kernel_rfl) (by kernel_rfl) (by kernel_rfl) (fun _ _ _ h => h) (Or.inl ⟨by rfl, ?_⟩) (by assumption) ?_
  rotate_left
  · (intro w hSw; (try dsimp only at hSw); go_simp; try with_reducible rfl)
  try simp only [Act.put, List.setIfInBounds_toArray, List.set_cons_zero, List.set_cons_succ]
  refine wpAnyH_take (i := 6) (oi := { dst := some 47, op := Op.fieldAddr 126 (Operand.tmp 3) 4, type := 0, pos := "stat.go:119", after := #[], guard := none }) (v := ?_) rfl (by kernel_rfl) (by kernel_rfl) (by kernel_rfl) (fun _ _ _ h => h) (Or.inl ⟨by rfl, ?_⟩) (by assumption) ?_
  rotate_left
  · (intro w hSw; (try dsimp only at hSw); go_simp; try with_reducible rfl)
  try simp only [Act.put, List.setIfInBounds_toArray, List.set_cons_zero, List.set_cons_succ]
  refine wpAnyH_take (i := 7) (oi := { dst := some 48, op := Op.fieldAddr 123 (Operand.tmp 47) 1, type := 0, pos := "stat.go:119", after := #[{ on := 6, ground := Ground.data }], guard := none }) (v := ?_) rfl (by kernel_rfl) (by kernel_rfl) (by kernel_rfl) (fun _ _ _ h => h) (Or.inl ⟨by rfl, ?_⟩) (by assumption) ?_
  rotate_left
  · (intro w hSw; (try dsimp only at hSw); go_simp; try with_reducible rfl)
  try simp only [Act.put, List.setIfInBounds_toArray, List.set_cons_zero, List.set_cons_succ]
  refine wpAnyH_take (i := 8) (oi := { dst := some 49, op := Op.load 2 (Operand.tmp 48), type := 2, pos := "stat.go:119", after := #[{ on := 7, ground := Ground.data }], guard := none }) (v := ?_) rfl (by kernel_rfl) (by kernel_rfl) (by kernel_rfl) (fun _ _ _ h => h) (Or.inl ⟨by rfl, ?_⟩) (by assumption) ?_
  rotate_left
  · (intro w hSw; (try dsimp only at hSw); go_simp; try with_reducible rfl)
  try simp only [Act.put, List.setIfInBounds_toArray, List.set_cons_zero, List.set_cons_succ]
  refine wpAnyH_ready (rs := [4]) (by kernel_rfl) (by simp) ?_
  refine AllReadyH.cons (o := { dst := some 45, op := Op.call { callee := Callee.value (Operand.func 88), args := #[Operand.tmp 44], argTypes := #[2] }, type := 23, pos := "stat.go:119", after := #[{ on := 3, ground := Ground.data }], guard := none }) rfl (fun K hK => ?_) AllReadyH.nil
  go_simp
  refine (Try.zig lo (by omega) _).mono ?_
  rintro x wz ⟨rfl, hwz⟩
  rw [hwz]
  clear hwz wz
  refine hK.out _ _ ?_ (fun hHeld => ?_)
  · exact ⟨U1.out, U2.out⟩
  clear hK K
  try simp only [Act.put, List.setIfInBounds_toArray, List.set_cons_zero, List.set_cons_succ]
  refine wpAnyH_ready (rs := [5]) (by kernel_rfl) (by simp) ?_
  refine AllReadyH.cons (o := { dst := some 46, op := Op.call { callee := Callee.value (Operand.func 24), args := #[Operand.tmp 41, Operand.tmp 45], argTypes := #[50, 23] }, type := 50, pos := "stat.go:119", after := #[{ on := 0, ground := Ground.data }, { on := 4, ground := Ground.data }, { on := 4, ground := Ground.chain }], guard := none }) rfl (fun K hK => ?_) AllReadyH.nil
  go_simp
  (try rw [HWR.out])
  (try rw [HW0.out])
  refine (P7.out.drew.put (by have h1 := encN_in r; have h2 := encN_in 0; have h3 := encN_in (2 * lo); have := HLL.out; simp only [List.length_append, List.length_cons, List.length_nil]; omega) (2 * lo) (by omega)).mono ?_
  rintro x w8 ⟨A8, m8, c8, rfl, h8, hb8⟩
  have P8 := Lib.hid h8
  have K8 : Hid (Below w7.heap.size w7 w8) := Lib.hid ((Below.refl _ w7).drew.trans hb8)
  clear h8 hb8
  refine hK.out _ _ ?_ (fun hHeld => ?_)
  · exact ⟨cellW U1.out K8.out, cellW U2.out K8.out⟩
  clear hK K
  try simp only [Act.put, List.setIfInBounds_toArray, List.set_cons_zero, List.set_cons_succ]
  refine wpAnyH_ready (rs := [9]) (by kernel_rfl) (by simp) ?_
  refine AllReadyH.cons (o := { dst := some 50, op := Op.call { callee := Callee.value (Operand.func 88), args := #[Operand.tmp 49], argTypes := #[2] }, type := 23, pos := "stat.go:119", after := #[{ on := 8, ground := Ground.data }, { on := 5, ground := Ground.chain }], guard := none }) rfl (fun K hK => ?_) AllReadyH.nil
  go_simp
  refine (Try.zig hi (by omega) _).mono ?_
  rintro x wz ⟨rfl, hwz⟩
  rw [hwz]
  clear hwz wz
  refine hK.out _ _ ?_ (fun hHeld => ?_)
  · exact ⟨cellW U1.out K8.out, cellW U2.out K8.out⟩
  clear hK K
  try simp only [Act.put, List.setIfInBounds_toArray, List.set_cons_zero, List.set_cons_succ]
  refine wpAnyH_ready (rs := [10]) (by kernel_rfl) (by simp) ?_
  refine AllReadyH.cons (o := { dst := some 51, op := Op.call { callee := Callee.value (Operand.func 24), args := #[Operand.tmp 46, Operand.tmp 50], argTypes := #[50, 23] }, type := 50, pos := "stat.go:119", after := #[{ on := 5, ground := Ground.data }, { on := 9, ground := Ground.data }, { on := 9, ground := Ground.chain }], guard := none }) rfl (fun K hK => ?_) AllReadyH.nil
  go_simp
  (try rw [HWR.out])
  (try rw [HW0.out])
  refine (P8.out.put (by have h1 := encN_in r; have h2 := encN_in 0; have h3 := encN_in (2 * lo); have := HLL.out; simp only [List.length_append, List.length_cons, List.length_nil]; omega) (2 * hi) (by omega)).mono ?_
  rintro x w9 ⟨A9, m9, c9, rfl, h9, hb9⟩
  have P9 := Lib.hid h9
  have K9 : Hid (Below w7.heap.size w7 w9) := Lib.hid (K8.out.trans (hb9.mono K8.out.size))
  clear h9 hb9
  refine hK.out _ _ ?_ (fun hHeld => ?_)
  · exact ⟨cellW U1.out K9.out, cellW U2.out K9.out⟩
  clear hK K
  try simp only [Act.put, List.setIfInBounds_toArray, List.set_cons_zero, List.set_cons_succ]
  refine wpAnyH_take (i := 11) (oi := { dst := some 6, op := Op.assign (Operand.tmp 51), type := 50, pos := "stat.go:119", after := #[{ on := 10, ground := Ground.data }, { on := 10, ground := Ground.chain }, { on := 0, ground := Ground.phase }, { on := 1, ground := Ground.phase }, { on := 2, ground := Ground.phase }, { on := 3, ground := Ground.phase }, { on := 4, ground := Ground.phase }, { on := 5, ground := Ground.phase }, { on := 6, ground := Ground.phase }, { on := 7, ground := Ground.phase }, { on := 8, ground := Ground.phase }, { on := 9, ground := Ground.phase }, { on := 10, ground := Ground.phase }], guard := none }) (v := ?_) rfl (by kernel_rfl) (by kernel_rfl) (by kernel_rfl) (fun _ _ _ h => h) (Or.inl ⟨by rfl, ?_⟩) (by assumption) ?_
  rotate_left
  · (intro w hSw; (try dsimp only at hSw); go_simp; try with_reducible rfl)
  try simp only [Act.put, List.setIfInBounds_toArray, List.set_cons_zero, List.set_cons_succ]
  refine wpAnyH_done (by kernel_rfl) ?_ _
  refine NoPanic.normal ?_
  clear U1 U2 HX7 K8 K9 P7 P8 hHeld
  have PF : Hid (PB w (l ++ statB r lo hi) A9 m9 c9 w9) := Lib.hid (by
    have h := P9.out
    rw [show l ++ statB r lo hi = l ++ [1] ++ encN r ++ encN 0 ++ encN (2 * lo) ++ encN (2 * hi) by simp [statB]]
    exact h)
  clear P9
  go_wp2_with fail
  go_ret2
  exact ⟨_, _, _, rfl, PF.out⟩
end Go.Proofs.Ytfblhcphbcghpaa
end

section
namespace Go.Proofs.Ytfblhcphbcghpaa
open Go.RowKit
open Go.NR (wpList_app)
set_option maxRecDepth 100000
theorem PB.mono {w w1 w2 : World} {l : List UInt8} {A : Option Addr} {m c : Nat} (h : PB w1 l A m c w2) (hb : Below w.heap.size w w1) : PB w l A m c w2 := ⟨h.ob.mono hb.size, h.di, hb.trans (h.be.mono hb.size)⟩
def chunkB (a n r lo hi : Nat) : List UInt8 := encN a ++ (encN n ++ statB r lo hi)
theorem chunkB_le (a n r lo hi : Nat) : (chunkB a n r lo hi).length ≤ 70 := by
  have h1 := encN_in a
  have h2 := encN_in n
  have h3 := statB_le r lo hi
  unfold chunkB
  simp only [List.length_append]
  omega
theorem Try.under159 : Try.prog.underlying 159 = some (.array 2 3) := by kernel_rfl
theorem Try.sz3 : (Try.prog.info? 3).map (·.size) = some 1 := by kernel_rfl
theorem ix0 (w : World) (a n : Int) : (Instr.index 159 (.agg #[.int .i64 a, .int .i64 n]) (.int .i64 0)).run Try.prog w = .ok (.int .i64 a) w := by
  have h3 := Try.underlying3
  simp [Instr.index, asIntOf, run_underlying Try.under159, sizeOf_run w Try.sz3, part, run_underlying h3, go_sem]
theorem ix1 (w : World) (a n : Int) : (Instr.index 159 (.agg #[.int .i64 a, .int .i64 n]) (.int .i64 1)).run Try.prog w = .ok (.int .i64 n) w := by
  have h3 := Try.underlying3
  simp [Instr.index, asIntOf, run_underlying Try.under159, sizeOf_run w Try.sz3, part, run_underlying h3, go_sem]
set_option maxHeartbeats 8000000 in
theorem Try.putChunk (w : World) (a n r lo hi : Nat) (ha : a ≤ 1024) (hn : n ≤ 1024) (hr : 1 ≤ r) (hr2 : r ≤ 64) (hlh : lo ≤ hi) (hh : hi ≤ 1000) :
    Calls Try.prog 56 #[.agg (kcl a n r lo hi)] w fun x w' => ∃ A' m' c', x = .returned (.tuple #[.slice A' m' c', .int .i64 0]) ∧ PB w (chunkB a n r lo hi) A' m' c' w' := by
  unfold kcl
  have hb1 := ((Below.refl _ w).alloc (Nat.le_refl _) (.cells #[.int .i64 a, .int .i64 n, .int .i64 1, .int .i64 r, .int .i64 0, .int .i64 1, .int .i64 lo, .string ⟨#[]⟩, .complex .f64 0 0, .int .i64 1, .int .i64 hi, .string ⟨#[]⟩, .complex .f64 0 0, .complex .f64 0 0, .complex .f64 0 0] 128))
  have hn1 := heap_alloc_new w (.cells #[.int .i64 a, .int .i64 n, .int .i64 1, .int .i64 r, .int .i64 0, .int .i64 1, .int .i64 lo, .string ⟨#[]⟩, .complex .f64 0 0, .int .i64 1, .int .i64 hi, .string ⟨#[]⟩, .complex .f64 0 0, .complex .f64 0 0, .complex .f64 0 0] 128)
  obtain ⟨w1, hw1⟩ : ∃ w1, w.alloc (.cells #[.int .i64 a, .int .i64 n, .int .i64 1, .int .i64 r, .int .i64 0, .int .i64 1, .int .i64 lo, .string ⟨#[]⟩, .complex .f64 0 0, .int .i64 1, .int .i64 hi, .string ⟨#[]⟩, .complex .f64 0 0, .complex .f64 0 0, .complex .f64 0 0] 128) = w1 := ⟨_, rfl⟩
  obtain ⟨sx, hsx⟩ : ∃ sx, w.heap.size = sx := ⟨_, rfl⟩
  rw [hw1] at hb1 hn1
  rw [hsx] at hn1
  have WB := Lib.hid hb1
  have HX := Lib.hid hn1
  have d1 : decide ((a : Int) < 0) = false := decide_eq_false (by omega)
  have d2 : decide ((n : Int) < 0) = false := decide_eq_false (by omega)
  have d3 : decide (1024 < (a : Int)) = false := decide_eq_false (by omega)
  have d4 : decide (1024 < (n : Int)) = false := decide_eq_false (by omega)
  have d3' : decide (1024 < a) = false := decide_eq_false (by omega)
  have d4' : decide (1024 < n) = false := decide_eq_false (by omega)
  have hx0 := ix0
  have hx1 := ix1
  clear hb1 hn1
  go_enter Try.func56, Try.ntmps56
  go_upto_region 1 with fail
  (try rw [hw1])
  (try rw [hsx])
  clear hw1 hsx
  have V0 := cell_of_row w1 sx 0 _ 128 _ HX.out
  have V1 := cell_of_row w1 sx 1 _ 128 _ HX.out
  simp at V0 V1
  go_wp2_with fail
  go_loopw [13] (fun t W => W = w1 ∧ (t = .int .i64 0 ∨ t = .int .i64 1 ∨ t = .int .i64 2)) (fun t _ => 2 - (intOf t).toNat)
  case atStart => exact ⟨rfl, .inl rfl⟩
  case round =>
    rename World => W
    obtain ⟨hW, rfl | rfl | rfl⟩ := hrel <;> subst W
    · go_wp2_with fail
      exact ⟨⟨trivial, .inr (.inl rfl)⟩, by simp [intOf]⟩
    · go_wp2_with fail
      exact ⟨⟨trivial, .inr (.inr rfl)⟩, by simp [intOf]⟩
    · go_upto_region 7 with fail
      clear V0 V1
      have HWA : Hid (IntKind.u64.wrap (a : Int) = (a : Int)) := Lib.hid (by rw [IntKind.wrap_u64]; omega)
      have HWN : Hid (IntKind.u64.wrap (n : Int) = (n : Int)) := Lib.hid (by rw [IntKind.wrap_u64]; omega)
      have U0 := Lib.hid (cell_of_row w1 sx 0 _ 128 _ HX.out)
      have U1 := Lib.hid (cell_of_row w1 sx 1 _ 128 _ HX.out)
      have U2 := Lib.hid (cell_of_row w1 sx 2 _ 128 _ HX.out)
      have U3 := Lib.hid (cell_of_row w1 sx 3 _ 128 _ HX.out)
      have U4 := Lib.hid (cell_of_row w1 sx 4 _ 128 _ HX.out)
      have U5 := Lib.hid (cell_of_row w1 sx 5 _ 128 _ HX.out)
      have U6 := Lib.hid (cell_of_row w1 sx 6 _ 128 _ HX.out)
      have U7 := Lib.hid (cell_of_row w1 sx 7 _ 128 _ HX.out)
      have U8 := Lib.hid (cell_of_row w1 sx 8 _ 128 _ HX.out)
      have U9 := Lib.hid (cell_of_row w1 sx 9 _ 128 _ HX.out)
      have U10 := Lib.hid (cell_of_row w1 sx 10 _ 128 _ HX.out)
      have U11 := Lib.hid (cell_of_row w1 sx 11 _ 128 _ HX.out)
      have U12 := Lib.hid (cell_of_row w1 sx 12 _ 128 _ HX.out)
      have U13 := Lib.hid (cell_of_row w1 sx 13 _ 128 _ HX.out)
      have U14 := Lib.hid (cell_of_row w1 sx 14 _ 128 _ HX.out)
      refine wp_region_noPanic ?_
      refine wp_region_held_drew (S := (fun W => W.cell? ⟨sx, 0, none⟩ = some (.int .i64 a) ∧ W.cell? ⟨sx, 1, none⟩ = some (.int .i64 n) ∧ W.cell? ⟨sx, 2, none⟩ = some (.int .i64 1) ∧ W.cell? ⟨sx, 3, none⟩ = some (.int .i64 r) ∧ W.cell? ⟨sx, 4, none⟩ = some (.int .i64 0) ∧ W.cell? ⟨sx, 5, none⟩ = some (.int .i64 1) ∧ W.cell? ⟨sx, 6, none⟩ = some (.int .i64 lo) ∧ W.cell? ⟨sx, 7, none⟩ = some (.string ⟨#[]⟩) ∧ W.cell? ⟨sx, 8, none⟩ = some (.complex .f64 0 0) ∧ W.cell? ⟨sx, 9, none⟩ = some (.int .i64 1) ∧ W.cell? ⟨sx, 10, none⟩ = some (.int .i64 hi) ∧ W.cell? ⟨sx, 11, none⟩ = some (.string ⟨#[]⟩) ∧ W.cell? ⟨sx, 12, none⟩ = some (.complex .f64 0 0) ∧ W.cell? ⟨sx, 13, none⟩ = some (.complex .f64 0 0) ∧ W.cell? ⟨sx, 14, none⟩ = some (.complex .f64 0 0))) (by kernel_rfl) ?_ (fun hHeld => ?_)
      · exact ⟨U0.out, U1.out, U2.out, U3.out, U4.out, U5.out, U6.out, U7.out, U8.out, U9.out, U10.out, U11.out, U12.out, U13.out, U14.out⟩
      refine wpAnyH_take (i := 0) (oi := { dst := some 23, op := Op.fieldAddr 128 (Operand.tmp 1) 0, type := 0, pos := "group.go:165", after := #[], guard := none }) (v := ?_) rfl (by kernel_rfl) (by kernel_rfl) (by kernel_rfl) (fun _ _ _ h => h) (Or.inl ⟨by rfl, ?_⟩) (by assumption) ?_
      rotate_left
      · (intro w hSw; (try dsimp only at hSw); go_simp; try with_reducible rfl)
      try simp only [Act.put, List.setIfInBounds_toArray, List.set_cons_zero, List.set_cons_succ]
      refine wpAnyH_take (i := 1) (oi := { dst := some 24, op := Op.fieldAddr 60 (Operand.tmp 23) 0, type := 0, pos := "group.go:165", after := #[{ on := 0, ground := Ground.data }], guard := none }) (v := ?_) rfl (by kernel_rfl) (by kernel_rfl) (by kernel_rfl) (fun _ _ _ h => h) (Or.inl ⟨by rfl, ?_⟩) (by assumption) ?_
      rotate_left
      · (intro w hSw; (try dsimp only at hSw); go_simp; try with_reducible rfl)
      try simp only [Act.put, List.setIfInBounds_toArray, List.set_cons_zero, List.set_cons_succ]
      refine wpAnyH_take (i := 2) (oi := { dst := some 25, op := Op.load 3 (Operand.tmp 24), type := 3, pos := "group.go:165", after := #[{ on := 1, ground := Ground.data }], guard := none }) (v := ?_) rfl (by kernel_rfl) (by kernel_rfl) (by kernel_rfl) (fun _ _ _ h => h) (Or.inl ⟨by rfl, ?_⟩) (by assumption) ?_
      rotate_left
      · (intro w hSw; (try dsimp only at hSw); go_simp; try with_reducible rfl)
      try simp only [Act.put, List.setIfInBounds_toArray, List.set_cons_zero, List.set_cons_succ]
      refine wpAnyH_take (i := 3) (oi := { dst := some 26, op := Op.convert 3 23 (Operand.tmp 25), type := 23, pos := "group.go:165", after := #[{ on := 2, ground := Ground.data }], guard := none }) (v := ?_) rfl (by kernel_rfl) (by kernel_rfl) (by kernel_rfl) (fun _ _ _ h => h) (Or.inl ⟨by rfl, ?_⟩) (by assumption) ?_
      rotate_left
      · (intro w hSw; (try dsimp only at hSw); go_simp; try with_reducible rfl)
      try simp only [Act.put, List.setIfInBounds_toArray, List.set_cons_zero, List.set_cons_succ]
      refine wpAnyH_take (i := 5) (oi := { dst := some 28, op := Op.fieldAddr 128 (Operand.tmp 1) 0, type := 0, pos := "group.go:165", after := #[], guard := none }) (v := ?_) rfl (by kernel_rfl) (by kernel_rfl) (by kernel_rfl) (fun _ _ _ h => h) (Or.inl ⟨by rfl, ?_⟩) (by assumption) ?_
      rotate_left
      · (intro w hSw; (try dsimp only at hSw); go_simp; try with_reducible rfl)
      try simp only [Act.put, List.setIfInBounds_toArray, List.set_cons_zero, List.set_cons_succ]
      refine wpAnyH_take (i := 6) (oi := { dst := some 29, op := Op.fieldAddr 60 (Operand.tmp 28) 1, type := 0, pos := "group.go:165", after := #[{ on := 5, ground := Ground.data }], guard := none }) (v := ?_) rfl (by kernel_rfl) (by kernel_rfl) (by kernel_rfl) (fun _ _ _ h => h) (Or.inl ⟨by rfl, ?_⟩) (by assumption) ?_
      rotate_left
      · (intro w hSw; (try dsimp only at hSw); go_simp; try with_reducible rfl)
      try simp only [Act.put, List.setIfInBounds_toArray, List.set_cons_zero, List.set_cons_succ]
      refine wpAnyH_take (i := 7) (oi := { dst := some 30, op := Op.load 3 (Operand.tmp 29), type := 3, pos := "group.go:165", after := #[{ on := 6, ground := Ground.data }], guard := none }) (v := ?_) rfl (by kernel_rfl) (by kernel_rfl) (by kernel_rfl) (fun _ _ _ h => h) (Or.inl ⟨by rfl, ?_⟩) (by assumption) ?_
      rotate_left
      · (intro w hSw; (try dsimp only at hSw); go_simp; try with_reducible rfl)
      try simp only [Act.put, List.setIfInBounds_toArray, List.set_cons_zero, List.set_cons_succ]
      refine wpAnyH_take (i := 8) (oi := { dst := some 31, op := Op.convert 3 23 (Operand.tmp 30), type := 23, pos := "group.go:165", after := #[{ on := 7, ground := Ground.data }], guard := none }) (v := ?_) rfl (by kernel_rfl) (by kernel_rfl) (by kernel_rfl) (fun _ _ _ h => h) (Or.inl ⟨by rfl, ?_⟩) (by assumption) ?_
      rotate_left
      · (intro w hSw; (try dsimp only at hSw); go_simp; try with_reducible rfl)
      try simp only [Act.put, List.setIfInBounds_toArray, List.set_cons_zero, List.set_cons_succ]
      refine wpAnyH_take (i := 10) (oi := { dst := some 33, op := Op.fieldAddr 128 (Operand.tmp 1) 1, type := 0, pos := "group.go:165", after := #[], guard := none }) (v := ?_) rfl (by kernel_rfl) (by kernel_rfl) (by kernel_rfl) (fun _ _ _ h => h) (Or.inl ⟨by rfl, ?_⟩) (by assumption) ?_
      rotate_left
      · (intro w hSw; (try dsimp only at hSw); go_simp; try with_reducible rfl)
      try simp only [Act.put, List.setIfInBounds_toArray, List.set_cons_zero, List.set_cons_succ]
      refine wpAnyH_take (i := 11) (oi := { dst := some 34, op := Op.load 126 (Operand.tmp 33), type := 126, pos := "group.go:165", after := #[{ on := 10, ground := Ground.data }], guard := none }) (v := ?_) rfl (by kernel_rfl) (by kernel_rfl) (by kernel_rfl) (fun _ _ _ h => h) (Or.inl ⟨by rfl, ?_⟩) (by assumption) ?_
      rotate_left
      · (intro w hSw; (try dsimp only at hSw); go_simp; try with_reducible rfl)
      try simp only [Act.put, List.setIfInBounds_toArray, List.set_cons_zero, List.set_cons_succ]
      refine wpAnyH_ready (rs := [4]) (by kernel_rfl) (by simp) ?_
      refine AllReadyH.cons (o := { dst := some 27, op := Op.call { callee := Callee.value (Operand.func 24), args := #[Operand.const (Value.slice none 0 0), Operand.tmp 26], argTypes := #[50, 23] }, type := 50, pos := "group.go:165", after := #[{ on := 3, ground := Ground.data }], guard := none }) rfl (fun K hK => ?_) AllReadyH.nil
      go_simp
      (try rw [HWA.out])
      (try rw [HWN.out])
      refine ((PB.nil w1.drew).put (by have h1 := encN_in a; have h2 := encN_in n; simp only [List.length_append, List.length_nil]; omega) (a) (by omega)).mono ?_
      rintro x w2 ⟨A2, m2, c2, rfl, h2, hb2⟩
      have P2 := Lib.hid h2
      have K2 : Hid (Below w1.heap.size w1 w2) := Lib.hid ((Below.refl _ w1).drew.trans hb2)
      clear h2 hb2
      refine hK.out _ _ ?_ (fun hHeld => ?_)
      · exact ⟨cellW U0.out K2.out, cellW U1.out K2.out, cellW U2.out K2.out, cellW U3.out K2.out, cellW U4.out K2.out, cellW U5.out K2.out, cellW U6.out K2.out, cellW U7.out K2.out, cellW U8.out K2.out, cellW U9.out K2.out, cellW U10.out K2.out, cellW U11.out K2.out, cellW U12.out K2.out, cellW U13.out K2.out, cellW U14.out K2.out⟩
      clear hK K
      try simp only [Act.put, List.setIfInBounds_toArray, List.set_cons_zero, List.set_cons_succ]
      refine wpAnyH_ready (rs := [9]) (by kernel_rfl) (by simp) ?_
      refine AllReadyH.cons (o := { dst := some 32, op := Op.call { callee := Callee.value (Operand.func 24), args := #[Operand.tmp 27, Operand.tmp 31], argTypes := #[50, 23] }, type := 50, pos := "group.go:165", after := #[{ on := 4, ground := Ground.data }, { on := 8, ground := Ground.data }, { on := 4, ground := Ground.chain }], guard := none }) rfl (fun K hK => ?_) AllReadyH.nil
      go_simp
      (try rw [HWA.out])
      (try rw [HWN.out])
      refine (P2.out.put (by have h1 := encN_in a; have h2 := encN_in n; simp only [List.length_append, List.length_nil]; omega) (n) (by omega)).mono ?_
      rintro x w3 ⟨A3, m3, c3, rfl, h3, hb3⟩
      have P3 := Lib.hid h3
      have K3 : Hid (Below w1.heap.size w1 w3) := Lib.hid (K2.out.trans (hb3.mono K2.out.size))
      clear h3 hb3
      refine hK.out _ _ ?_ (fun hHeld => ?_)
      · exact ⟨cellW U0.out K3.out, cellW U1.out K3.out, cellW U2.out K3.out, cellW U3.out K3.out, cellW U4.out K3.out, cellW U5.out K3.out, cellW U6.out K3.out, cellW U7.out K3.out, cellW U8.out K3.out, cellW U9.out K3.out, cellW U10.out K3.out, cellW U11.out K3.out, cellW U12.out K3.out, cellW U13.out K3.out, cellW U14.out K3.out⟩
      clear hK K
      try simp only [Act.put, List.setIfInBounds_toArray, List.set_cons_zero, List.set_cons_succ]
      refine wpAnyH_ready (rs := [12]) (by kernel_rfl) (by simp) ?_
      refine AllReadyH.cons (o := { dst := some 35, op := Op.call { callee := Callee.value (Operand.func 81), args := #[Operand.tmp 32, Operand.tmp 34], argTypes := #[50, 126] }, type := 52, pos := "group.go:165", after := #[{ on := 9, ground := Ground.data }, { on := 11, ground := Ground.data }, { on := 9, ground := Ground.chain }], guard := none }) rfl (fun K hK => ?_) AllReadyH.nil
      go_simp
      have hp3 := P3.out.len
      refine (Try.statPut w3 P3.out.di (by have h1 := encN_in a; simp only [List.length_append, List.length_nil] at hp3; omega) (by have h1 := encN_in a; have h2 := encN_in n; simp only [List.length_append, List.length_nil] at hp3; omega) r lo hi hr hr2 hlh hh).mono ?_
      rintro x w4 ⟨A4, m4, c4, rfl, h4⟩
      have P4 : Hid (PB w ([] ++ encN a ++ encN n ++ statB r lo hi) A4 m4 c4 w4) := Lib.hid (h4.mono (WB.out.trans (K3.out.mono WB.out.size)))
      have K4 : Hid (Below w1.heap.size w1 w4) := Lib.hid (K3.out.trans (h4.be.mono K3.out.size))
      clear h4 hp3
      refine hK.out _ _ ?_ (fun hHeld => ?_)
      · exact ⟨cellW U0.out K4.out, cellW U1.out K4.out, cellW U2.out K4.out, cellW U3.out K4.out, cellW U4.out K4.out, cellW U5.out K4.out, cellW U6.out K4.out, cellW U7.out K4.out, cellW U8.out K4.out, cellW U9.out K4.out, cellW U10.out K4.out, cellW U11.out K4.out, cellW U12.out K4.out, cellW U13.out K4.out, cellW U14.out K4.out⟩
      clear hK K
      try simp only [Act.put, List.setIfInBounds_toArray, List.set_cons_zero, List.set_cons_succ]
      refine wpAnyH_take (i := 13) (oi := { dst := some 36, op := Op.extract (Operand.tmp 35) 0, type := 50, pos := "group.go:165", after := #[{ on := 12, ground := Ground.data }], guard := none }) (v := ?_) rfl (by kernel_rfl) (by kernel_rfl) (by kernel_rfl) (fun _ _ _ h => h) (Or.inl ⟨by rfl, ?_⟩) (by assumption) ?_
      rotate_left
      · (intro w hSw; (try dsimp only at hSw); go_simp; try with_reducible rfl)
      try simp only [Act.put, List.setIfInBounds_toArray, List.set_cons_zero, List.set_cons_succ]
      refine wpAnyH_take (i := 14) (oi := { dst := some 37, op := Op.extract (Operand.tmp 35) 1, type := 51, pos := "group.go:165", after := #[{ on := 12, ground := Ground.data }], guard := none }) (v := ?_) rfl (by kernel_rfl) (by kernel_rfl) (by kernel_rfl) (fun _ _ _ h => h) (Or.inl ⟨by rfl, ?_⟩) (by assumption) ?_
      rotate_left
      · (intro w hSw; (try dsimp only at hSw); go_simp; try with_reducible rfl)
      try simp only [Act.put, List.setIfInBounds_toArray, List.set_cons_zero, List.set_cons_succ]
      refine wpAnyH_take (i := 15) (oi := { dst := some 2, op := Op.assign (Operand.tmp 36), type := 50, pos := "group.go:165", after := #[{ on := 13, ground := Ground.data }, { on := 12, ground := Ground.chain }, { on := 0, ground := Ground.phase }, { on := 1, ground := Ground.phase }, { on := 2, ground := Ground.phase }, { on := 3, ground := Ground.phase }, { on := 4, ground := Ground.phase }, { on := 5, ground := Ground.phase }, { on := 6, ground := Ground.phase }, { on := 7, ground := Ground.phase }, { on := 8, ground := Ground.phase }, { on := 9, ground := Ground.phase }, { on := 10, ground := Ground.phase }, { on := 11, ground := Ground.phase }, { on := 12, ground := Ground.phase }, { on := 13, ground := Ground.phase }, { on := 14, ground := Ground.phase }], guard := none }) (v := ?_) rfl (by kernel_rfl) (by kernel_rfl) (by kernel_rfl) (fun _ _ _ h => h) (Or.inl ⟨by rfl, ?_⟩) (by assumption) ?_
      rotate_left
      · (intro w hSw; (try dsimp only at hSw); go_simp; try with_reducible rfl)
      try simp only [Act.put, List.setIfInBounds_toArray, List.set_cons_zero, List.set_cons_succ]
      refine wpAnyH_take (i := 16) (oi := { dst := some 3, op := Op.assign (Operand.tmp 37), type := 51, pos := "group.go:165", after := #[{ on := 14, ground := Ground.data }, { on := 15, ground := Ground.chain }, { on := 0, ground := Ground.phase }, { on := 1, ground := Ground.phase }, { on := 2, ground := Ground.phase }, { on := 3, ground := Ground.phase }, { on := 4, ground := Ground.phase }, { on := 5, ground := Ground.phase }, { on := 6, ground := Ground.phase }, { on := 7, ground := Ground.phase }, { on := 8, ground := Ground.phase }, { on := 9, ground := Ground.phase }, { on := 10, ground := Ground.phase }, { on := 11, ground := Ground.phase }, { on := 12, ground := Ground.phase }, { on := 13, ground := Ground.phase }, { on := 14, ground := Ground.phase }, { on := 15, ground := Ground.phase }], guard := none }) (v := ?_) rfl (by kernel_rfl) (by kernel_rfl) (by kernel_rfl) (fun _ _ _ h => h) (Or.inl ⟨by rfl, ?_⟩) (by assumption) ?_
      rotate_left
      · (intro w hSw; (try dsimp only at hSw); go_simp; try with_reducible rfl)
      try simp only [Act.put, List.setIfInBounds_toArray, List.set_cons_zero, List.set_cons_succ]
      refine wpAnyH_done (by kernel_rfl) ?_ _
      refine NoPanic.normal ?_
      clear K2 K3 P2 P3 hHeld
      have PF : Hid (PB w (chunkB a n r lo hi) A4 m4 c4 w4) := Lib.hid (by
        have h := P4.out
        rw [show chunkB a n r lo hi = [] ++ encN a ++ encN n ++ statB r lo hi by simp [chunkB]]
        exact h)
      clear P4
      go_wp2_with fail
      go_ret2
      exact ⟨_, _, _, rfl, PF.out⟩
end Go.Proofs.Ytfblhcphbcghpaa
end
