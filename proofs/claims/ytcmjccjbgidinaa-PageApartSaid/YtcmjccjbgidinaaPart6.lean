/-
  Texts of a proof over the translated program: proved evaluators and walks, part 6 of 7.
-/
import Derived.Test.YtcmjccjbgidinaaPart5
import Derived.Below
import Derived.Deep.RegionWith
import Derived.Handy
import Derived.IntWalk
import Derived.Laws.CopyOwn
import Derived.Laws.MakeOwn
import Derived.Lib.Hide
import Derived.Outline
import Derived.OwnWalk
import Derived.Scope
import Derived.Test.YtcmjccjbgidinaaProg
import Derived.WalkKit
import Derived.WalkSpells
import Derived.Deep.RegionLaw
import Derived.Deep.RegionLawGrows
import Derived.LoopTactic
import Derived.Lib.SlBytesRow
import Derived.Deep.RegionHeld3
import Derived.ScopeJumps
import Derived.Laws.BytesArg
import Derived.Deep.CutBlock
import Derived.Deep.Grids
import Derived.Deep.Slices
import Derived.Lib.SmallJoins
import Derived.OpenShut
import Derived.ProofKit
import Derived.Great.BuildSlice
import Derived.KernelRfl
import Derived.Laws.IdiomStrings
import Derived.Orders
import Derived.Test.YtcmjccjbgidinaaChecked
set_option linter.unusedVariables false
set_option linter.unusedSimpArgs false
set_option linter.unusedSectionVars false
set_option linter.unnecessarySimpa false
section
namespace Go.Proofs
open Go.RowKit
set_option maxRecDepth 100000
theorem Try.info5 : (Try.prog.info? 5).map (fun i => (i.zero, i.size, i.bytes)) = some (some (.int .u8 0), 1, 1) := by kernel_rfl
def u8v (x : UInt8) : Value := .int .u8 (x.toNat : Int)
def BY (w : World) (b : Nat) (l : List UInt8) (c : Nat) : Prop := ∃ pad : List Value, w.heap[b]? = some (.cells (l.map u8v ++ pad).toArray 5 (0, 0)) ∧ l.length + pad.length = c ∧ c ≤ maxLen
theorem u8v_one (l : List UInt8) : ∀ u ∈ l.map u8v, u.oneCell' = true := by
  intro u hu
  obtain ⟨x, _, rfl⟩ := List.mem_map.1 hu
  rfl
theorem BY.congr {w w' : World} {b : Nat} {l : List UInt8} {c : Nat} (h : BY w b l c) (e : w'.heap[b]? = w.heap[b]?) : BY w' b l c := by
  obtain ⟨pad, h1, h2⟩ := h
  exact ⟨pad, e.trans h1, h2⟩
theorem BY.lt {w : World} {b : Nat} {l : List UInt8} {c : Nat} (h : BY w b l c) : b < w.heap.size := by
  obtain ⟨pad, h1, h2⟩ := h
  exact (Array.getElem?_eq_some_iff.1 h1).1
theorem BY.cell {w : World} {b : Nat} {l : List UInt8} {c : Nat} (h : BY w b l c) (i : Nat) (hi : i < l.length) : w.cell? ⟨b, i, none⟩ = some (u8v l[i]) := by
  obtain ⟨pad, h1, h2⟩ := h
  rw [cell_of_row w b i _ 5 (0, 0) h1]
  simp [List.getElem?_append, hi]
theorem add_none (b o i : Nat) : (⟨b, o, none⟩ : Addr).add i = ⟨b, o + i, none⟩ := by unfold Addr.add; split <;> simp_all
theorem BY.win {w : World} {b : Nat} {l : List UInt8} {c : Nat} (h : BY w b l c) (o n : Nat) (hn : o + n ≤ l.length) : ∀ j u, (((l.drop o).take n).map u8v)[j]? = some u → w.cell? ((⟨b, o, none⟩ : Addr).add j) = some u := by
  intro j u hu
  rw [add_none]
  rw [List.getElem?_map, List.getElem?_take] at hu
  split at hu
  · rename_i hj
    rw [List.getElem?_drop] at hu
    have hlt : o + j < l.length := by omega
    rw [List.getElem?_eq_getElem hlt] at hu
    rw [h.cell (o + j) hlt]
    simpa using hu
  · simp at hu
theorem BY.all {w : World} {b : Nat} {l : List UInt8} {c : Nat} (h : BY w b l c) : ∀ j u, (l.map u8v)[j]? = some u → w.cell? ((⟨b, 0, none⟩ : Addr).add j) = some u := by
  have := h.win 0 l.length (by omega)
  simpa using this
theorem BY.own {w : World} {B : Nat} {v : Value} {n : Nat} {l : List UInt8} (h : w.ownsRow B 5 1 v n (l.map u8v)) (hv : v ≠ .slice none 0 0) : l.length = n ∧ ∃ b c, v = .slice (some ⟨b, 0, none⟩) n c ∧ B ≤ b ∧ n ≤ c ∧ BY w b l c := by
  obtain ⟨h1, h2⟩ := h
  have hl : l.length = n := by simpa using h1
  refine ⟨hl, ?_⟩
  clear h1
  rcases h2 with ⟨rfl, _⟩ | ⟨g, cap, cur, rfl, hb, hg, hn, hc, hs, ht⟩
  · exact absurd rfl hv
  · refine ⟨g, cap, rfl, hb, hn, cur.toList.drop n, ?_, ?_, hc⟩
    · rw [hg, ← ht]
      simp
    · rw [List.length_drop, Array.length_toList (xs := cur)]; simp only [Nat.mul_one] at hs; omega
theorem Try.blocks (d n m : Nat) (a : Option Addr) (hn : n ≤ 65536) (w : World) (hc : w.cell? ⟨d, 1, none⟩ = some (.slice a n m)) :
    Calls Try.prog 28 #[.pointer (some ⟨d, 0, none⟩)] w fun e w' => e = .returned (.int .i64 ((n / 64 : Nat) : Int)) ∧ w = w' := by
  go_enter Try.func28, Try.ntmps28
  go_wp2
  go_ret
  exact ⟨rfl, rfl⟩
theorem Try.waits (d n m : Nat) (a : Option Addr) (w : World) (hc : w.cell? ⟨d, 2, none⟩ = some (.slice a n m)) :
    Calls Try.prog 27 #[.pointer (some ⟨d, 0, none⟩)] w fun e w' => e = .returned (.int .i64 (n : Int)) ∧ w = w' := by
  go_enter Try.func27, Try.ntmps27
  go_wp2
  go_ret
  exact ⟨rfl, rfl⟩
theorem ret_bool {a b : Bool} (h : a = b) : Ending.returned (.bool a) = .returned (.bool b) := by rw [h]
theorem Try.has_yes (d n m : Nat) (a : Option Addr) (i : Int) (hn : n ≤ 65536) (h0 : 0 ≤ i) (hi : i < n / 64) (w : World) (hc : w.cell? ⟨d, 1, none⟩ = some (.slice a n m)) :
    Calls Try.prog 37 #[.pointer (some ⟨d, 0, none⟩), .int .i64 i] w fun e w' => e = .returned (.bool true) ∧ w = w' := by
  have h1 : decide (0 ≤ i) = true := by simpa using h0
  go_enter Try.func37, Try.ntmps37
  go_wp2_with (go_at_call 28; refine (Try.blocks _ _ _ _ hn _ hc).mono ?_; rintro e w' ⟨rfl, rfl⟩)
  go_ret
  exact ⟨ret_bool (by simpa using hi), rfl⟩
theorem ret_slice {a : Option Addr} {n n' m : Nat} (h : n = n') : Ending.returned (.slice a n m) = .returned (.slice a n' m) := by rw [h]
theorem Try.at (g o n m : Nat) (i : Nat) (hn : n ≤ 65536) (hi : i < n / 64) (hm : n ≤ m) (w : World) :
    Calls Try.prog 38 #[.slice (some ⟨g, o, none⟩) n m, .int .i64 i] w fun e w' => e = .returned (.slice (some ⟨g, o + i * 64, none⟩) 64 (m - i * 64)) ∧ w = w' := by
  go_enter Try.func38, Try.ntmps38
  go_wp2
  go_ret
  exact ⟨ret_slice (by omega), rfl⟩
def Cloned (w : World) (n : Nat) (l : List UInt8) (e : Ending) (w' : World) : Prop := ∃ b c, e = .returned (.slice (some ⟨b, 0, none⟩) n c) ∧ w.heap.size ≤ b ∧ n ≤ c ∧ BY w' b l c ∧ Below w.heap.size w w'
theorem cloned_of {w w' : World} {n : Nat} {l : List UInt8} {v : Value} (h : w'.ownsRow w.heap.size 5 1 v n (l.map u8v)) (hv : v ≠ .slice none 0 0) (hb : Below w.heap.size w w') : Cloned w n l (.returned v) w' := by
  obtain ⟨_, b, c, rfl, h2, h3, h4⟩ := BY.own h hv
  exact ⟨b, c, rfl, h2, h3, h4, hb⟩
theorem cells_alloc {w : World} {A : Addr} {xs : List Value} (o : Obj) (h : ∀ j u, xs[j]? = some u → w.cell? (A.add j) = some u) : ∀ j u, xs[j]? = some u → (w.alloc o).cell? (A.add j) = some u := by
  intro j u hu
  have h1 := h j u hu
  have h2 := block_lt_of_cell h1
  exact (World.cell?_of_block (w := w) (Below.heap_alloc w o _ h2)).trans h1
theorem Try.clone (A : Addr) (n m : Nat) (w : World) (hn : n ≤ 65536) (l : List UInt8) (hl : l.length = n) (hc : ∀ j u, (l.map u8v)[j]? = some u → w.cell? (A.add j) = some u) :
    Calls Try.prog 39 #[.slice (some A) n m] w (Cloned w n l) := by
  obtain ⟨i0, hi, hz0, hz1, hz2⟩ := info_parts Try.info5
  have hnil := Lib.run_eql_slice_nil w 31 5 (some A) n m 0 0 Try.underlying31
  have hown := World.ownsRow_made (base := w.heap.size) (e := 5) (size := 1) w #[] 0 (Nat.le_refl _) (Nat.zero_le _) rfl
  have hc' := cells_alloc (.cells #[] 5) hc
  have HL := Lib.hid hl
  have h63 : 0 + n ≤ maxLen := by unfold maxLen; omega
  clear hl hc
  go_enter Try.func39, Try.ntmps39
  go_wp2_with (at_builtin; refine wpList_append_own _ rfl (.tmp 5) (.tmp 6) 31 rfl w.heap.size 5 i0 (.int .u8 0) 1 1 Try.underlying31 hi hz0 hz1 hz2 rfl (by decide) _ _ _ rfl hown A n m (l.map u8v) rfl ?c1 hc' (u8v_one l) h63 ?c2 ?c3 ?c4)
  case c1 => simp [HL.out]
  case c2 => omega
  case c3 => simp
  case c4 =>
    intro v w1 hown1 hg hne
    have hv : v ≠ .slice none 0 0 := by simpa using hne
    have hb : Below w.heap.size w w1 := ((Below.refl _ w).alloc (Nat.le_refl _) _).grown hg (by simp) (fun k hk => by simp [Value.ownBlock] at hk; omega)
    try simp only [Nat.zero_add, List.nil_append] at hown1
    have H := Lib.hid (cloned_of hown1 hv hb)
    clear hown1 hg hne hb hown hc' hnil
    go_wp2
    go_ret
    exact H.out
end Go.Proofs
end

section
namespace Go.Proofs
open Go.RowKit
set_option maxRecDepth 100000
theorem Try.info74 : (Try.prog.info? 74).map (fun i => (i.zero, i.size, i.bytes)) = some (some (.agg #[.int .i64 0, .slice none 0 0]), 2, 32) := by kernel_rfl
def wCells : List (Nat × List UInt8) → List (Nat × Nat) → List Value
  | q :: Q, x :: ds => .int .i64 (q.1 : Int) :: .slice (some ⟨x.1, 0, none⟩) 64 x.2 :: wCells Q ds
  | _, _ => []
def OneW (w : World) (F : Nat → Prop) (ns : List Nat) (k : Nat) (q : Nat × List UInt8) (x : Nat × Nat) : Prop :=
  F x.1 ∧ x.1 ∉ ns ∧ q.2.length = 64 ∧ q.1 < k ∧ BY w x.1 q.2 x.2 ∧ 64 ≤ x.2
def AllW (w : World) (F : Nat → Prop) (ns : List Nat) (k : Nat) : List (Nat × List UInt8) → List (Nat × Nat) → Prop
  | q :: Q, x :: ds => OneW w F ns k q x ∧ AllW w F ns k Q ds
  | [], [] => True
  | _, _ => False
def vblk (v : Value) : List Nat := match v with | .slice (some a) _ _ => [a.block] | _ => []
structure DW (w : World) (F : Nat → Prop) (d k lb cl tb ct : Nat) (vw : Value) (ds : List (Nat × Nat)) (L T : List UInt8) (Q : List (Nat × List UInt8)) : Prop where
  lt : ∀ b, F b → b < w.heap.size
  here : w.heap[d]? = some (.cells #[.slice (some ⟨lb, 0, none⟩) (64 * k) cl, .slice (some ⟨tb, 0, none⟩) (64 * k) ct, vw] 71 (0, 0))
  fd : F d
  fl : F lb
  ft : F tb
  dl : d ≠ lb
  dt : d ≠ tb
  lt' : lb ≠ tb
  hk : k ≤ 1024
  Ll : L.length = 64 * k
  Tl : T.length = 64 * k
  bl : BY w lb L cl
  bt : BY w tb T ct
  cl' : 64 * k ≤ cl
  ct' : 64 * k ≤ ct
  ow : w.ownsRow 0 74 2 vw Q.length (wCells Q ds)
  fw : ∀ b ∈ vblk vw, F b ∧ b ≠ d ∧ b ≠ lb ∧ b ≠ tb
  al : AllW w F (d :: lb :: tb :: vblk vw) k Q ds
def DV (w : World) (F : Nat → Prop) (d k : Nat) (L T : List UInt8) (Q : List (Nat × List UInt8)) : Prop := ∃ lb cl tb ct vw ds, DW w F d k lb cl tb ct vw ds L T Q
structure Upd (w w' : World) (F F' : Nat → Prop) : Prop where
  os : w'.os = w.os
  tape : w'.tape = w.tape
  output : w'.output = w.output
  size : w.heap.size ≤ w'.heap.size
  block : ∀ b, b < w.heap.size → ¬ F b → w'.heap[b]? = w.heap[b]?
  grow : ∀ b, F' b → F b ∨ w.heap.size ≤ b
theorem splice_len (T : List UInt8) (o : Nat) (bb : List UInt8) (h : o + bb.length ≤ T.length) : (T.take o ++ (bb ++ T.drop (o + bb.length))).length = T.length := by
  simp; omega
theorem step_open {P : Program} {ops : Array Oper} {o : Oper} {a : Act} {w : World} {K : Act → World → Prop} {Q : Exit → Act → World → Prop} {E : Prop} (hg : o.guard = none) (h : Oper.wp P o a w K Q) :
    if Region.wanted o (yielded ops a.tmps) = true then Oper.wp P o a w K Q else E := by
  have hw : Region.wanted o (yielded ops a.tmps) = true := by simp [Region.wanted, hg]
  rw [if_pos hw]
  exact h
structure Only (w w' : World) (g : Nat) : Prop where
  os : w'.os = w.os
  tape : w'.tape = w.tape
  output : w'.output = w.output
  size : w'.heap.size = w.heap.size
  block : ∀ b, b ≠ g → w'.heap[b]? = w.heap[b]?
theorem Only.cell {w w' : World} {g : Nat} (h : Only w w' g) {A : Addr} (hA : A.block ≠ g) : w'.cell? A = w.cell? A := World.cell?_of_block (h.block _ hA)
theorem Only.cells {w w' : World} {g : Nat} (h : Only w w' g) {A : Addr} (hA : A.block ≠ g) {xs : List Value} (hc : ∀ j u, xs[j]? = some u → w.cell? (A.add j) = some u) : ∀ j u, xs[j]? = some u → w'.cell? (A.add j) = some u := by
  intro j u hu
  have hb : (A.add j).block = A.block := by unfold Addr.add; split <;> rfl
  rw [h.cell (by rw [hb]; exact hA)]
  exact hc j u hu
theorem run_copy_by {P : Program} (w : World) (dT sT ty : TypeId) (hu : P.underlying dT = some (.slice 5)) (hsz : (P.info? 5).map (·.size) = some 1) (g o c : Nat) (T : List UInt8) (hg : BY w g T c) (n dCap : Nat) (A : Addr) (m : Nat) (bb : List UInt8) (hl : bb.length = n)
    (hc : ∀ j u, (bb.map u8v)[j]? = some u → w.cell? (A.add j) = some u) (hfit : o + n ≤ T.length) :
    ∃ w', (Builtin.copy_ #[dT, sT] ty #[.slice (some ⟨g, o, none⟩) n dCap, .slice (some A) n m]).run P w = .ok (goInt n) w' ∧ BY w' g (T.take o ++ (bb ++ T.drop (o + n))) c ∧ Only w w' g := by
  obtain ⟨pad, g1, g2, g3⟩ := hg
  have hr := run_copy_row P w dT sT ty 5 g o n dCap A n m _ 5 (bb.map u8v) hu hsz g1 (by simp [hl]) hc (by simp; omega) (u8v_one bb)
  simp only [List.length_map, hl] at hr
  refine ⟨_, hr, ?_, ?_⟩
  · refine ⟨pad, ?_, ?_, g3⟩
    · rw [setRow_heap w g _ _ 5 _ g1]
      simp only [List.length_map, hl, List.map_append, List.map_take, List.map_drop]
      rw [List.take_append_of_le_length (by simp; omega), List.drop_append_of_le_length (by simp; omega)]
      simp [List.append_assoc]
    · simp; omega
  · exact ⟨rfl, rfl, rfl, by simp, fun b hb => setRow_other w g b _ hb⟩
theorem wpList_copy_by {P : Program} {w : World} {ops : Array Oper} {rest : List Oper} {o : Oper} {a : Act} {Q : Exit → Act → World → Prop} (hgd : o.guard = none) (d s : Operand) (dT sT : TypeId)
    (ho : o.op = .call { callee := .builtin .copy, args := #[d, s], argTypes := #[dT, sT] }) (hu : P.underlying dT = some (.slice 5)) (hsz : (P.info? 5).map (·.size) = some 1)
    (g off c : Nat) (T : List UInt8) (n dCap : Nat) (A : Addr) (m : Nat) (bb : List UInt8) (hd : a.eval d = .slice (some ⟨g, off, none⟩) n dCap) (hs : a.eval s = .slice (some A) n m)
    (hg : BY w g T c) (hl : bb.length = n) (hc : ∀ j u, (bb.map u8v)[j]? = some u → w.cell? (A.add j) = some u) (hfit : off + n ≤ T.length)
    (h : ∀ w', BY w' g (T.take off ++ (bb ++ T.drop (off + n))) c → Only w w' g → wpList P ops Q rest (a.put o.dst (goInt n)) w') : wpList P ops Q (o :: rest) a w := by
  refine wpList_plain hgd fun K hK => ?_
  obtain ⟨w', hrun, h1, h2⟩ := run_copy_by (P := P) w dT sT o.type hu hsz g off c T hg n dCap A m bb hl hc hfit
  unfold Oper.wp
  simp [execOp, ho, resolve, invoke, builtin, hd, hs, hrun, Result.andThen]
  exact hK _ _ (h w' h1 h2)
structure Chg (w w' : World) (S : Nat → Prop) : Prop where
  os : w'.os = w.os
  tape : w'.tape = w.tape
  output : w'.output = w.output
  size : w.heap.size ≤ w'.heap.size
  block : ∀ b, b < w.heap.size → ¬ S b → w'.heap[b]? = w.heap[b]?
theorem Chg.refl (w : World) (S : Nat → Prop) : Chg w w S := ⟨rfl, rfl, rfl, Nat.le_refl _, fun _ _ _ => rfl⟩
theorem Chg.trans {w w1 w2 : World} {S : Nat → Prop} (h : Chg w w1 S) (h' : Chg w1 w2 S) : Chg w w2 S :=
  ⟨h'.os.trans h.os, h'.tape.trans h.tape, h'.output.trans h.output, Nat.le_trans h.size h'.size, fun b hb hs => (h'.block b (Nat.lt_of_lt_of_le hb h.size) hs).trans (h.block b hb hs)⟩
theorem Chg.trans' {w w1 w2 : World} {S S' : Nat → Prop} (h : Chg w w1 S) (h' : Chg w1 w2 S') (hs : ∀ b, b < w.heap.size → S' b → S b) : Chg w w2 S :=
  ⟨h'.os.trans h.os, h'.tape.trans h.tape, h'.output.trans h.output, Nat.le_trans h.size h'.size, fun b hb hn => (h'.block b (Nat.lt_of_lt_of_le hb h.size) (fun q => hn (hs b hb q))).trans (h.block b hb hn)⟩
theorem Chg.mono {w w' : World} {S S' : Nat → Prop} (h : Chg w w' S) (hs : ∀ b, S b → S' b) : Chg w w' S' := ⟨h.os, h.tape, h.output, h.size, fun b hb hn => h.block b hb (fun q => hn (hs b q))⟩
theorem Chg.drew {w w' : World} {S : Nat → Prop} (h : Chg w w' S) : Chg w w'.drew S := ⟨h.os, h.tape, h.output, h.size, h.block⟩
theorem Chg.ofDrew {w w' : World} {S : Nat → Prop} (h : Chg w.drew w' S) : Chg w w' S := ⟨h.os, h.tape, h.output, h.size, h.block⟩
theorem Chg.below {w w' : World} (h : Below w.heap.size w w') (S : Nat → Prop) : Chg w w' S := ⟨h.os, h.tape, h.output, h.size, fun b hb _ => h.block b hb⟩
theorem Chg.only {w w' : World} {g : Nat} (h : Only w w' g) : Chg w w' (· = g) := ⟨h.os, h.tape, h.output, Nat.le_of_eq h.size.symm, fun b _ hn => h.block b hn⟩
theorem Chg.alloc (w : World) (o : Obj) (S : Nat → Prop) : Chg w (w.alloc o) S := ⟨rfl, rfl, rfl, by simp, fun b hb _ => Below.heap_alloc w o b hb⟩
theorem Chg.grown {w w' : World} {v : Value} (h : w.grownBy w' v.ownBlock) : Chg w w' (· ∈ vblk v) := ⟨h.os, h.tape, h.output, h.size, fun b hb hn => h.block b hb (fun e => hn (by
  cases v <;> simp [Value.ownBlock] at e
  rename_i a _ _
  cases a <;> simp [Value.ownBlock] at e
  simp [vblk, e]))⟩
theorem Chg.setCell (w : World) (A : Addr) (u : Value) : Chg w (w.setCell A u) (· = A.block) := ⟨rfl, rfl, rfl, by simp [World.setCell], fun b _ hn => Below.heap_setCell w A u b hn⟩
theorem run_append_at {P : Program} (w : World) (t ty e : TypeId) (i : TypeInfo) (z : Value) (size bytes : Nat) (ht : P.underlying t = some (.slice e)) (hi : P.info? e = some i) (hz : i.zero = some z)
    (hsize : i.size = size) (hby : i.bytes = bytes) (hzs : z.cells.size = size) (hsz : 0 < size) (v : Value) (n : Nat) (xs : List Value) (hown : w.ownsRow 0 e size v n xs)
    (a : Addr) (m c : Nat) (news : List Value) (hl : news.length = m * size) (hnews : ∀ j u, news[j]? = some u → w.cell? (a.add j) = some u) (h1 : ∀ u ∈ news, u.oneCell' = true)
    (h63 : n + m ≤ maxLen) (hbytes : (n + m) * bytes ≤ 140737488355328) :
    ∃ v' w', (Builtin.append_ #[t, t] ty #[v, .slice (some a) m c]).run P w = .ok v' w' ∧ w'.ownsRow 0 e size v' (n + m) (xs ++ news) ∧ Chg w w' (· ∈ vblk v) ∧ (∀ b ∈ vblk v', b ∈ vblk v ∨ w.heap.size ≤ b) ∧ (∃ A n c, v' = .slice A n c) := by
  rcases hown.2 with ⟨rfl, rfl⟩ | ⟨g, cap, cur, rfl, hbg, hg, hnc, hcm, hcs, htake⟩
  · have hx : xs = [] := List.eq_nil_of_length_eq_zero (by simpa using hown.1)
    subst hx
    obtain ⟨v', w', r1, r2, r3, _⟩ := run_append_own (P := P) w w.heap.size t ty e i z size bytes ht hi hz hsize hby hzs hsz (.slice none 0 0) 0 [] (World.ownsRow_nil w _ e size) a m c news hl hnews h1 h63 hbytes (Nat.le_refl _)
    refine ⟨v', w', r1, ?_, Chg.grown r3, ?_, ?_⟩
    · obtain ⟨q1, q2⟩ := r2
      refine ⟨q1, ?_⟩
      rcases q2 with q | ⟨g, cap, cur, q, _, q3⟩
      · exact .inl q
      · exact .inr ⟨g, cap, cur, q, Nat.zero_le _, q3⟩
    · intro b hb
      rcases r2.2 with ⟨rfl, _⟩ | ⟨g, cap, cur, rfl, q, _⟩
      · simp [vblk] at hb
      · simp [vblk] at hb; subst hb; exact .inr q
    · rcases r2.2 with ⟨rfl, _⟩ | ⟨g, cap, cur, rfl, q, _⟩
      · exact ⟨_, _, _, rfl⟩
      · exact ⟨_, _, _, rfl⟩
  · by_cases hroom : n + m ≤ cap
    · obtain ⟨w', r1, r2, r3⟩ := run_append_fits (P := P) w 0 t ty e i size ht hi hsize g n cap xs hown a m c news hl hnews h1 hroom
      exact ⟨_, w', r1, r2, Chg.grown (v := .slice (some ⟨g, 0, none⟩) n cap) r3, fun b hb => .inl (by simpa [vblk] using hb), _, _, _, rfl⟩
    · obtain ⟨v', w', r1, r2, r3⟩ := run_append_arg_grows (P := P) w t ty e i z size bytes ht hi hz hsize hby hzs hsz ⟨g, 0, none⟩ n cap xs hown.1 (hown.cells (g := g) rfl) a m c news hl hnews (by omega) h63 hbytes
      refine ⟨v', w', r1, ?_, ⟨r3.os, r3.tape, r3.output, r3.size, fun b hb _ => r3.block b hb (by simp)⟩, ?_, ?_⟩
      · obtain ⟨q1, q2⟩ := r2
        refine ⟨q1, ?_⟩
        rcases q2 with q | ⟨g, cap, cur, q, _, q3⟩
        · exact .inl q
        · exact .inr ⟨g, cap, cur, q, Nat.zero_le _, q3⟩
      · intro b hb
        rcases r2.2 with ⟨rfl, _⟩ | ⟨g, cap, cur, rfl, q, _⟩
        · simp [vblk] at hb
        · simp [vblk] at hb; subst hb; exact .inr q
      · rcases r2.2 with ⟨rfl, _⟩ | ⟨g, cap, cur, rfl, q, _⟩
        · exact ⟨_, _, _, rfl⟩
        · exact ⟨_, _, _, rfl⟩
theorem step_append_at {P : Program} {ops : Array Oper} {o : Oper} {a : Act} {w : World} {K : Act → World → Prop} {Q : Exit → Act → World → Prop} {E : Prop}
    (hg : o.guard = none) (s x : Operand) (t : TypeId) (hop : o.op = Op.call { callee := Callee.builtin Builtin.append, args := #[s, x], argTypes := #[t, t] })
    (e : TypeId) (i : TypeInfo) (z : Value) (size bytes : Nat) (h1 : P.underlying t = some (.slice e)) (h2 : P.info? e = some i) (h3 : i.zero = some z) (h4 : i.size = size) (h5 : i.bytes = bytes) (h6 : z.cells.size = size) (h7 : 0 < size)
    (v : Value) (n : Nat) (xs : List Value) (hs : a.eval s = v) (hown : w.ownsRow 0 e size v n xs)
    (ad : Addr) (m c : Nat) (news : List Value) (hx : a.eval x = .slice (some ad) m c) (hn : news.length = m * size) (hc : ∀ j u, news[j]? = some u → w.cell? (ad.add j) = some u) (h1c : ∀ u ∈ news, u.oneCell' = true)
    (b1 : n + m ≤ maxLen) (b2 : (n + m) * bytes ≤ 140737488355328)
    (hK : ∀ v' w', w'.ownsRow 0 e size v' (n + m) (xs ++ news) → Chg w w' (· ∈ vblk v) → (∀ b ∈ vblk v', b ∈ vblk v ∨ w.heap.size ≤ b) → (∃ A n c, v' = .slice A n c) → K (a.put o.dst v') w') :
    if Region.wanted o (yielded ops a.tmps) = true then Oper.wp P o a w K Q else E := by
  refine step_open hg ?_
  obtain ⟨v', w', hrun, r1, r2, r3, r4⟩ := run_append_at (P := P) w t o.type e i z size bytes h1 h2 h3 h4 h5 h6 h7 v n xs hown ad m c news hn hc h1c b1 b2
  unfold Oper.wp
  simp [execOp, hop, resolve, invoke, builtin, hs, hx, hrun, Result.andThen]
  exact hK v' w' r1 r2 r3 r4
theorem own_stay {w w' : World} {e : TypeId} {size : Nat} {v : Value} {n : Nat} {xs : List Value} (h : w.ownsRow 0 e size v n xs) (hb : ∀ b ∈ vblk v, w'.heap[b]? = w.heap[b]?) : w'.ownsRow 0 e size v n xs := by
  refine ⟨h.1, ?_⟩
  rcases h.2 with q | ⟨g, cap, cur, rfl, q, hg, r⟩
  · exact .inl q
  · exact .inr ⟨g, cap, cur, rfl, q, (hb g (by simp [vblk])).trans hg, r⟩
theorem AllW.stay {w w' : World} {F F' : Nat → Prop} {ns ns' : List Nat} {k : Nat} (hF : ∀ b, F b → F' b) (hb : ∀ b, F b → b ∉ ns → w'.heap[b]? = w.heap[b]? ∧ b ∉ ns') : ∀ (Q : List (Nat × List UInt8)) (ds : List (Nat × Nat)), AllW w F ns k Q ds → AllW w' F' ns' k Q ds
  | q :: Q, x :: ds, h => ⟨⟨hF _ h.1.1, (hb _ h.1.1 h.1.2.1).2, h.1.2.2.1, h.1.2.2.2.1, h.1.2.2.2.2.1.congr (hb _ h.1.1 h.1.2.1).1, h.1.2.2.2.2.2⟩, AllW.stay hF hb Q ds h.2⟩
  | [], [], _ => trivial
  | q :: Q, [], h => h.elim
  | [], x :: ds, h => h.elim
theorem AllW.snoc {w : World} {F : Nat → Prop} {ns : List Nat} {k : Nat} {q : Nat × List UInt8} {x : Nat × Nat} (h1 : OneW w F ns k q x) : ∀ (Q : List (Nat × List UInt8)) (ds : List (Nat × Nat)), AllW w F ns k Q ds → AllW w F ns k (Q ++ [q]) (ds ++ [x])
  | _ :: Q, _ :: ds, h => ⟨h.1, AllW.snoc h1 Q ds h.2⟩
  | [], [], _ => ⟨h1, trivial⟩
  | _ :: _, [], h => h.elim
  | [], _ :: _, h => h.elim
theorem wCells_snoc (q : Nat × List UInt8) (x : Nat × Nat) : ∀ (Q : List (Nat × List UInt8)) (ds : List (Nat × Nat)), Q.length = ds.length → wCells (Q ++ [q]) (ds ++ [x]) = wCells Q ds ++ [.int .i64 (q.1 : Int), .slice (some ⟨x.1, 0, none⟩) 64 x.2]
  | _ :: Q, _ :: ds, h => by simp [wCells, wCells_snoc q x Q ds (by simpa using h)]
  | [], [], _ => rfl
  | _ :: _, [], h => by simp at h
  | [], _ :: _, h => by simp at h
theorem AllW.len {w : World} {F : Nat → Prop} {ns : List Nat} {k : Nat} : ∀ (Q : List (Nat × List UInt8)) (ds : List (Nat × Nat)), AllW w F ns k Q ds → Q.length = ds.length
  | _ :: Q, _ :: ds, h => by simp [AllW.len Q ds h.2]
  | [], [], _ => rfl
  | _ :: _, [], h => h.elim
  | [], _ :: _, h => h.elim
theorem dwrite_post {w w4 : World} {F : Nat → Prop} {d k lb cl tb ct : Nat} {vw v' : Value} {ds : List (Nat × Nat)} {L T : List UInt8} {Q : List (Nat × List UInt8)} (hd : DW w F d k lb cl tb ct vw ds L T Q)
    {T' bb : List UInt8} {i nb c : Nat} (hch : Chg w w4 (fun b => b = d ∨ b = tb ∨ b ∈ vblk vw)) (here : w4.heap[d]? = some (.cells #[.slice (some ⟨lb, 0, none⟩) (64 * k) cl, .slice (some ⟨tb, 0, none⟩) (64 * k) ct, v'] 71 (0, 0)))
    (hT : T'.length = 64 * k) (bt : BY w4 tb T' ct) (how : w4.ownsRow 0 74 2 v' (Q.length + 1) (wCells Q ds ++ [.int .i64 (i : Int), .slice (some ⟨nb, 0, none⟩) 64 c]))
    (hv : ∀ b ∈ vblk v', b ∈ vblk vw ∨ w.heap.size ≤ b) (hi : i < k) (hl : bb.length = 64) (hnb : w.heap.size ≤ nb) (hbb : BY w4 nb bb c) (hc : 64 ≤ c) (hne : nb ∉ vblk v') (hs4 : ∀ b ∈ vblk v', b < w4.heap.size) :
    ∃ F', DV w4 F' d k L T' (Q ++ [(i, bb)]) ∧ Upd w w4 F F' := by
  have hlt := hd.lt
  have hsz := hch.size
  have hnl := hbb.lt
  have hb : ∀ b, F b → b ≠ d → b ≠ tb → b ∉ vblk vw → w4.heap[b]? = w.heap[b]? := fun b h1 h2 h3 h4 => hch.block b (hlt b h1) (fun q => by rcases q with q | q | q <;> contradiction)
  have hdF := hlt d hd.fd
  have hlF := hlt lb hd.fl
  have htF := hlt tb hd.ft
  have hw4 : ∀ b ∈ vblk v', b ≠ d ∧ b ≠ lb ∧ b ≠ tb := by
    intro b hb
    rcases hv b hb with q | q
    · exact (hd.fw b q).2
    · refine ⟨?_, ?_, ?_⟩ <;> omega
  refine ⟨fun b => F b ∨ (w.heap.size ≤ b ∧ b < w4.heap.size), ⟨lb, cl, tb, ct, v', ds ++ [(nb, c)], ?_⟩, ⟨hch.os, hch.tape, hch.output, hsz, fun b hb hn => hch.block b hb (fun q => hn ?_), fun b hb => hb.imp id (·.1)⟩⟩
  · refine ⟨?_, here, .inl hd.fd, .inl hd.fl, .inl hd.ft, hd.dl, hd.dt, hd.lt', hd.hk, hd.Ll, hT, ?_, bt, hd.cl', hd.ct', ?_, ?_, ?_⟩
    · intro b hb
      rcases hb with q | q
      · exact Nat.lt_of_lt_of_le (hlt b q) hsz
      · exact q.2
    · exact hd.bl.congr (hb lb hd.fl hd.dl.symm hd.lt' (fun q => (hd.fw lb q).2.2.1 rfl))
    · rw [List.length_append, wCells_snoc _ _ _ _ (AllW.len _ _ hd.al)]
      exact how
    · intro b hb
      refine ⟨?_, hw4 b hb⟩
      rcases hv b hb with q | q
      · exact .inl (hd.fw b q).1
      · exact .inr ⟨q, hs4 b hb⟩
    · refine AllW.snoc ⟨.inr ⟨hnb, hnl⟩, ?_, hl, hi, hbb, hc⟩ _ _ (AllW.stay (fun b q => .inl q) (fun b q1 q2 => ?_) _ _ hd.al)
      · simp only [List.mem_cons, not_or]
        refine ⟨?_, ?_, ?_, hne⟩ <;> omega
      · simp only [List.mem_cons, not_or] at q2 ⊢
        refine ⟨hb b q1 q2.1 q2.2.2.1 q2.2.2.2, q2.1, q2.2.1, q2.2.2.1, fun q3 => ?_⟩
        rcases hv b q3 with q | q
        · exact q2.2.2.2 q
        · have := hlt b q1
          omega
  · rcases q with rfl | rfl | q
    · exact hd.fd
    · exact hd.ft
    · exact (hd.fw b q).1
theorem own_lt {w : World} {e : TypeId} {size : Nat} {v : Value} {n : Nat} {xs : List Value} (h : w.ownsRow 0 e size v n xs) : ∀ b ∈ vblk v, b < w.heap.size := by
  intro b hb
  rcases h.2 with ⟨rfl, _⟩ | ⟨g, cap, cur, rfl, q, hg, r⟩
  · simp [vblk] at hb
  · simp [vblk] at hb
    subst hb
    exact (Array.getElem?_eq_some_iff.1 hg).1
theorem dwrite_end {w w1 w2 w3 : World} {F : Nat → Prop} {d k lb cl tb ct : Nat} {vw v' : Value} {ds : List (Nat × Nat)} {L T : List UInt8} {Q : List (Nat × List UInt8)} (hd : DW w F d k lb cl tb ct vw ds L T Q)
    {T' bb : List UInt8} {i nb c : Nat} {O : Obj} (ch1 : Chg w w1 (· = tb)) (hb1 : BY w1 tb T' ct) (ch2 : Chg w1 w2 (fun _ => False)) (ch3 : Chg (w2.alloc O) w3 (· ∈ vblk vw))
    (here3 : w3.heap[d]? = some (.cells #[.slice (some ⟨lb, 0, none⟩) (64 * k) cl, .slice (some ⟨tb, 0, none⟩) (64 * k) ct, vw] 71 (0, 0)))
    (hT : T'.length = 64 * k) (how : w3.ownsRow 0 74 2 v' (Q.length + 1) (wCells Q ds ++ [.int .i64 (i : Int), .slice (some ⟨nb, 0, none⟩) 64 c]))
    (hv : ∀ b ∈ vblk v', b ∈ vblk vw ∨ (w2.alloc O).heap.size ≤ b) (hi : i < k) (hl : bb.length = 64) (hnb : w1.heap.size ≤ nb) (hbb : BY w2 nb bb c) (hc : 64 ≤ c) :
    ∃ F', DV (w3.setCell ⟨d, 2, none⟩ v') F' d k L T' (Q ++ [(i, bb)]) ∧ Upd w (w3.setCell ⟨d, 2, none⟩ v') F F' := by
  have hs1 := ch1.size
  have hs2 := ch2.size
  have hs3 : (w2.alloc O).heap.size = w2.heap.size + 1 := by simp
  have hnl := hbb.lt
  have hfw := hd.fw
  have hlt := hd.lt
  have hvl : ∀ b ∈ vblk vw, b < w1.heap.size := fun b hb => Nat.lt_of_lt_of_le (hlt b (hfw b hb).1) hs1
  have ch12 : Chg w1 w3 (· ∈ vblk vw) := ((ch2.trans (Chg.alloc w2 O _)).mono (fun _ q => q.elim)).trans ch3
  have hdl := hlt d hd.fd
  have htl := hlt tb hd.ft
  have hdv : d ∉ vblk vw := fun q => (hfw d q).2.1 rfl
  have htv : tb ∉ vblk vw := fun q => (hfw tb q).2.2.2 rfl
  have hvn : d ∉ vblk v' := fun q => by rcases hv d q with q | q; exact hdv q; omega
  refine dwrite_post hd (nb := nb) (c := c) ?_ ?_ hT ?_ (own_stay how (fun b hb => Below.heap_setCell _ _ _ _ (fun e => hvn ((show b = d from e) ▸ hb)))) ?_ hi hl (by omega) ?_ hc ?_ ?_
  · exact ((ch1.mono (S' := fun b => b = d ∨ b = tb ∨ b ∈ vblk vw) (fun b q => .inr (.inl q))).trans (ch12.mono (fun b q => .inr (.inr q)))).trans ((Chg.setCell w3 ⟨d, 2, none⟩ v').mono (fun b q => .inl q))
  · rw [heap_setCell_same w3 d 2 _ 71 v' here3]; rfl
  · exact (hb1.congr (ch12.block tb (by omega) htv)).congr (Below.heap_setCell _ _ _ _ (fun e => hd.dt e.symm))
  · intro b hb
    rcases hv b hb with q | q
    · exact .inl q
    · exact .inr (by omega)
  · refine (((hbb.congr (Below.heap_alloc w2 O nb hnl)).congr (ch3.block nb (by omega) (fun q => ?_)))).congr (Below.heap_setCell _ _ _ _ (fun e => ?_))
    · have := hvl nb q; omega
    · have e' : nb = d := e
      omega
  · intro q
    rcases hv nb q with q | q
    · have := hvl nb q; omega
    · omega
  · intro b hb
    have := own_lt how b hb
    simpa [World.setCell] using this
theorem cells_at_new (w : World) (e : TypeId) (xs : List Value) : ∀ j u, xs[j]? = some u → (w.alloc (.cells xs.toArray e)).cell? ((⟨w.heap.size, 0, none⟩ : Addr).add j) = some u := by
  intro j u hu
  rw [add_none, cell_of_row _ _ _ _ e (0, 0) (heap_alloc_new w _)]
  simpa using hu
theorem Try.dwrite (w : World) (F : Nat → Prop) (d k lb cl tb ct : Nat) (vw : Value) (ds : List (Nat × Nat)) (L T : List UInt8) (Q : List (Nat × List UInt8)) (hd : DW w F d k lb cl tb ct vw ds L T Q)
    (i : Nat) (hi : i < k) (A : Addr) (m : Nat) (bb : List UInt8) (hl : bb.length = 64) (hc : ∀ j u, (bb.map u8v)[j]? = some u → w.cell? (A.add j) = some u) (hA : ¬ F A.block) (hQ : Q.length ≤ 1000000) :
    Calls Try.prog 13 #[.pointer (some ⟨d, 0, none⟩), .int .i64 i, .slice (some A) 64 m] w fun e w' => e = .returned (.int .i64 0) ∧ ∃ F', DV w' F' d k L (T.take (64 * i) ++ (bb ++ T.drop (64 * i + 64))) (Q ++ [(i, bb)]) ∧ Upd w w' F F' := by
  have c0 : w.cell? ⟨d, 0, none⟩ = some (.slice (some ⟨lb, 0, none⟩) (64 * k) cl) := by rw [cell_of_row w d 0 _ 71 (0, 0) hd.here]; rfl
  have c1 : w.cell? ⟨d, 1, none⟩ = some (.slice (some ⟨tb, 0, none⟩) (64 * k) ct) := by rw [cell_of_row w d 1 _ 71 (0, 0) hd.here]; rfl
  have hk := hd.hk
  have hct := hd.ct'
  have h16 : 64 * k ≤ 65536 := by omega
  have hik : (i : Int) < (64 * k : Nat) / 64 := by omega
  have hin : i < 64 * k / 64 := by omega
  have g1 := Lib.hid hd.bt
  have hT := hd.Tl
  have h5 : (Try.prog.info? 5).map (·.size) = some 1 := by kernel_rfl
  have HD := Lib.hid hd
  have HL := Lib.hid hl
  have HT := Lib.hid hT
  clear hd hl hT
  go_enter Try.func13, Try.ntmps13
  go_wp2_with (first
    | (go_at_call 37; refine (Try.has_yes _ _ _ _ _ h16 (by omega) hik _ c1).mono ?_; rintro e w' ⟨rfl, rfl⟩)
    | (go_at_call 38; refine (Try.at _ _ _ _ _ h16 hin hct _).mono ?_; rintro e w' ⟨rfl, rfl⟩)
    | (with_reducible refine wpList_copy_by rfl (.tmp 21) (.tmp 22) 31 31 rfl Try.underlying31 h5 tb (i * 64) ct T 64 _ A m bb rfl rfl g1.out HL.out hc (by rw [HT.out]; omega) ?_))
  intro w1 hb1 ho1
  have hdt := (HD.out).dt
  have d2 : w1.cell? ⟨d, 2, none⟩ = some vw := by
    rw [ho1.cell (A := ⟨d, 2, none⟩) hdt, cell_of_row w d 2 _ 71 (0, 0) (HD.out).here]; rfl
  have hc1 := ho1.cells (A := A) (fun e => hA (e ▸ (HD.out).ft)) hc
  have hs1 := ho1.size
  have hdlt : d < w1.heap.size := by rw [hs1]; exact (HD.out).lt d (HD.out).fd
  clear hc c0 c1 hs1
  obtain ⟨i0, hi74, hz0, hz1, hz2⟩ := info_parts Try.info74
  go_wp2
  have how1 : w1.ownsRow 0 74 2 vw Q.length (wCells Q ds) := own_stay (HD.out).ow (fun b hb => ho1.block b ((HD.out).fw b hb).2.2.2)
  have hb63 : Q.length + 1 ≤ maxLen := by unfold maxLen; omega
  have hc1d : ∀ j u, (bb.map u8v)[j]? = some u → w1.drew.cell? (A.add j) = some u := hc1
  clear hc1
  have here1 : Hid (w1.heap[d]? = some (.cells #[.slice (some ⟨lb, 0, none⟩) (64 * k) cl, .slice (some ⟨tb, 0, none⟩) (64 * k) ct, vw] 71 (0, 0))) := Lib.hid ((ho1.block d hdt).trans (HD.out).here)
  have hvl : ∀ b ∈ vblk vw, b < w1.heap.size := fun b hb => by rw [ho1.size]; exact (HD.out).lt b ((HD.out).fw b hb).1
  have hvd : d ∉ vblk vw := fun q => ((HD.out).fw d q).2.1 rfl
  go_region_law (first
    | (refine step_open rfl ?_; go_simp; go_at_call 39; refine (Try.clone A 64 m _ (by omega) bb HL.out hc1d).mono ?_; rintro e w2 ⟨nb, c, rfl, hn, hnc, hby, hbel⟩
       have ch2 : Chg w1 w2 (fun _ => False) := (Chg.below hbel _).ofDrew
       have e2 : w2.cell? ⟨d, 2, none⟩ = some vw := (World.cell?_of_block (w := w1) (ch2.block d hdlt id)).trans d2
       have e2a : ∀ o, (w2.alloc o).cell? ⟨d, 2, none⟩ = some vw := fun o => (World.cell?_of_block (w := w1) ((ch2.trans (Chg.alloc w2 o _)).block d hdlt id)).trans d2
       clear hbel)
    | (refine step_append_at rfl (.tmp 28) (.tmp 33) 69 rfl 74 i0 (.agg #[.int .i64 0, .slice none 0 0]) 2 32 Try.underlying69 hi74 hz0 hz1 hz2 rfl (by decide) vw Q.length (wCells Q ds) rfl (own_stay how1 (fun b hb => (ch2.trans (Chg.alloc w2 _ _)).block b (hvl b hb) id)) _ 1 1 [.int .i64 (i : Int), .slice (some ⟨nb, 0, none⟩) 64 c] rfl rfl (cells_at_new w2 74 _) (by simp [Value.oneCell']) hb63 (by omega) ?_
       intro v' w3 how3 ch3 hv3 hvs
       obtain ⟨A', n', c', rfl⟩ := hvs
       have here3 : w3.heap[d]? = some (.cells #[.slice (some ⟨lb, 0, none⟩) (64 * k) cl, .slice (some ⟨tb, 0, none⟩) (64 * k) ct, vw] 71 (0, 0)) := ((((ch2.trans (Chg.alloc w2 _ _)).mono (fun _ q => q.elim)).trans ch3).block d hdlt hvd).trans here1.out
       have c3 : w3.cell? ⟨d, 2, none⟩ = some vw := by rw [cell_of_row w3 d 2 _ 71 (0, 0) here3]; rfl
       have f3 := frozen_of_row w3 d 2 _ 71 here3
       have HH3 := Lib.hid here3
       clear here3))
  all_goals
    clear e2a e2 c3 f3
    go_wp2
    go_ret
    refine ⟨rfl, ?_⟩
    rw [Nat.mul_comm 64 i]
    exact dwrite_end HD.out (Chg.only ho1) hb1 ch2 ch3 HH3.out (by rw [← HT.out, ← HL.out, splice_len _ _ _ (by rw [HT.out, HL.out]; omega)]) how3 hv3 hi HL.out hn hby hnc
end Go.Proofs
end

section
namespace Go.Proofs
open Go.RowKit
set_option maxRecDepth 100000
theorem cells_of_eq {w w' : World} {A : Addr} {xs : List Value} (h : ∀ j u, xs[j]? = some u → w.cell? (A.add j) = some u) (hb : A.block < w.heap.size → w'.heap[A.block]? = w.heap[A.block]?) : ∀ j u, xs[j]? = some u → w'.cell? (A.add j) = some u := by
  intro j u hu
  have h1 := h j u hu
  have h2 := block_lt_of_cell h1
  have e : (A.add j).block = A.block := by unfold Addr.add; split <;> rfl
  exact (World.cell?_of_block (w := w) (by rw [e] at h2 ⊢; exact hb h2)).trans h1
theorem cells_below {w w' : World} {A : Addr} {xs : List Value} (h : ∀ j u, xs[j]? = some u → w.cell? (A.add j) = some u) (hb : Below w.heap.size w w') : ∀ j u, xs[j]? = some u → w'.cell? (A.add j) = some u :=
  cells_of_eq h (fun q => hb.block _ q)
theorem DW.c0 {w : World} {F : Nat → Prop} {d k lb cl tb ct : Nat} {vw : Value} {ds : List (Nat × Nat)} {L T : List UInt8} {Q : List (Nat × List UInt8)} (hd : DW w F d k lb cl tb ct vw ds L T Q) : w.cell? ⟨d, 0, none⟩ = some (.slice (some ⟨lb, 0, none⟩) (64 * k) cl) := by
  rw [cell_of_row w d 0 _ 71 (0, 0) hd.here]; rfl
theorem DW.c1 {w : World} {F : Nat → Prop} {d k lb cl tb ct : Nat} {vw : Value} {ds : List (Nat × Nat)} {L T : List UInt8} {Q : List (Nat × List UInt8)} (hd : DW w F d k lb cl tb ct vw ds L T Q) : w.cell? ⟨d, 1, none⟩ = some (.slice (some ⟨tb, 0, none⟩) (64 * k) ct) := by
  rw [cell_of_row w d 1 _ 71 (0, 0) hd.here]; rfl
theorem DW.c2 {w : World} {F : Nat → Prop} {d k lb cl tb ct : Nat} {vw : Value} {ds : List (Nat × Nat)} {L T : List UInt8} {Q : List (Nat × List UInt8)} (hd : DW w F d k lb cl tb ct vw ds L T Q) : w.cell? ⟨d, 2, none⟩ = some vw := by
  rw [cell_of_row w d 2 _ 71 (0, 0) hd.here]; rfl
theorem own_slice {w : World} {e : TypeId} {size : Nat} {v : Value} {n : Nat} {xs : List Value} (h : w.ownsRow 0 e size v n xs) : ∃ A c, v = .slice A n c := by
  rcases h.2 with ⟨rfl, rfl⟩ | ⟨g, cap, cur, rfl, q, hg, r⟩
  · exact ⟨_, _, rfl⟩
  · exact ⟨_, _, rfl⟩
def NewDev (w : World) (k : Nat) (l : List UInt8) (v : Value) (w' : World) : Prop := ∃ d F, v = .pointer (some ⟨d, 0, none⟩) ∧ DV w' F d k l l [] ∧ Below w.heap.size w w' ∧ ∀ b, F b → w.heap.size ≤ b
theorem newdev_of {w w1 w2 : World} {k : Nat} (hk : k ≤ 1024) {l : List UInt8} (hl : l.length = 64 * k) {b1 c1 b2 c2 : Nat} (h1 : w.heap.size ≤ b1) (hc1 : 64 * k ≤ c1) (hb1 : BY w1 b1 l c1) (hw1 : Below w.heap.size w w1)
    (h2 : w1.heap.size ≤ b2) (hc2 : 64 * k ≤ c2) (hb2 : BY w2 b2 l c2) (hw2 : Below w1.heap.size w1 w2) :
    NewDev w k l (.pointer (some ⟨w2.heap.size, 0, none⟩)) (w2.alloc (.cells #[.slice (some ⟨b1, 0, none⟩) (64 * k) c1, .slice (some ⟨b2, 0, none⟩) (64 * k) c2, .slice none 0 0] 71)) := by
  have s1 := hw1.size
  have s2 := hw2.size
  have l1 := hb1.lt
  have l2 := hb2.lt
  refine ⟨w2.heap.size, fun b => w.heap.size ≤ b ∧ b ≤ w2.heap.size, rfl, ⟨b1, c1, b2, c2, .slice none 0 0, [], ?_⟩, ?_, fun b h => h.1⟩
  · refine ⟨?_, heap_alloc_new _ _, ⟨by omega, Nat.le_refl _⟩, ⟨h1, by omega⟩, ⟨by omega, by omega⟩, by omega, by omega, by omega, hk, hl, hl, ?_, ?_, hc1, hc2, World.ownsRow_nil _ _ _ _, ?_, trivial⟩
    · intro b hb; simp; omega
    · exact (hb1.congr (hw2.block b1 l1)).congr (Below.heap_alloc _ _ _ (by omega))
    · exact hb2.congr (Below.heap_alloc _ _ _ (by omega))
    · intro b hb; simp [vblk] at hb
  · exact (hw1.trans (hw2.mono s1)).alloc (by omega) _
theorem Try.of (A : Addr) (k m : Nat) (hk : k ≤ 1024) (w : World) (l : List UInt8) (hl : l.length = 64 * k) (hc : ∀ j u, (l.map u8v)[j]? = some u → w.cell? (A.add j) = some u) :
    Calls Try.prog 36 #[.slice (some A) (64 * k) m] w fun e w' => ∃ v, e = .returned v ∧ NewDev w k l v w' := by
  have HL := Lib.hid hl
  clear hl
  go_enter Try.func36, Try.ntmps36
  go_wp2_with fail
  refine (Try.clone A (64 * k) m w (by omega) l HL.out hc).mono ?_
  rintro e w1 ⟨b1, c1, rfl, h1, hc1, hb1, hw1⟩
  have hc' := cells_below hc hw1
  clear hc
  go_wp2_with fail
  refine (Try.clone A (64 * k) m w1 (by omega) l HL.out hc').mono ?_
  rintro e w2 ⟨b2, c2, rfl, h2, hc2, hb2, hw2⟩
  have H := Lib.hid (newdev_of hk HL.out h1 hc1 hb1 hw1 h2 hc2 hb2 hw2)
  clear hc' hb1 hb2 hw1 hw2 hc1 hc2 h1 h2
  go_wp2
  go_ret
  exact ⟨_, rfl, H.out⟩
def NewGood (w : World) (k : Nat) (e : Ending) (w' : World) : Prop := ∃ v, e = .returned (.tuple #[v, .int .i64 0]) ∧ NewDev w k (List.replicate (64 * k) 0) v w'
theorem made_u8 (n : Nat) : (madeCells #[Value.int .u8 0] n).toList = (List.replicate n (0 : UInt8)).map u8v := by
  rw [toList_madeCells_one]
  simp [u8v]
theorem Try.new_good (k : Nat) (h4 : 4 ≤ k) (hk : k ≤ 1024) (w : World) : Calls Try.prog 11 #[.int .i64 k] w (NewGood w k) := by
  obtain ⟨i0, hi, hz0, hz1, hz2⟩ := info_parts Try.info5
  have h1 : decide ((k : Nat) < 4) = false := by simp; omega
  have h2 : decide (1024 < (k : Nat)) = false := by simp; omega
  have h3 : ¬ ((k : Nat) < 4) := by omega
  have h5 : ¬ (1024 < (k : Nat)) := by omega
  have hb2 : i0.bytes * (64 * k) ≤ 281474976710656 := by rw [hz2]; omega
  go_enter Try.func11, Try.ntmps11
  go_wp2_with (at_make; refine wpList_make_full w rfl _ _ 31 rfl w.heap.size 5 i0 (.int .u8 0) 1 Try.underlying31 hi hz0 hz1 _ _ _ _ (64 * k) rfl rfl (by omega) (by omega) hb2 (by unfold maxLen; omega) (Nat.le_refl _) ?_)
  intro w1 hown hg
  rw [made_u8] at hown
  obtain ⟨hl, b, c, he, hb, hc, hby⟩ := BY.own hown (by simp)
  obtain ⟨rfl, rfl⟩ : w.heap.size = b ∧ 64 * k = c := by simpa using he
  have hbel : Below w.heap.size w w1 := (Below.refl _ w).grown hg (Nat.le_refl _) (fun k hk => by simp at hk)
  have hby' := hby.all
  have HL := Lib.hid hl
  clear hg hown he hl hby hb hc
  go_wp2_with fail
  refine (Try.of _ k _ hk _ _ HL.out hby').mono ?_
  rintro e w2 ⟨v, rfl, d, F, rfl, h2, h3, h4⟩
  have H : Hid (NewGood w k (.returned (.tuple #[.pointer (some ⟨d, 0, none⟩), .int .i64 0])) w2) := ⟨_, rfl, d, F, rfl, h2, hbel.trans (h3.mono hbel.size), fun b hb => Nat.le_trans hbel.size (h4 b hb)⟩
  clear h2 h3 h4 hbel hby'
  go_wp2
  go_ret2
  exact H.out
def ReadGood (w : World) (l : List UInt8) (e : Ending) (w' : World) : Prop := ∃ b c, e = .returned (.tuple #[.slice (some ⟨b, 0, none⟩) 64 c, .int .i64 0]) ∧ w.heap.size ≤ b ∧ 64 ≤ c ∧ BY w' b l c ∧ Below w.heap.size w w'
theorem Try.read_good {w : World} {F : Nat → Prop} {d k lb cl tb ct : Nat} {vw : Value} {ds : List (Nat × Nat)} {L T : List UInt8} {Q : List (Nat × List UInt8)} (hd : DW w F d k lb cl tb ct vw ds L T Q) (i : Nat) (hi : i < k) :
    Calls Try.prog 21 #[.pointer (some ⟨d, 0, none⟩), .int .i64 i] w (ReadGood w ((T.drop (i * 64)).take 64)) := by
  have c1 := hd.c1
  have hk := hd.hk
  have hct := hd.ct'
  have h16 : 64 * k ≤ 65536 := by omega
  have hik : (i : Int) < (64 * k : Nat) / 64 := by omega
  have hin : i < 64 * k / 64 := by omega
  have hTl := hd.Tl
  have hw := hd.bt.win (i * 64) 64 (by omega)
  have hl : ((T.drop (i * 64)).take 64).length = 64 := by simp; omega
  have HL := Lib.hid hl
  clear hl hTl
  go_enter Try.func21, Try.ntmps21
  go_wp2_with (first
    | (go_at_call 37; refine (Try.has_yes _ _ _ _ _ h16 (by omega) hik _ c1).mono ?_; rintro e w' ⟨rfl, rfl⟩)
    | (go_at_call 38; refine (Try.at _ _ _ _ _ h16 hin hct _).mono ?_; rintro e w' ⟨rfl, rfl⟩))
  refine (Try.clone _ 64 _ w (by omega) _ HL.out (by simpa using hw)).mono ?_
  rintro e w1 ⟨b1, c1', rfl, h1, hc1, hb1, hw1⟩
  have H : Hid (ReadGood w ((T.drop (i * 64)).take 64) (.returned (.tuple #[.slice (some ⟨b1, 0, none⟩) 64 c1', .int .i64 0])) w1) := ⟨b1, c1', rfl, h1, hc1, hb1, hw1⟩
  clear h1 hc1 hb1 hw1
  go_wp2
  go_ret2
  exact H.out
theorem Try.bytes {w : World} {F : Nat → Prop} {d k lb cl tb ct : Nat} {vw : Value} {ds : List (Nat × Nat)} {L T : List UInt8} {Q : List (Nat × List UInt8)} (hd : DW w F d k lb cl tb ct vw ds L T Q) :
    Calls Try.prog 26 #[.pointer (some ⟨d, 0, none⟩)] w (Cloned w (64 * k) T) := by
  have c1 := hd.c1
  have hk := hd.hk
  have hw := hd.bt.all
  have HL := Lib.hid hd.Tl
  go_enter Try.func26, Try.ntmps26
  go_wp2_with fail
  refine (Try.clone _ (64 * k) _ w (by omega) _ HL.out hw).mono ?_
  rintro e w1 ⟨b1, c1', rfl, h1, hc1, hb1, hw1⟩
  have H : Hid (Cloned w (64 * k) T (.returned (.slice (some ⟨b1, 0, none⟩) (64 * k) c1')) w1) := ⟨b1, c1', rfl, h1, hc1, hb1, hw1⟩
  clear h1 hc1 hb1 hw1
  go_wp2
  go_ret
  exact H.out
end Go.Proofs
end

section
namespace Go.Proofs
open Go.RowKit
set_option maxRecDepth 100000
theorem BY.set {w : World} {b : Nat} {l : List UInt8} {c : Nat} (h : BY w b l c) (j : Nat) (hj : j < l.length) (x : UInt8) : BY (w.setCell ⟨b, j, none⟩ (u8v x)) b (l.set j x) c := by
  obtain ⟨pad, g1, g2, g3⟩ := h
  refine ⟨pad, ?_, by simpa using g2, g3⟩
  rw [heap_setCell_same w b j _ 5 (u8v x) g1]
  congr 2
  apply Array.ext'
  simp [List.set_append, hj, List.map_set]
def FullRel (w : World) (x : UInt8) (j : Nat) (wr : World) : Prop := BY wr w.heap.size (List.replicate j x ++ List.replicate (64 - j) 0) 64 ∧ Below w.heap.size w wr
theorem AllW.get {w : World} {F : Nat → Prop} {ns : List Nat} {k : Nat} : ∀ (Q : List (Nat × List UInt8)) (ds : List (Nat × Nat)), AllW w F ns k Q ds → ∀ j (h : j < Q.length), ∃ x, ds[j]? = some x ∧ OneW w F ns k (Q[j]) x ∧ (wCells Q ds)[2 * j]? = some (.int .i64 ((Q[j]).1 : Int)) ∧ (wCells Q ds)[2 * j + 1]? = some (.slice (some ⟨x.1, 0, none⟩) 64 x.2)
  | q :: Q, x :: ds, h, 0, _ => ⟨x, rfl, h.1, rfl, rfl⟩
  | q :: Q, x :: ds, h, j + 1, hj => by
    obtain ⟨y, h1, h2, h3, h4⟩ := AllW.get Q ds h.2 j (by simpa using hj)
    exact ⟨y, by simpa using h1, by simpa using h2, by simpa [wCells, Nat.mul_add] using h3, by simpa [wCells, Nat.mul_add] using h4⟩
  | [], _, _, j, hj => by simp at hj
  | q :: Q, [], h, j, hj => h.elim
end Go.Proofs
end

section
namespace Go.Proofs
open Go.RowKit
set_option maxRecDepth 100000
def strOf (l : List UInt8) : ByteArray := ⟨l.toArray⟩
theorem strOf_size (l : List UInt8) : (strOf l).size = l.length := by simp [strOf, ByteArray.size]
theorem BY.bytes {w : World} {b : Nat} {l : List UInt8} {c : Nat} (h : BY w b l c) : Lib.Bytes w b 0 (strOf l) := by
  intro i hi
  rw [Nat.zero_add]
  have hi' : i < l.length := by rw [strOf_size] at hi; exact hi
  rw [h.cell i hi']
  rfl
theorem BY.str {w : World} {b : Nat} {l : List UInt8} {c : Nat} (h : BY w b l c) (n : Nat) (hn : l.length = n) (m : Nat) : (convert 31 9 (.slice (some ⟨b, 0, none⟩) n m)).run Try.prog w = .ok (.string (strOf l)) w := by
  subst hn
  have := Lib.run_convert_whole (P := Try.prog) w 31 5 9 Try.underlying31 Try.underlying5 Try.underlying9 b 0 (strOf l) h.bytes m
  rw [strOf_size] at this
  exact this
theorem step_want {P : Program} {ops : Array Oper} {o : Oper} {a : Act} {w : World} {K : Act → World → Prop} {Q : Exit → Act → World → Prop} {E : Prop} (hw : Region.wanted o (yielded ops a.tmps) = true) (h : Oper.wp P o a w K Q) :
    if Region.wanted o (yielded ops a.tmps) = true then Oper.wp P o a w K Q else E := by
  rw [if_pos hw]
  exact h
theorem win_same (T bb : List UInt8) (i k : Nat) (hT : T.length = 64 * k) (hi : i < k) (hb : bb.length = 64) : ((T.take (64 * i) ++ (bb ++ T.drop (64 * i + 64))).drop (i * 64)).take 64 = bb := by
  have h1 : (T.take (64 * i)).length = i * 64 := by simp; omega
  rw [List.drop_append_of_le_length (by omega), List.drop_of_length_le (by omega), List.nil_append, List.take_append_of_le_length (by omega), List.take_of_length_le (by omega)]
theorem win_rep (n i k : Nat) (x : UInt8) (hi : i < k) : ((List.replicate (64 * k) x).drop (i * 64)).take 64 = List.replicate 64 x := by
  rw [List.drop_replicate, List.take_replicate]
  congr 1
  omega
theorem DW.keep {w w' : World} {F S : Nat → Prop} {d k lb cl tb ct : Nat} {vw : Value} {ds : List (Nat × Nat)} {L T : List UInt8} {Q : List (Nat × List UInt8)} (hd : DW w F d k lb cl tb ct vw ds L T Q) (hc : Chg w w' S) (hS : ∀ b, F b → ¬ S b) :
    DW w' F d k lb cl tb ct vw ds L T Q := by
  have hb : ∀ b, F b → w'.heap[b]? = w.heap[b]? := fun b h => hc.block b (hd.lt b h) (hS b h)
  exact ⟨fun b h => Nat.lt_of_lt_of_le (hd.lt b h) hc.size, (hb d hd.fd).trans hd.here, hd.fd, hd.fl, hd.ft, hd.dl, hd.dt, hd.lt', hd.hk, hd.Ll, hd.Tl, hd.bl.congr (hb lb hd.fl), hd.bt.congr (hb tb hd.ft), hd.cl', hd.ct', own_stay hd.ow (fun b h => hb b (hd.fw b h).1), hd.fw, AllW.stay (fun b q => q) (fun b q1 q2 => ⟨hb b q1, q2⟩) _ _ hd.al⟩
end Go.Proofs
end

section
namespace Go.Proofs
open Go.RowKit
set_option maxRecDepth 100000
theorem Try.info76 : (Try.prog.info? 76).map (fun i => (i.zero, i.size, i.bytes)) = some (some (.agg #[.int .i64 0, .slice none 0 0]), 2, 32) := by kernel_rfl
structure RW (w : World) (F : Nat → Prop) (m k db dc : Nat) (A : Option Addr) (wc : Nat) (ds : List (Nat × Nat)) (D : List UInt8) (Q : List (Nat × List UInt8)) : Prop where
  lt : ∀ b, F b → b < w.heap.size
  here : w.heap[m]? = some (.cells #[.slice (some ⟨db, 0, none⟩) (64 * k) dc, .slice A Q.length wc] 60 (0, 0))
  fm : F m
  fd : F db
  md : m ≠ db
  hk : k ≤ 1024
  Dl : D.length = 64 * k
  bd : BY w db D dc
  dc' : 64 * k ≤ dc
  aw : (A = none ∧ Q = [] ∧ wc = 0) ∨ ∃ b, A = some ⟨b, 0, none⟩ ∧ F b ∧ b ≠ m ∧ Q.length ≤ wc ∧ ∀ i u, (wCells Q ds)[i]? = some u → w.cell? ⟨b, i, none⟩ = some u
  al : AllW w F [m] k Q ds
def RV (w : World) (F : Nat → Prop) (m k : Nat) (D : List UInt8) (Q : List (Nat × List UInt8)) : Prop := ∃ db dc A wc ds, RW w F m k db dc A wc ds D Q
theorem RW.c0 {w : World} {F : Nat → Prop} {m k db dc wc : Nat} {A : Option Addr} {ds : List (Nat × Nat)} {D : List UInt8} {Q : List (Nat × List UInt8)} (h : RW w F m k db dc A wc ds D Q) : w.cell? ⟨m, 0, none⟩ = some (.slice (some ⟨db, 0, none⟩) (64 * k) dc) := by
  rw [cell_of_row w m 0 _ 60 (0, 0) h.here]; rfl
theorem RW.c1 {w : World} {F : Nat → Prop} {m k db dc wc : Nat} {A : Option Addr} {ds : List (Nat × Nat)} {D : List UInt8} {Q : List (Nat × List UInt8)} (h : RW w F m k db dc A wc ds D Q) : w.cell? ⟨m, 1, none⟩ = some (.slice A Q.length wc) := by
  rw [cell_of_row w m 1 _ 60 (0, 0) h.here]; rfl
theorem RW.keep {w w' : World} {F S : Nat → Prop} {m k db dc wc : Nat} {A : Option Addr} {ds : List (Nat × Nat)} {D : List UInt8} {Q : List (Nat × List UInt8)} (h : RW w F m k db dc A wc ds D Q) (hc : Chg w w' S) (hS : ∀ b, F b → ¬ S b) : RW w' F m k db dc A wc ds D Q := by
  have hb : ∀ b, F b → w'.heap[b]? = w.heap[b]? := fun b q => hc.block b (h.lt b q) (hS b q)
  refine ⟨fun b q => Nat.lt_of_lt_of_le (h.lt b q) hc.size, (hb m h.fm).trans h.here, h.fm, h.fd, h.md, h.hk, h.Dl, h.bd.congr (hb db h.fd), h.dc', ?_, AllW.stay (fun b q => q) (fun b q1 q2 => ⟨hb b q1, q2⟩) _ _ h.al⟩
  rcases h.aw with q | ⟨b, q1, q2, q3, q4, q5⟩
  · exact .inl q
  · exact .inr ⟨b, q1, q2, q3, q4, fun i u hu => (World.cell?_of_block (w := w) (a := ⟨b, i, none⟩) (hb b q2)).trans (q5 i u hu)⟩
theorem Try.rblocks (m n c : Nat) (a : Option Addr) (hn : n ≤ 65536) (w : World) (hc : w.cell? ⟨m, 0, none⟩ = some (.slice a n c)) :
    Calls Try.prog 40 #[.pointer (some ⟨m, 0, none⟩)] w fun e w' => e = .returned (.int .i64 ((n / 64 : Nat) : Int)) ∧ w = w' := by
  go_enter Try.func40, Try.ntmps40
  go_wp2
  go_ret
  exact ⟨rfl, rfl⟩
def NewRef (w : World) (k : Nat) (l : List UInt8) (v : Value) (w' : World) : Prop := ∃ m F, v = .pointer (some ⟨m, 0, none⟩) ∧ RV w' F m k l [] ∧ Below w.heap.size w w' ∧ ∀ b, F b → w.heap.size ≤ b
theorem newref_of {w w1 : World} {k : Nat} (hk : k ≤ 1024) {l : List UInt8} (hl : l.length = 64 * k) {b1 c1 : Nat} (h1 : w.heap.size ≤ b1) (hc1 : 64 * k ≤ c1) (hb1 : BY w1 b1 l c1) (hw1 : Below w.heap.size w w1) :
    NewRef w k l (.pointer (some ⟨w1.heap.size, 0, none⟩)) (w1.alloc (.cells #[.slice (some ⟨b1, 0, none⟩) (64 * k) c1, .slice none 0 0] 60)) := by
  have s1 := hw1.size
  have l1 := hb1.lt
  refine ⟨w1.heap.size, fun b => w.heap.size ≤ b ∧ b ≤ w1.heap.size, rfl, ⟨b1, c1, none, 0, [], ?_⟩, hw1.alloc (by omega) _, fun b h => h.1⟩
  refine ⟨fun b hb => by simp; omega, heap_alloc_new _ _, ⟨by omega, Nat.le_refl _⟩, ⟨h1, by omega⟩, by omega, hk, hl, hb1.congr (Below.heap_alloc _ _ _ (by omega)), hc1, .inl ⟨rfl, rfl, rfl⟩, trivial⟩
theorem own_empty (w : World) : (w.alloc (.cells #[] 5)).ownsRow w.heap.size 5 1 (.slice (some ⟨w.heap.size, 0, none⟩) 0 0) 0 [] := World.ownsRow_made (base := w.heap.size) (e := 5) (size := 1) w #[] 0 (Nat.le_refl _) (Nat.zero_le _) rfl
theorem run_app_empty {P : Program} (w : World) (ty : TypeId) (ht : P.underlying 31 = some (.slice 5)) (hq : (P.info? 5).map (fun i => (i.zero, i.size, i.bytes)) = some (some (.int .u8 0), 1, 1)) (A : Addr) (n m : Nat) (l : List UInt8) (hl : l.length = n) (hn : n ≤ 65536)
    (hc : ∀ j u, (l.map u8v)[j]? = some u → w.cell? (A.add j) = some u) :
    ∃ b c w1, (Builtin.append_ #[31, 31] ty #[.slice (some ⟨w.heap.size, 0, none⟩) 0 0, .slice (some A) n m]).run P (w.alloc (.cells #[] 5)) = .ok (.slice (some ⟨b, 0, none⟩) n c) w1 ∧ w.heap.size ≤ b ∧ n ≤ c ∧ BY w1 b l c ∧ Below w.heap.size w w1 := by
  obtain ⟨i0, hi, hz0, hz1, hz2⟩ := info_parts hq
  obtain ⟨v, w1, r1, r2, r3, r4⟩ := run_append_own (P := P) (w.alloc (.cells #[] 5)) w.heap.size 31 ty 5 i0 (.int .u8 0) 1 1 ht hi hz0 hz1 hz2 rfl (by decide) _ _ _ (own_empty w) A n m (l.map u8v) (by simp [hl]) (cells_alloc _ hc) (u8v_one l) (by unfold maxLen; omega) (by omega) (by simp)
  have hv : v ≠ .slice none 0 0 := fun q => by have := (r4.1 q).1; simp at this
  have hb : Below w.heap.size w w1 := ((Below.refl _ w).alloc (Nat.le_refl _) _).grown r3 (by simp) (fun k hk => by simp [Value.ownBlock] at hk; omega)
  rw [Nat.zero_add, List.nil_append] at r2
  obtain ⟨_, b, c, rfl, h2, h3, h4⟩ := BY.own r2 hv
  exact ⟨b, c, w1, r1, h2, h3, h4, hb⟩
theorem wpList_app_empty {P : Program} (w : World) {ops : Array Oper} {rest : List Oper} {o : Oper} {a : Act} {Q : Exit → Act → World → Prop} (hg : o.guard = none) (s x : Operand)
    (hop : o.op = Op.call { callee := Callee.builtin Builtin.append, args := #[s, x], argTypes := #[31, 31] }) (ht : P.underlying 31 = some (.slice 5)) (hq : (P.info? 5).map (fun i => (i.zero, i.size, i.bytes)) = some (some (.int .u8 0), 1, 1))
    (A : Addr) (n m : Nat) (l : List UInt8) (hs : a.eval s = .slice (some ⟨w.heap.size, 0, none⟩) 0 0) (hx : a.eval x = .slice (some A) n m) (hl : l.length = n) (hn : n ≤ 65536) (hc : ∀ j u, (l.map u8v)[j]? = some u → w.cell? (A.add j) = some u)
    (hK : ∀ b c w1, w.heap.size ≤ b → n ≤ c → BY w1 b l c → Below w.heap.size w w1 → wpList P ops Q rest (a.put o.dst (.slice (some ⟨b, 0, none⟩) n c)) w1) : wpList P ops Q (o :: rest) a (w.alloc (.cells #[] 5)) := by
  refine wpList_plain hg fun K hK' => ?_
  obtain ⟨b, c, w1, r1, r2, r3, r4, r5⟩ := run_app_empty (P := P) w o.type ht hq A n m l hl hn hc
  unfold Oper.wp
  simp [execOp, hop, resolve, invoke, builtin, hs, hx, r1, Result.andThen]
  exact hK' _ _ (hK b c w1 r2 r3 r4 r5)
def lastW (i : Nat) : List (Nat × List UInt8) → Option (List UInt8)
  | [] => none
  | q :: Q => match lastW i Q with | some b => some b | none => if q.1 = i then some q.2 else none
def told (D : List UInt8) (Q : List (Nat × List UInt8)) (i : Nat) : List UInt8 := ((lastW i Q).getD ((D.drop (i * 64)).take 64))
theorem lastW_drop (i : Nat) : ∀ (j : Nat) (Q : List (Nat × List UInt8)) (b : List UInt8), lastW i (Q.drop j) = some b → lastW i Q = some b
  | 0, Q, b, h => by simpa using h
  | j + 1, [], b, h => by simp [lastW] at h
  | j + 1, q :: Q, b, h => by
    have := lastW_drop i j Q b (by simpa using h)
    simp [lastW, this]
theorem lastW_snoc (i : Nat) (q : Nat × List UInt8) : ∀ Q, lastW i (Q ++ [q]) = if q.1 = i then some q.2 else lastW i Q
  | [] => by simp [lastW]
  | p :: Q => by
    simp only [List.cons_append, lastW, lastW_snoc i q Q]
    by_cases h : q.1 = i <;> simp [h]
theorem cellA {w : World} {p : Addr} {v : Value} (h : w.cell? p = some v) : ∀ o, (w.alloc o).cell? p = some v := fun o => (World.cell?_of_block (w := w) (Below.heap_alloc w o _ (block_lt_of_cell h))).trans h
set_option maxHeartbeats 1000000 in
theorem Try.rread_good {w : World} {F : Nat → Prop} {m k db dc wc : Nat} {A : Option Addr} {ds : List (Nat × Nat)} {D : List UInt8} {Q : List (Nat × List UInt8)} (h : RW w F m k db dc A wc ds D Q) (hQ : Q.length ≤ 1000000) (i : Nat) (hi : i < k) :
    Calls Try.prog 22 #[.pointer (some ⟨m, 0, none⟩), .int .i64 i] w (ReadGood w (told D Q i)) := by
  have H := Lib.hid h
  have c0 := h.c0
  have c1 := h.c1
  have hk := h.hk
  have h16 : 64 * k ≤ 65536 := by omega
  have hq : 64 * k / 64 = k := by omega
  have q1 : decide ((i : Int) < 0) = false := by simp
  have q2 : decide ((k : Int) ≤ i) = false := by simp; omega
  clear h
  go_enter Try.func22, Try.ntmps22
  go_wp2_with (go_at_call 40; refine (Try.rblocks _ _ _ _ h16 _ c0).mono ?_; rintro e w' ⟨rfl, rfl⟩; rw [hq])
  go_loop [6] (fun t => ∃ (j : Nat) (z : Int), j ≤ Q.length ∧ z = (j : Int) - 1 ∧ t = .int .i64 z ∧ lastW i (Q.drop j) = none) (fun t => (intOf t + 1).toNat)
  case atStart => exact ⟨Q.length, _, Nat.le_refl _, rfl, rfl, by rw [List.drop_length]; rfl⟩
  case round =>
    obtain ⟨j, z, hj, hz, rfl, hn⟩ := hrel
    by_cases h0 : j = 0
    · obtain rfl : z = -1 := by omega
      subst h0
      have ht : told D Q i = (D.drop (i * 64)).take 64 := by unfold told; rw [List.drop_zero] at hn; rw [hn]; rfl
      have HTD := Lib.hid ht
      have hDl := (H.out).Dl
      have hw := (H.out).bd.win (i * 64) 64 (by omega)
      have HL : Hid (((D.drop (i * 64)).take 64).length = 64) := Lib.hid (by simp; omega)
      rw [Nat.mul_comm i 64] at hw
      have HW : Hid (∀ j u, (((D.drop (i * 64)).take 64).map u8v)[j]? = some u → w.cell? ((⟨db, 64 * i, none⟩ : Addr).add j) = some u) := Lib.hid (by rw [Nat.mul_comm i 64]; exact hw)
      have HL64 : Hid (((D.drop (i * 64)).take 64).length = 64 * i + 64 - 64 * i) := Lib.hid (by rw [HL.out]; omega)
      have hdc := (H.out).dc'
      have hg0 : decide ((0 : Int) ≤ -1) = false := by decide
      have a0 := cellA c0
      have hg1 : ¬ ((0 : Int) ≤ -1) := by decide
      clear hw ht hn hDl hz
      go_wp2_with (at_builtin; refine wpList_app_empty w rfl (.tmp 45) (.tmp 55) rfl Try.underlying31 Try.info5 ⟨db, 64 * i, none⟩ (64 * i + 64 - 64 * i) _ ((D.drop (i * 64)).take 64) rfl rfl HL64.out (by omega) HW.out ?_)
      intro b c w1 r1 r2 r3 r4
      have HG : Hid (ReadGood w ((D.drop (i * 64)).take 64) (.returned (.tuple #[.slice (some ⟨b, 0, none⟩) 64 c, .int .i64 0])) w1) := Lib.hid ⟨b, c, rfl, r1, r2, r3, r4⟩
      clear r1 r2 r3 r4 a0
      go_wp2
      go_ret2
      rw [HTD.out]
      exact HG.out
    · obtain ⟨j, rfl⟩ : ∃ j', j = j' + 1 := ⟨j - 1, by omega⟩
      obtain rfl : z = (j : Int) := by omega
      have hjl : j < Q.length := by omega
      obtain ⟨x, x1, ⟨x2, x3, x4, x5, x6, x7⟩, x8, x9⟩ := AllW.get _ _ (H.out).al j hjl
      obtain ⟨wb, rfl, hwl, hwc⟩ : ∃ wb, A = some ⟨wb, 0, none⟩ ∧ Q.length ≤ wc ∧ ∀ i u, (wCells Q ds)[i]? = some u → w.cell? ⟨wb, i, none⟩ = some u := by
        rcases (H.out).aw with ⟨_, h0, _⟩ | ⟨b, q1, q2, q3, q4, q5⟩
        · rw [h0] at hjl; simp at hjl
        · exact ⟨b, q1, q4, q5⟩
      have e1 := hwc _ _ x8
      have e2 := hwc _ _ x9
      rw [Nat.mul_comm 2 j] at e1 e2
      have a1 := cellA c1
      have a2 := cellA e2
      have hnn : lastW i (Q.drop j) = if (Q[j]).1 = i then some (Q[j]).2 else none := by
        rw [List.drop_eq_getElem_cons hjl]; simp only [lastW, hn]
      have HN := Lib.hid hnn
      have X4 := Lib.hid x4
      have X6 := Lib.hid x6.all
      clear hnn x8 x9 hwc hn hz x4 x6
      by_cases he : (Q[j]).1 = i
      · have ht : told D Q i = (Q[j]).2 := by
          have := lastW_drop i j Q _ (by rw [HN.out, if_pos he])
          unfold told; rw [this]; rfl
        rw [ht]
        rw [he] at e1
        have hb : ((i : Int) == (i : Int)) = true := by simp
        clear ht HN he
        generalize (Q[j]).2 = bb at *
        go_wp2_with (at_builtin; refine wpList_app_empty w rfl (.tmp 35) (.tmp 43) rfl Try.underlying31 Try.info5 ⟨x.1, 0, none⟩ 64 x.2 bb rfl rfl X4.out (by omega) X6.out ?_)
        intro b c w1 r1 r2 r3 r4
        have HG : Hid (ReadGood w bb (.returned (.tuple #[.slice (some ⟨b, 0, none⟩) 64 c, .int .i64 0])) w1) := Lib.hid ⟨b, c, rfl, r1, r2, r3, r4⟩
        clear r1 r2 r3 r4 a1 a2
        go_wp2
        go_ret2
        exact HG.out
      · have hb : (((Q[j]).1 : Int) == (i : Int)) = false := by simp; omega
        have hb2 : ¬ ((Q[j]).1 : Int) = (i : Int) := by omega
        have HN2 : Hid (lastW i (Q.drop j) = none) := Lib.hid (by rw [HN.out, if_neg he])
        clear HN he
        go_wp2
        go_round
        case rel => exact ⟨j, _, by omega, rfl, rfl, HN2.out⟩
        all_goals (simp [intOf] <;> omega)
end Go.Proofs
end

section
namespace Go.Proofs
open Go.RowKit
set_option maxRecDepth 100000
theorem own_at {W : World} {B g : Nat} {e : TypeId} {size : Nat} (hg : W.heap[g]? = some (.cells #[] e (0, 0))) (hb : B ≤ g) : W.ownsRow B e size (.slice (some ⟨g, 0, none⟩) 0 0) 0 [] :=
  ⟨by simp, .inr ⟨g, 0, #[], rfl, hb, hg, Nat.le_refl _, Nat.zero_le _, by simp, by simp⟩⟩
theorem step_app_at {P : Program} {W : World} {ops : Array Oper} {o : Oper} {a : Act} {K : Act → World → Prop} {Q : Exit → Act → World → Prop} {E : Prop} (hgd : o.guard = none) (s x : Operand)
    (hop : o.op = Op.call { callee := Callee.builtin Builtin.append, args := #[s, x], argTypes := #[31, 31] }) (ht : P.underlying 31 = some (.slice 5)) (hq : (P.info? 5).map (fun i => (i.zero, i.size, i.bytes)) = some (some (.int .u8 0), 1, 1))
    (B g : Nat) (hB : B ≤ W.heap.size) (hg : W.heap[g]? = some (.cells #[] 5 (0, 0))) (hb : B ≤ g) (A : Addr) (n m : Nat) (l : List UInt8) (hs : a.eval s = .slice (some ⟨g, 0, none⟩) 0 0) (hx : a.eval x = .slice (some A) n m) (hl : l.length = n) (hn : n ≤ 65536) (hc : ∀ j u, (l.map u8v)[j]? = some u → W.cell? (A.add j) = some u)
    (hK : ∀ b c w1, B ≤ b → n ≤ c → BY w1 b l c → Chg W w1 (· = g) → K (a.put o.dst (.slice (some ⟨b, 0, none⟩) n c)) w1) : if Region.wanted o (yielded ops a.tmps) = true then Oper.wp P o a W K Q else E := by
  have hw : Region.wanted o (yielded ops a.tmps) = true := by simp [Region.wanted, hgd]
  rw [if_pos hw]
  obtain ⟨i0, hi, hz0, hz1, hz2⟩ := info_parts hq
  obtain ⟨v, w1, r1, r2, r3, r4⟩ := run_append_own (P := P) W B 31 o.type 5 i0 (.int .u8 0) 1 1 ht hi hz0 hz1 hz2 rfl (by decide) _ _ _ (own_at hg hb) A n m (l.map u8v) (by simp [hl]) hc (u8v_one l) (by unfold maxLen; omega) (by omega) hB
  have hv : v ≠ .slice none 0 0 := fun q => by have := (r4.1 q).1; simp at this
  rw [Nat.zero_add, List.nil_append] at r2
  obtain ⟨_, b, c, rfl, h2, h3, h4⟩ := BY.own r2 hv
  unfold Oper.wp
  simp [execOp, hop, resolve, invoke, builtin, hs, hx, r1, Result.andThen]
  exact hK b c w1 h2 h3 h4 ⟨r3.os, r3.tape, r3.output, r3.size, fun k hk hn => r3.block k hk (by simp [Value.ownBlock]; exact hn)⟩
theorem wCells_one (Q : List (Nat × List UInt8)) (ds : List (Nat × Nat)) : ∀ u ∈ wCells Q ds, u.oneCell' = true := by
  induction Q generalizing ds with
  | nil => intro u hu; simp [wCells] at hu
  | cons q Q ih =>
    cases ds with
    | nil => intro u hu; simp [wCells] at hu
    | cons x ds =>
      intro u hu
      simp only [wCells, List.mem_cons] at hu
      rcases hu with rfl | rfl | hu
      · rfl
      · rfl
      · exact ih ds u hu
theorem wCells_len : ∀ (Q : List (Nat × List UInt8)) (ds : List (Nat × Nat)), Q.length = ds.length → (wCells Q ds).length = Q.length * 2
  | [], [], _ => rfl
  | q :: Q, x :: ds, h => by simp [wCells, wCells_len Q ds (by simpa using h)]; omega
  | [], _ :: _, h => by simp at h
  | _ :: _, [], h => by simp at h
theorem step_waits_at {P : Program} {W : World} {ops : Array Oper} {o : Oper} {a : Act} {K : Act → World → Prop} {Q' : Exit → Act → World → Prop} {E : Prop} (hgd : o.guard = none) (s x : Operand)
    (hop : o.op = Op.call { callee := Callee.builtin Builtin.append, args := #[s, x], argTypes := #[58, 58] }) (ht : P.underlying 58 = some (.slice 76)) (hq : (P.info? 76).map (fun i => (i.zero, i.size, i.bytes)) = some (some (.agg #[.int .i64 0, .slice none 0 0]), 2, 32))
    (B g : Nat) (hB : B ≤ W.heap.size) (hg : W.heap[g]? = some (.cells #[] 76 (0, 0))) (hb : B ≤ g) (A : Option Addr) (wc : Nat) (Q : List (Nat × List UInt8)) (ds : List (Nat × Nat)) (hlen : Q.length = ds.length) (hs : a.eval s = .slice (some ⟨g, 0, none⟩) 0 0) (hx : a.eval x = .slice A Q.length wc) (hn : Q.length ≤ 1000000)
    (hA : (A = none ∧ Q = [] ∧ wc = 0) ∨ ∃ b, A = some ⟨b, 0, none⟩ ∧ ∀ i u, (wCells Q ds)[i]? = some u → W.cell? ⟨b, i, none⟩ = some u)
    (hK : ∀ b c w1, B ≤ b → b < w1.heap.size → Q.length ≤ c → (∀ i u, (wCells Q ds)[i]? = some u → w1.cell? ⟨b, i, none⟩ = some u) → Chg W w1 (· = g) → K (a.put o.dst (.slice (some ⟨b, 0, none⟩) Q.length c)) w1) : if Region.wanted o (yielded ops a.tmps) = true then Oper.wp P o a W K Q' else E := by
  have hw : Region.wanted o (yielded ops a.tmps) = true := by simp [Region.wanted, hgd]
  rw [if_pos hw]
  obtain ⟨i0, hi, hz0, hz1, hz2⟩ := info_parts hq
  have hown := own_at (e := 76) (size := 2) hg hb
  rcases hA with ⟨rfl, rfl, rfl⟩ | ⟨wb, rfl, hcells⟩
  · have hrun := run_append_owned_none (P := P) W B 58 o.type 76 i0 2 ht hi _ _ _ hown
    unfold Oper.wp
    simp only [List.length_nil] at hx
    simp [execOp, hop, resolve, invoke, builtin, hs, hx, hrun, Result.andThen]
    exact hK g 0 W hb (Array.getElem?_eq_some_iff.1 hg).1 (Nat.le_refl _) (fun i u hu => by simp [wCells] at hu) (Chg.refl _ _)
  · obtain ⟨v, w1, r1, r2, r3, r4⟩ := run_append_own (P := P) W B 58 o.type 76 i0 (.agg #[.int .i64 0, .slice none 0 0]) 2 32 ht hi hz0 hz1 hz2 rfl (by decide) _ _ _ hown ⟨wb, 0, none⟩ Q.length wc (wCells Q ds) (wCells_len _ _ hlen) (fun j u hu => by rw [add_none, Nat.zero_add]; exact hcells j u hu) (wCells_one Q ds) (by unfold maxLen; omega) (by omega) hB
    have hv : v ≠ .slice none 0 0 := fun q => by have := (r4.1 q).1; simp at this
    rw [Nat.zero_add, List.nil_append] at r2
    rcases r2.2 with ⟨e, _⟩ | ⟨g2, cap, cur, e, hb2, hg2, hn2, _, _, ht2⟩
    · exact absurd e hv
    · subst e
      unfold Oper.wp
      simp [execOp, hop, resolve, invoke, builtin, hs, hx, r1, Result.andThen]
      exact hK g2 cap w1 hb2 (Array.getElem?_eq_some_iff.1 hg2).1 hn2 (fun i u hu => by have := r2.cells (g := g2) rfl i u hu; rwa [add_none, Nat.zero_add] at this) ⟨r3.os, r3.tape, r3.output, r3.size, fun k hk hn => r3.block k hk (by simp [Value.ownBlock]; exact hn)⟩
def RTwin (w : World) (k : Nat) (D : List UInt8) (Q : List (Nat × List UInt8)) (m' : Nat) (w' : World) : Prop := ∃ F' db dc A wc ds, RW w' F' m' k db dc A wc ds D Q ∧ w.heap.size ≤ m' ∧ Chg w w' (fun _ => False)
theorem rtwin_end {w w2 : World} {F : Nat → Prop} {m k db dc wc b1 c1 b2 c2 : Nat} {A : Option Addr} {ds : List (Nat × Nat)} {D : List UInt8} {Q : List (Nat × List UInt8)} (h : RW w F m k db dc A wc ds D Q)
    (hc : Chg w w2 (fun _ => False)) (h1 : w.heap.size ≤ b1) (hb1 : BY w2 b1 D c1) (hc1 : 64 * k ≤ c1) (h2 : w.heap.size ≤ b2) (hb2 : b2 < w2.heap.size) (hc2 : Q.length ≤ c2) (hcells : ∀ i u, (wCells Q ds)[i]? = some u → w2.cell? ⟨b2, i, none⟩ = some u) :
    RTwin w k D Q w2.heap.size (w2.alloc (.cells #[.slice (some ⟨b1, 0, none⟩) (64 * k) c1, .slice (some ⟨b2, 0, none⟩) Q.length c2] 60)) := by
  have s2 := hc.size
  have l1 := hb1.lt
  refine ⟨fun b => F b ∨ (w.heap.size ≤ b ∧ b ≤ w2.heap.size), b1, c1, some ⟨b2, 0, none⟩, c2, ds, ?_, s2, hc.trans (Chg.alloc _ _ _)⟩
  refine ⟨fun b hb => ?_, heap_alloc_new _ _, .inr ⟨by omega, Nat.le_refl _⟩, .inr ⟨h1, by omega⟩, by omega, h.hk, h.Dl, hb1.congr (Below.heap_alloc _ _ _ (by omega)), hc1, .inr ⟨b2, rfl, .inr ⟨h2, by omega⟩, by omega, hc2, fun i u hu => cellA (hcells i u hu) _⟩, ?_⟩
  · simp
    rcases hb with q | q
    · have := h.lt b q; omega
    · omega
  · refine AllW.stay (fun b q => .inl q) (fun b q1 q2 => ⟨?_, ?_⟩) _ _ h.al
    · have := h.lt b q1
      rw [Below.heap_alloc _ _ _ (by omega)]
      exact hc.block b this id
    · have := h.lt b q1
      simp; omega
set_option maxHeartbeats 2000000 in
theorem Try.rtwin {w : World} {F : Nat → Prop} {m k db dc wc : Nat} {A : Option Addr} {ds : List (Nat × Nat)} {D : List UInt8} {Q : List (Nat × List UInt8)} (h : RW w F m k db dc A wc ds D Q) (hQ : Q.length ≤ 1000000) :
    Calls Try.prog 48 #[.pointer (some ⟨m, 0, none⟩)] w fun e w' => ∃ m', e = .returned (.pointer (some ⟨m', 0, none⟩)) ∧ RTwin w k D Q m' w' := by
  have H := Lib.hid h
  have c0 := h.c0
  have c1 := h.c1
  have hk := h.hk
  have hkk : 64 * k ≤ 65536 := by omega
  have hml := h.lt m h.fm
  have hal : ∀ j u, (D.map u8v)[j]? = some u → w.cell? ((⟨db, 0, none⟩ : Addr).add j) = some u := h.bd.all
  have HAL := Lib.hid hal
  have HLEN := Lib.hid (AllW.len _ _ h.al)
  have HAW : Hid ((A = none ∧ Q = [] ∧ wc = 0) ∨ ∃ b, A = some ⟨b, 0, none⟩ ∧ ∀ i u, (wCells Q ds)[i]? = some u → w.cell? ⟨b, i, none⟩ = some u) := Lib.hid (by
    rcases h.aw with q | ⟨b, q1, q2, q3, q4, q5⟩
    · exact .inl q
    · exact .inr ⟨b, q1, q5⟩)
  clear h hal
  go_enter Try.func48, Try.ntmps48
  go_wp2
  refine wp_region_noPanic ?_
  refine wp_region_held_drew (S := (fun W => W.cell? ⟨m, 0, none⟩ = some (.slice (some ⟨db, 0, none⟩) (64 * k) dc) ∧ W.cell? ⟨m, 1, none⟩ = some (.slice A Q.length wc))) (by kernel_rfl) ?_ (fun hHeld => ?_)
  · exact ⟨c0, c1⟩
  refine wpAnyH_take (i := 1) (oi := { dst := some 4, op := Op.move (Operand.tmp 0), type := 28, pos := "ref.go:90", after := #[], guard := none }) (v := ?_) rfl (by kernel_rfl) (by kernel_rfl) (by kernel_rfl) (fun _ _ _ h => h) (Or.inl ⟨by rfl, ?_⟩) (by assumption) ?_
  rotate_left
  · (intro w hSw; (try dsimp only at hSw); go_simp; try with_reducible rfl)
  try simp only [Act.put, List.setIfInBounds_toArray, List.set_cons_zero, List.set_cons_succ]
  refine wpAnyH_take (i := 2) (oi := { dst := some 5, op := Op.nilCheck (Operand.tmp 4), type := 0, pos := "ref.go:90", after := #[{ on := 1, ground := Ground.data }], guard := none }) (v := ?_) rfl (by kernel_rfl) (by kernel_rfl) (by kernel_rfl) (fun _ _ _ h => h) (Or.inl ⟨by rfl, ?_⟩) (by assumption) ?_
  rotate_left
  · (intro w hSw; (try dsimp only at hSw); go_simp; try with_reducible rfl)
  try simp only [Act.put, List.setIfInBounds_toArray, List.set_cons_zero, List.set_cons_succ]
  refine wpAnyH_take (i := 3) (oi := { dst := some 6, op := Op.fieldAddr 60 (Operand.tmp 5) 0, type := 0, pos := "ref.go:90", after := #[{ on := 2, ground := Ground.data }], guard := none }) (v := ?_) rfl (by kernel_rfl) (by kernel_rfl) (by kernel_rfl) (fun _ _ _ h => h) (Or.inl ⟨by rfl, ?_⟩) (by assumption) ?_
  rotate_left
  · (intro w hSw; (try dsimp only at hSw); go_simp; try with_reducible rfl)
  try simp only [Act.put, List.setIfInBounds_toArray, List.set_cons_zero, List.set_cons_succ]
  refine wpAnyH_take (i := 4) (oi := { dst := some 7, op := Op.load 31 (Operand.tmp 6), type := 31, pos := "ref.go:90", after := #[{ on := 3, ground := Ground.data }], guard := none }) (v := ?_) rfl (by kernel_rfl) (by kernel_rfl) (by kernel_rfl) (fun _ _ _ h => h) (Or.inl ⟨by rfl, ?_⟩) (by assumption) ?_
  rotate_left
  · (intro w hSw; (try dsimp only at hSw); go_simp; try with_reducible rfl)
  try simp only [Act.put, List.setIfInBounds_toArray, List.set_cons_zero, List.set_cons_succ]
  refine wpAnyH_take (i := 7) (oi := { dst := some 10, op := Op.move (Operand.tmp 0), type := 28, pos := "ref.go:90", after := #[], guard := none }) (v := ?_) rfl (by kernel_rfl) (by kernel_rfl) (by kernel_rfl) (fun _ _ _ h => h) (Or.inl ⟨by rfl, ?_⟩) (by assumption) ?_
  rotate_left
  · (intro w hSw; (try dsimp only at hSw); go_simp; try with_reducible rfl)
  try simp only [Act.put, List.setIfInBounds_toArray, List.set_cons_zero, List.set_cons_succ]
  refine wpAnyH_take (i := 8) (oi := { dst := some 11, op := Op.nilCheck (Operand.tmp 10), type := 0, pos := "ref.go:90", after := #[{ on := 7, ground := Ground.data }], guard := none }) (v := ?_) rfl (by kernel_rfl) (by kernel_rfl) (by kernel_rfl) (fun _ _ _ h => h) (Or.inl ⟨by rfl, ?_⟩) (by assumption) ?_
  rotate_left
  · (intro w hSw; (try dsimp only at hSw); go_simp; try with_reducible rfl)
  try simp only [Act.put, List.setIfInBounds_toArray, List.set_cons_zero, List.set_cons_succ]
  refine wpAnyH_take (i := 9) (oi := { dst := some 12, op := Op.fieldAddr 60 (Operand.tmp 11) 1, type := 0, pos := "ref.go:90", after := #[{ on := 8, ground := Ground.data }], guard := none }) (v := ?_) rfl (by kernel_rfl) (by kernel_rfl) (by kernel_rfl) (fun _ _ _ h => h) (Or.inl ⟨by rfl, ?_⟩) (by assumption) ?_
  rotate_left
  · (intro w hSw; (try dsimp only at hSw); go_simp; try with_reducible rfl)
  try simp only [Act.put, List.setIfInBounds_toArray, List.set_cons_zero, List.set_cons_succ]
  refine wpAnyH_take (i := 10) (oi := { dst := some 13, op := Op.load 58 (Operand.tmp 12), type := 58, pos := "ref.go:90", after := #[{ on := 9, ground := Ground.data }], guard := none }) (v := ?_) rfl (by kernel_rfl) (by kernel_rfl) (by kernel_rfl) (fun _ _ _ h => h) (Or.inl ⟨by rfl, ?_⟩) (by assumption) ?_
  rotate_left
  · (intro w hSw; (try dsimp only at hSw); go_simp; try with_reducible rfl)
  try simp only [Act.put, List.setIfInBounds_toArray, List.set_cons_zero, List.set_cons_succ]
  refine wpAnyH_ready (rs := [0, 6]) (by kernel_rfl) (by simp) ?_
  refine AllReadyH.cons (o := { dst := some 3, op := Op.buildSlice 31 0 #[], type := 31, pos := "ref.go:90", after := #[], guard := none }) rfl (fun K hK => ?_) ?_
  · skip
    go_simp
    refine hK.out _ _ ?_ (fun hHeld => ?_)
    · exact ⟨cellA (w := w.drew) c0 _, cellA (w := w.drew) c1 _⟩
    clear hK K
    try simp only [Act.put, List.setIfInBounds_toArray, List.set_cons_zero, List.set_cons_succ]
    refine wpAnyH_ready (rs := [5, 6]) (by kernel_rfl) (by simp) ?_
    refine AllReadyH.cons (o := { dst := some 8, op := Op.call { callee := Callee.builtin Builtin.append, args := #[Operand.tmp 3, Operand.tmp 7], argTypes := #[31, 31] }, type := 31, pos := "ref.go:90", after := #[{ on := 0, ground := Ground.data }, { on := 4, ground := Ground.data }], guard := none }) rfl (fun K hK => ?_) ?_
    · skip
      have kW : Chg w (w.drew.alloc (.cells #[] 5)) (fun _ => False) := ((Chg.refl w (fun _ => False)).drew.trans (Chg.alloc w.drew _ _))
      refine step_app_at rfl (.tmp 3) (.tmp 7) rfl Try.underlying31 Try.info5 w.heap.size (w.heap.size) kW.size (heap_alloc_new w.drew _) (by exact Nat.le_refl _) ⟨db, 0, none⟩ (64 * k) dc D rfl rfl (H.out).Dl hkk (cells_of_eq HAL.out (fun q => kW.block db q id)) ?_
      intro b1 d1 w1 p1 p2 p3 p4
      have k1 : Chg w w1 (fun _ => False) := kW.trans' p4 (fun b hb e => by have : b = w.heap.size := e; (try simp at this); omega)
      have y1 : w1.cell? ⟨m, 0, none⟩ = some (.slice (some ⟨db, 0, none⟩) (64 * k) dc) ∧ w1.cell? ⟨m, 1, none⟩ = some (.slice A Q.length wc) := ⟨(World.cell?_of_block (w := w) (a := ⟨m, 0, none⟩) (k1.block m hml id)).trans c0, (World.cell?_of_block (w := w) (a := ⟨m, 1, none⟩) (k1.block m hml id)).trans c1⟩
      have P3 := Lib.hid p3
      have P4 := Lib.hid p4
      have K1 := Lib.hid k1
      clear p3 p4 k1 kW
      refine hK.out _ _ ?_ (fun hHeld => ?_)
      · exact y1
      clear hK K
      try simp only [Act.put, List.setIfInBounds_toArray, List.set_cons_zero, List.set_cons_succ]
      refine wpAnyH_ready (rs := [6]) (by kernel_rfl) (by simp) ?_
      refine AllReadyH.cons (o := { dst := some 9, op := Op.buildSlice 58 0 #[], type := 58, pos := "ref.go:90", after := #[], guard := none }) rfl (fun K hK => ?_) ?_
      · skip
        go_simp
        refine hK.out _ _ ?_ (fun hHeld => ?_)
        · exact ⟨cellA y1.1 _, cellA y1.2 _⟩
        clear hK K
        try simp only [Act.put, List.setIfInBounds_toArray, List.set_cons_zero, List.set_cons_succ]
        refine wpAnyH_ready (rs := [11]) (by kernel_rfl) (by simp) ?_
        refine AllReadyH.cons (o := { dst := some 14, op := Op.call { callee := Callee.builtin Builtin.append, args := #[Operand.tmp 9, Operand.tmp 13], argTypes := #[58, 58] }, type := 58, pos := "ref.go:90", after := #[{ on := 6, ground := Ground.data }, { on := 10, ground := Ground.data }, { on := 5, ground := Ground.chain }], guard := none }) rfl (fun K hK => ?_) ?_
        · skip
          have kW : Chg w (w1.alloc (.cells #[] 76)) (fun _ => False) := (K1.out).trans (Chg.alloc _ _ _)
          refine step_waits_at rfl (.tmp 9) (.tmp 13) rfl Try.underlying58 Try.info76 w.heap.size (w1.heap.size) kW.size (heap_alloc_new _ _) (by have := (K1.out).size; omega) A wc Q ds HLEN.out rfl rfl hQ (by
            rcases HAW.out with q | ⟨b, q1, q2⟩
            · exact .inl q
            · exact .inr ⟨b, q1, fun i u hu => (World.cell?_of_block (w := w) (a := ⟨b, i, none⟩) (kW.block b (block_lt_of_cell (q2 i u hu)) id)).trans (q2 i u hu)⟩) ?_
          intro b2 d2 w2 s1 s2 s3 s4 s5
          have k2 : Chg w w2 (fun _ => False) := kW.trans' s5 (fun b hb e => by have : b = w1.heap.size := e; have := kW.size; have := (K1.out).size; omega)
          have y2 : w2.cell? ⟨m, 0, none⟩ = some (.slice (some ⟨db, 0, none⟩) (64 * k) dc) ∧ w2.cell? ⟨m, 1, none⟩ = some (.slice A Q.length wc) := ⟨(World.cell?_of_block (w := w) (a := ⟨m, 0, none⟩) (k2.block m hml id)).trans c0, (World.cell?_of_block (w := w) (a := ⟨m, 1, none⟩) (k2.block m hml id)).trans c1⟩
          have PB : BY w2 b1 D d1 := (P3.out).congr (by rw [s5.block b1 (by have := (P3.out).lt; simp; omega) (fun e => by have := (P3.out).lt; omega)]; exact Below.heap_alloc _ _ _ (P3.out).lt)
          have HT := Lib.hid (rtwin_end H.out k2 p1 PB p2 s1 s2 s3 s4)
          have y3 : ∀ o, (w2.alloc o).cell? ⟨m, 0, none⟩ = some (.slice (some ⟨db, 0, none⟩) (64 * k) dc) ∧ (w2.alloc o).cell? ⟨m, 1, none⟩ = some (.slice A Q.length wc) := fun o => ⟨cellA y2.1 o, cellA y2.2 o⟩
          clear PB k2 kW s4 s5
          refine hK.out _ _ ?_ (fun hHeld => ?_)
          · exact y2
          clear hK K
          try simp only [Act.put, List.setIfInBounds_toArray, List.set_cons_zero, List.set_cons_succ]
          refine wpAnyH_take (i := 12) (oi := { dst := some 15, op := Op.build 60 #[(0, Operand.tmp 8), (1, Operand.tmp 14)], type := 60, pos := "ref.go:90", after := #[{ on := 5, ground := Ground.data }, { on := 11, ground := Ground.data }], guard := none }) (v := ?_) rfl (by kernel_rfl) (by kernel_rfl) (by kernel_rfl) (fun _ _ _ h => h) (Or.inl ⟨by rfl, ?_⟩) (by assumption) ?_
          rotate_left
          · (intro w hSw; (try dsimp only at hSw); go_simp; try with_reducible rfl)
          try simp only [Act.put, List.setIfInBounds_toArray, List.set_cons_zero, List.set_cons_succ]
          refine wpAnyH_ready (rs := [13]) (by kernel_rfl) (by simp) ?_
          refine AllReadyH.cons (o := { dst := some 16, op := Op.box 60 (Operand.tmp 15), type := 28, pos := "ref.go:90", after := #[{ on := 12, ground := Ground.data }], guard := none }) rfl (fun K hK => ?_) ?_
          · skip
            go_simp
            refine hK.out _ _ ?_ (fun hHeld => ?_)
            · exact y3 _
            clear hK K
            try simp only [Act.put, List.setIfInBounds_toArray, List.set_cons_zero, List.set_cons_succ]
            refine wpAnyH_take (i := 14) (oi := { dst := some 2, op := Op.assign (Operand.tmp 16), type := 28, pos := "ref.go:90", after := #[{ on := 13, ground := Ground.data }, { on := 11, ground := Ground.chain }, { on := 0, ground := Ground.phase }, { on := 1, ground := Ground.phase }, { on := 2, ground := Ground.phase }, { on := 3, ground := Ground.phase }, { on := 4, ground := Ground.phase }, { on := 5, ground := Ground.phase }, { on := 6, ground := Ground.phase }, { on := 7, ground := Ground.phase }, { on := 8, ground := Ground.phase }, { on := 9, ground := Ground.phase }, { on := 10, ground := Ground.phase }, { on := 11, ground := Ground.phase }, { on := 12, ground := Ground.phase }, { on := 13, ground := Ground.phase }], guard := none }) (v := ?_) rfl (by kernel_rfl) (by kernel_rfl) (by kernel_rfl) (fun _ _ _ h => h) (Or.inl ⟨by rfl, ?_⟩) (by assumption) ?_
            rotate_left
            · (intro w hSw; (try dsimp only at hSw); go_simp; try with_reducible rfl)
            try simp only [Act.put, List.setIfInBounds_toArray, List.set_cons_zero, List.set_cons_succ]
            refine wpAnyH_done (by kernel_rfl) ?_ _
            refine NoPanic.normal ?_
            clear y1 y2 y3
            go_wp2
            go_ret
            exact ⟨_, rfl, HT.out⟩
          exact AllReadyH.nil
        exact AllReadyH.nil
      exact AllReadyH.nil
    refine AllReadyH.cons (o := { dst := some 9, op := Op.buildSlice 58 0 #[], type := 58, pos := "ref.go:90", after := #[], guard := none }) rfl (fun K hK => ?_) ?_
    · skip
      go_simp
      refine hK.out _ _ ?_ (fun hHeld => ?_)
      · exact ⟨cellA (cellA (w := w.drew) c0 _) _, cellA (cellA (w := w.drew) c1 _) _⟩
      clear hK K
      try simp only [Act.put, List.setIfInBounds_toArray, List.set_cons_zero, List.set_cons_succ]
      refine wpAnyH_ready (rs := [5]) (by kernel_rfl) (by simp) ?_
      refine AllReadyH.cons (o := { dst := some 8, op := Op.call { callee := Callee.builtin Builtin.append, args := #[Operand.tmp 3, Operand.tmp 7], argTypes := #[31, 31] }, type := 31, pos := "ref.go:90", after := #[{ on := 0, ground := Ground.data }, { on := 4, ground := Ground.data }], guard := none }) rfl (fun K hK => ?_) ?_
      · skip
        have kW : Chg w ((w.drew.alloc (.cells #[] 5)).alloc (.cells #[] 76)) (fun _ => False) := (((Chg.refl w (fun _ => False)).drew.trans (Chg.alloc w.drew _ _)).trans (Chg.alloc _ _ _))
        refine step_app_at rfl (.tmp 3) (.tmp 7) rfl Try.underlying31 Try.info5 w.heap.size (w.heap.size) kW.size (heap_alloc2_old w.drew _ _) (by exact Nat.le_refl _) ⟨db, 0, none⟩ (64 * k) dc D rfl rfl (H.out).Dl hkk (cells_of_eq HAL.out (fun q => kW.block db q id)) ?_
        intro b1 d1 w1 p1 p2 p3 p4
        have k1 : Chg w w1 (fun _ => False) := kW.trans' p4 (fun b hb e => by have : b = w.heap.size := e; (try simp at this); omega)
        have y1 : w1.cell? ⟨m, 0, none⟩ = some (.slice (some ⟨db, 0, none⟩) (64 * k) dc) ∧ w1.cell? ⟨m, 1, none⟩ = some (.slice A Q.length wc) := ⟨(World.cell?_of_block (w := w) (a := ⟨m, 0, none⟩) (k1.block m hml id)).trans c0, (World.cell?_of_block (w := w) (a := ⟨m, 1, none⟩) (k1.block m hml id)).trans c1⟩
        have P3 := Lib.hid p3
        have P4 := Lib.hid p4
        have K1 := Lib.hid k1
        clear p3 p4 k1 kW
        refine hK.out _ _ ?_ (fun hHeld => ?_)
        · exact y1
        clear hK K
        try simp only [Act.put, List.setIfInBounds_toArray, List.set_cons_zero, List.set_cons_succ]
        refine wpAnyH_ready (rs := [11]) (by kernel_rfl) (by simp) ?_
        refine AllReadyH.cons (o := { dst := some 14, op := Op.call { callee := Callee.builtin Builtin.append, args := #[Operand.tmp 9, Operand.tmp 13], argTypes := #[58, 58] }, type := 58, pos := "ref.go:90", after := #[{ on := 6, ground := Ground.data }, { on := 10, ground := Ground.data }, { on := 5, ground := Ground.chain }], guard := none }) rfl (fun K hK => ?_) ?_
        · skip
          have kW : Chg w (w1) (fun _ => False) := K1.out
          refine step_waits_at rfl (.tmp 9) (.tmp 13) rfl Try.underlying58 Try.info76 w.heap.size (w.heap.size + 1) kW.size (((P4.out).block _ (by simp) (by simp)).trans (heap_alloc2_new w.drew _ _)) (by omega) A wc Q ds HLEN.out rfl rfl hQ (by
            rcases HAW.out with q | ⟨b, q1, q2⟩
            · exact .inl q
            · exact .inr ⟨b, q1, fun i u hu => (World.cell?_of_block (w := w) (a := ⟨b, i, none⟩) (kW.block b (block_lt_of_cell (q2 i u hu)) id)).trans (q2 i u hu)⟩) ?_
          intro b2 d2 w2 s1 s2 s3 s4 s5
          have k2 : Chg w w2 (fun _ => False) := kW.trans' s5 (fun b hb e => by have : b = w.heap.size + 1 := e; have := kW.size; have := (K1.out).size; omega)
          have y2 : w2.cell? ⟨m, 0, none⟩ = some (.slice (some ⟨db, 0, none⟩) (64 * k) dc) ∧ w2.cell? ⟨m, 1, none⟩ = some (.slice A Q.length wc) := ⟨(World.cell?_of_block (w := w) (a := ⟨m, 0, none⟩) (k2.block m hml id)).trans c0, (World.cell?_of_block (w := w) (a := ⟨m, 1, none⟩) (k2.block m hml id)).trans c1⟩
          have PB : BY w2 b1 D d1 := (P3.out).congr (s5.block b1 (P3.out).lt (fun e => by have e1 : b1 = w.heap.size + 1 := e; have hq := P3.out; obtain ⟨pad, hq1, _, _⟩ := hq; have hq2 : w1.heap[w.heap.size + 1]? = some (.cells #[] 76 (0, 0)) := ((P4.out).block _ (by simp) (by simp)).trans (heap_alloc2_new w.drew _ _); rw [e1, hq2] at hq1; simp at hq1))
          have HT := Lib.hid (rtwin_end H.out k2 p1 PB p2 s1 s2 s3 s4)
          have y3 : ∀ o, (w2.alloc o).cell? ⟨m, 0, none⟩ = some (.slice (some ⟨db, 0, none⟩) (64 * k) dc) ∧ (w2.alloc o).cell? ⟨m, 1, none⟩ = some (.slice A Q.length wc) := fun o => ⟨cellA y2.1 o, cellA y2.2 o⟩
          clear PB k2 kW s4 s5
          refine hK.out _ _ ?_ (fun hHeld => ?_)
          · exact y2
          clear hK K
          try simp only [Act.put, List.setIfInBounds_toArray, List.set_cons_zero, List.set_cons_succ]
          refine wpAnyH_take (i := 12) (oi := { dst := some 15, op := Op.build 60 #[(0, Operand.tmp 8), (1, Operand.tmp 14)], type := 60, pos := "ref.go:90", after := #[{ on := 5, ground := Ground.data }, { on := 11, ground := Ground.data }], guard := none }) (v := ?_) rfl (by kernel_rfl) (by kernel_rfl) (by kernel_rfl) (fun _ _ _ h => h) (Or.inl ⟨by rfl, ?_⟩) (by assumption) ?_
          rotate_left
          · (intro w hSw; (try dsimp only at hSw); go_simp; try with_reducible rfl)
          try simp only [Act.put, List.setIfInBounds_toArray, List.set_cons_zero, List.set_cons_succ]
          refine wpAnyH_ready (rs := [13]) (by kernel_rfl) (by simp) ?_
          refine AllReadyH.cons (o := { dst := some 16, op := Op.box 60 (Operand.tmp 15), type := 28, pos := "ref.go:90", after := #[{ on := 12, ground := Ground.data }], guard := none }) rfl (fun K hK => ?_) ?_
          · skip
            go_simp
            refine hK.out _ _ ?_ (fun hHeld => ?_)
            · exact y3 _
            clear hK K
            try simp only [Act.put, List.setIfInBounds_toArray, List.set_cons_zero, List.set_cons_succ]
            refine wpAnyH_take (i := 14) (oi := { dst := some 2, op := Op.assign (Operand.tmp 16), type := 28, pos := "ref.go:90", after := #[{ on := 13, ground := Ground.data }, { on := 11, ground := Ground.chain }, { on := 0, ground := Ground.phase }, { on := 1, ground := Ground.phase }, { on := 2, ground := Ground.phase }, { on := 3, ground := Ground.phase }, { on := 4, ground := Ground.phase }, { on := 5, ground := Ground.phase }, { on := 6, ground := Ground.phase }, { on := 7, ground := Ground.phase }, { on := 8, ground := Ground.phase }, { on := 9, ground := Ground.phase }, { on := 10, ground := Ground.phase }, { on := 11, ground := Ground.phase }, { on := 12, ground := Ground.phase }, { on := 13, ground := Ground.phase }], guard := none }) (v := ?_) rfl (by kernel_rfl) (by kernel_rfl) (by kernel_rfl) (fun _ _ _ h => h) (Or.inl ⟨by rfl, ?_⟩) (by assumption) ?_
            rotate_left
            · (intro w hSw; (try dsimp only at hSw); go_simp; try with_reducible rfl)
            try simp only [Act.put, List.setIfInBounds_toArray, List.set_cons_zero, List.set_cons_succ]
            refine wpAnyH_done (by kernel_rfl) ?_ _
            refine NoPanic.normal ?_
            clear y1 y2 y3
            go_wp2
            go_ret
            exact ⟨_, rfl, HT.out⟩
          exact AllReadyH.nil
        exact AllReadyH.nil
      exact AllReadyH.nil
    exact AllReadyH.nil
  refine AllReadyH.cons (o := { dst := some 9, op := Op.buildSlice 58 0 #[], type := 58, pos := "ref.go:90", after := #[], guard := none }) rfl (fun K hK => ?_) ?_
  · skip
    go_simp
    refine hK.out _ _ ?_ (fun hHeld => ?_)
    · exact ⟨cellA (w := w.drew) c0 _, cellA (w := w.drew) c1 _⟩
    clear hK K
    try simp only [Act.put, List.setIfInBounds_toArray, List.set_cons_zero, List.set_cons_succ]
    refine wpAnyH_ready (rs := [0]) (by kernel_rfl) (by simp) ?_
    refine AllReadyH.cons (o := { dst := some 3, op := Op.buildSlice 31 0 #[], type := 31, pos := "ref.go:90", after := #[], guard := none }) rfl (fun K hK => ?_) ?_
    · skip
      go_simp
      refine hK.out _ _ ?_ (fun hHeld => ?_)
      · exact ⟨cellA (cellA (w := w.drew) c0 _) _, cellA (cellA (w := w.drew) c1 _) _⟩
      clear hK K
      try simp only [Act.put, List.setIfInBounds_toArray, List.set_cons_zero, List.set_cons_succ]
      refine wpAnyH_ready (rs := [5]) (by kernel_rfl) (by simp) ?_
      refine AllReadyH.cons (o := { dst := some 8, op := Op.call { callee := Callee.builtin Builtin.append, args := #[Operand.tmp 3, Operand.tmp 7], argTypes := #[31, 31] }, type := 31, pos := "ref.go:90", after := #[{ on := 0, ground := Ground.data }, { on := 4, ground := Ground.data }], guard := none }) rfl (fun K hK => ?_) ?_
      · skip
        have kW : Chg w ((w.drew.alloc (.cells #[] 76)).alloc (.cells #[] 5)) (fun _ => False) := (((Chg.refl w (fun _ => False)).drew.trans (Chg.alloc w.drew _ _)).trans (Chg.alloc _ _ _))
        refine step_app_at rfl (.tmp 3) (.tmp 7) rfl Try.underlying31 Try.info5 w.heap.size (w.heap.size + 1) kW.size (heap_alloc2_new w.drew _ _) (by omega) ⟨db, 0, none⟩ (64 * k) dc D rfl rfl (H.out).Dl hkk (cells_of_eq HAL.out (fun q => kW.block db q id)) ?_
        intro b1 d1 w1 p1 p2 p3 p4
        have k1 : Chg w w1 (fun _ => False) := kW.trans' p4 (fun b hb e => by have : b = w.heap.size + 1 := e; (try simp at this); omega)
        have y1 : w1.cell? ⟨m, 0, none⟩ = some (.slice (some ⟨db, 0, none⟩) (64 * k) dc) ∧ w1.cell? ⟨m, 1, none⟩ = some (.slice A Q.length wc) := ⟨(World.cell?_of_block (w := w) (a := ⟨m, 0, none⟩) (k1.block m hml id)).trans c0, (World.cell?_of_block (w := w) (a := ⟨m, 1, none⟩) (k1.block m hml id)).trans c1⟩
        have P3 := Lib.hid p3
        have P4 := Lib.hid p4
        have K1 := Lib.hid k1
        clear p3 p4 k1 kW
        refine hK.out _ _ ?_ (fun hHeld => ?_)
        · exact y1
        clear hK K
        try simp only [Act.put, List.setIfInBounds_toArray, List.set_cons_zero, List.set_cons_succ]
        refine wpAnyH_ready (rs := [11]) (by kernel_rfl) (by simp) ?_
        refine AllReadyH.cons (o := { dst := some 14, op := Op.call { callee := Callee.builtin Builtin.append, args := #[Operand.tmp 9, Operand.tmp 13], argTypes := #[58, 58] }, type := 58, pos := "ref.go:90", after := #[{ on := 6, ground := Ground.data }, { on := 10, ground := Ground.data }, { on := 5, ground := Ground.chain }], guard := none }) rfl (fun K hK => ?_) ?_
        · skip
          have kW : Chg w (w1) (fun _ => False) := K1.out
          refine step_waits_at rfl (.tmp 9) (.tmp 13) rfl Try.underlying58 Try.info76 w.heap.size (w.heap.size) kW.size (((P4.out).block _ (by simp; omega) (by simp)).trans (heap_alloc2_old w.drew _ _)) (by omega) A wc Q ds HLEN.out rfl rfl hQ (by
            rcases HAW.out with q | ⟨b, q1, q2⟩
            · exact .inl q
            · exact .inr ⟨b, q1, fun i u hu => (World.cell?_of_block (w := w) (a := ⟨b, i, none⟩) (kW.block b (block_lt_of_cell (q2 i u hu)) id)).trans (q2 i u hu)⟩) ?_
          intro b2 d2 w2 s1 s2 s3 s4 s5
          have k2 : Chg w w2 (fun _ => False) := kW.trans' s5 (fun b hb e => by have : b = w.heap.size := e; have := kW.size; have := (K1.out).size; omega)
          have y2 : w2.cell? ⟨m, 0, none⟩ = some (.slice (some ⟨db, 0, none⟩) (64 * k) dc) ∧ w2.cell? ⟨m, 1, none⟩ = some (.slice A Q.length wc) := ⟨(World.cell?_of_block (w := w) (a := ⟨m, 0, none⟩) (k2.block m hml id)).trans c0, (World.cell?_of_block (w := w) (a := ⟨m, 1, none⟩) (k2.block m hml id)).trans c1⟩
          have PB : BY w2 b1 D d1 := (P3.out).congr (s5.block b1 (P3.out).lt (fun e => by have e1 : b1 = w.heap.size := e; have hq := P3.out; obtain ⟨pad, hq1, _, _⟩ := hq; have hq2 : w1.heap[w.heap.size]? = some (.cells #[] 76 (0, 0)) := ((P4.out).block _ (by simp; omega) (by simp)).trans (heap_alloc2_old w.drew _ _); rw [e1, hq2] at hq1; simp at hq1))
          have HT := Lib.hid (rtwin_end H.out k2 p1 PB p2 s1 s2 s3 s4)
          have y3 : ∀ o, (w2.alloc o).cell? ⟨m, 0, none⟩ = some (.slice (some ⟨db, 0, none⟩) (64 * k) dc) ∧ (w2.alloc o).cell? ⟨m, 1, none⟩ = some (.slice A Q.length wc) := fun o => ⟨cellA y2.1 o, cellA y2.2 o⟩
          clear PB k2 kW s4 s5
          refine hK.out _ _ ?_ (fun hHeld => ?_)
          · exact y2
          clear hK K
          try simp only [Act.put, List.setIfInBounds_toArray, List.set_cons_zero, List.set_cons_succ]
          refine wpAnyH_take (i := 12) (oi := { dst := some 15, op := Op.build 60 #[(0, Operand.tmp 8), (1, Operand.tmp 14)], type := 60, pos := "ref.go:90", after := #[{ on := 5, ground := Ground.data }, { on := 11, ground := Ground.data }], guard := none }) (v := ?_) rfl (by kernel_rfl) (by kernel_rfl) (by kernel_rfl) (fun _ _ _ h => h) (Or.inl ⟨by rfl, ?_⟩) (by assumption) ?_
          rotate_left
          · (intro w hSw; (try dsimp only at hSw); go_simp; try with_reducible rfl)
          try simp only [Act.put, List.setIfInBounds_toArray, List.set_cons_zero, List.set_cons_succ]
          refine wpAnyH_ready (rs := [13]) (by kernel_rfl) (by simp) ?_
          refine AllReadyH.cons (o := { dst := some 16, op := Op.box 60 (Operand.tmp 15), type := 28, pos := "ref.go:90", after := #[{ on := 12, ground := Ground.data }], guard := none }) rfl (fun K hK => ?_) ?_
          · skip
            go_simp
            refine hK.out _ _ ?_ (fun hHeld => ?_)
            · exact y3 _
            clear hK K
            try simp only [Act.put, List.setIfInBounds_toArray, List.set_cons_zero, List.set_cons_succ]
            refine wpAnyH_take (i := 14) (oi := { dst := some 2, op := Op.assign (Operand.tmp 16), type := 28, pos := "ref.go:90", after := #[{ on := 13, ground := Ground.data }, { on := 11, ground := Ground.chain }, { on := 0, ground := Ground.phase }, { on := 1, ground := Ground.phase }, { on := 2, ground := Ground.phase }, { on := 3, ground := Ground.phase }, { on := 4, ground := Ground.phase }, { on := 5, ground := Ground.phase }, { on := 6, ground := Ground.phase }, { on := 7, ground := Ground.phase }, { on := 8, ground := Ground.phase }, { on := 9, ground := Ground.phase }, { on := 10, ground := Ground.phase }, { on := 11, ground := Ground.phase }, { on := 12, ground := Ground.phase }, { on := 13, ground := Ground.phase }], guard := none }) (v := ?_) rfl (by kernel_rfl) (by kernel_rfl) (by kernel_rfl) (fun _ _ _ h => h) (Or.inl ⟨by rfl, ?_⟩) (by assumption) ?_
            rotate_left
            · (intro w hSw; (try dsimp only at hSw); go_simp; try with_reducible rfl)
            try simp only [Act.put, List.setIfInBounds_toArray, List.set_cons_zero, List.set_cons_succ]
            refine wpAnyH_done (by kernel_rfl) ?_ _
            refine NoPanic.normal ?_
            clear y1 y2 y3
            go_wp2
            go_ret
            exact ⟨_, rfl, HT.out⟩
          exact AllReadyH.nil
        exact AllReadyH.nil
      exact AllReadyH.nil
    exact AllReadyH.nil
  exact AllReadyH.nil
end Go.Proofs
end

section
namespace Go.Proofs
open Go.RowKit
set_option maxRecDepth 100000
def dset (kp : Nat → Bool) : Nat → List (Nat × List UInt8) → List UInt8 → List UInt8
  | _, [], L => L
  | j, q :: Q, L => dset kp (j + 1) Q (if kp j then L.take (q.1 * 64) ++ (q.2 ++ L.drop (q.1 * 64 + 64)) else L)
theorem DW.lay {w w' : World} {F : Nat → Prop} {d k lb cl tb ct : Nat} {vw : Value} {ds : List (Nat × Nat)} {L L' T : List UInt8} {Q : List (Nat × List UInt8)} (hd : DW w F d k lb cl tb ct vw ds L T Q) (ho : Only w w' lb) (hb : BY w' lb L' cl) (hl : L'.length = 64 * k) :
    DW w' F d k lb cl tb ct vw ds L' T Q := by
  refine ⟨fun b h => by rw [ho.size]; exact hd.lt b h, (ho.block d hd.dl).trans hd.here, hd.fd, hd.fl, hd.ft, hd.dl, hd.dt, hd.lt', hd.hk, hl, hd.Tl, hb, hd.bt.congr (ho.block tb hd.lt'.symm), hd.cl', hd.ct', ?_, hd.fw, ?_⟩
  · exact own_stay hd.ow (fun b hb => ho.block b (hd.fw b hb).2.2.1)
  · refine AllW.stay (fun b q => q) (fun b q1 q2 => ⟨ho.block b (fun e => q2 (by simp [e])), q2⟩) _ _ hd.al
theorem DW.clear {w : World} {F : Nat → Prop} {d k lb cl tb ct : Nat} {vw : Value} {ds : List (Nat × Nat)} {L T : List UInt8} {Q : List (Nat × List UInt8)} (hd : DW w F d k lb cl tb ct vw ds L T Q) :
    DW (w.setCell ⟨d, 2, none⟩ (.slice none 0 0)) F d k lb cl tb ct (.slice none 0 0) [] L T [] := by
  have hb : ∀ b, b ≠ d → (w.setCell ⟨d, 2, none⟩ (.slice none 0 0)).heap[b]? = w.heap[b]? := fun b h => Below.heap_setCell _ _ _ _ h
  refine ⟨fun b h => by simpa [World.setCell] using hd.lt b h, ?_, hd.fd, hd.fl, hd.ft, hd.dl, hd.dt, hd.lt', hd.hk, hd.Ll, hd.Tl, hd.bl.congr (hb lb hd.dl.symm), hd.bt.congr (hb tb hd.dt.symm), hd.cl', hd.ct', World.ownsRow_nil _ _ _ _, fun b h => by simp [vblk] at h, trivial⟩
  rw [heap_setCell_same w d 2 _ 71 _ hd.here]; rfl
structure SRel (w : World) (F : Nat → Prop) (d k lb cl tb ct : Nat) (vw : Value) (ds : List (Nat × Nat)) (L T : List UInt8) (Q : List (Nat × List UInt8)) (kp : Nat → Bool) (j : Nat) (Lj : List UInt8) (wr : World) : Prop where
  le : j ≤ Q.length
  dw : DW wr F d k lb cl tb ct vw ds Lj T Q
  to : dset kp j (Q.drop j) Lj = dset kp 0 Q L
  ch : Chg w wr (· = lb)
theorem SRel.next {w w1 wr : World} {F : Nat → Prop} {d k lb cl tb ct : Nat} {vw : Value} {ds : List (Nat × Nat)} {L T : List UInt8} {Q : List (Nat × List UInt8)} {kp : Nat → Bool} {j : Nat} {Lj : List UInt8}
    (h : SRel w F d k lb cl tb ct vw ds L T Q kp j Lj wr) (hj : j < Q.length) (hk : kp j = true) (ho : Only wr w1 lb) (hb : BY w1 lb (Lj.take ((Q[j]).1 * 64) ++ ((Q[j]).2 ++ Lj.drop ((Q[j]).1 * 64 + 64))) cl) :
    SRel w F d k lb cl tb ct vw ds L T Q kp (j + 1) (Lj.take ((Q[j]).1 * 64) ++ ((Q[j]).2 ++ Lj.drop ((Q[j]).1 * 64 + 64))) w1 := by
  obtain ⟨x, h1, ⟨h2, h3, h4, h5, h6, h7⟩, _⟩ := AllW.get _ _ h.dw.al j hj
  have hL := h.dw.Ll
  refine ⟨by omega, h.dw.lay ho hb (by simp [h4]; omega), ?_, h.ch.trans (Chg.only ho)⟩
  rw [← h.to, List.drop_eq_getElem_cons hj]
  simp only [dset, hk, if_true]
theorem SRel.skip {w wr : World} {F : Nat → Prop} {d k lb cl tb ct : Nat} {vw : Value} {ds : List (Nat × Nat)} {L T : List UInt8} {Q : List (Nat × List UInt8)} {kp : Nat → Bool} {j : Nat} {Lj : List UInt8}
    (h : SRel w F d k lb cl tb ct vw ds L T Q kp j Lj wr) (hj : j < Q.length) (hk : kp j = false) : SRel w F d k lb cl tb ct vw ds L T Q kp (j + 1) Lj wr := by
  refine ⟨by omega, h.dw, ?_, h.ch⟩
  rw [← h.to, List.drop_eq_getElem_cons hj]
  simp only [dset, hk]
  rfl
def Settled (w : World) (F : Nat → Prop) (d k lb cl tb ct : Nat) (L T : List UInt8) (e : Ending) (w' : World) : Prop :=
  e = .returned (.tuple #[]) ∧ DW w' F d k lb cl tb ct (.slice none 0 0) [] L T [] ∧ Chg w w' (fun b => b = lb ∨ b = d)
theorem SRel.done {w wr : World} {F : Nat → Prop} {d k lb cl tb ct : Nat} {vw : Value} {ds : List (Nat × Nat)} {L T : List UInt8} {Q : List (Nat × List UInt8)} {kp : Nat → Bool} {Lj : List UInt8}
    (h : SRel w F d k lb cl tb ct vw ds L T Q kp Q.length Lj wr) : Settled w F d k lb cl tb ct (dset kp 0 Q L) T (.returned (.tuple #[])) (wr.setCell ⟨d, 2, none⟩ (.slice none 0 0)) := by
  have e := h.to
  rw [List.drop_length] at e
  simp only [dset] at e
  subst e
  exact ⟨rfl, h.dw.clear, (h.ch.mono (fun b q => .inl q)).trans ((Chg.setCell _ _ _).mono (fun b q => .inr q))⟩
end Go.Proofs
end

section
namespace Go.Proofs
open Go.RowKit
set_option maxRecDepth 100000
theorem step_copy_to {P : Program} {ops : Array Oper} {o : Oper} {a : Act} {w : World} {K : Act → World → Prop} {Q : Exit → Act → World → Prop} {E : Prop} (hgd : o.guard = none) (d s : Operand) (dT sT : TypeId)
    (ho : o.op = .call { callee := .builtin .copy, args := #[d, s], argTypes := #[dT, sT] }) (hu : P.underlying dT = some (.slice 5)) (hsz : (P.info? 5).map (·.size) = some 1)
    (g off c : Nat) (T : List UInt8) (n dl dCap : Nat) (A : Addr) (m : Nat) (bb : List UInt8) (hd : a.eval d = .slice (some ⟨g, off, none⟩) dl dCap) (hs : a.eval s = .slice (some A) n m) (hdl : n ≤ dl)
    (hg : BY w g T c) (hl : bb.length = n) (hc : ∀ j u, (bb.map u8v)[j]? = some u → w.cell? (A.add j) = some u) (hfit : off + n ≤ T.length)
    (h : ∀ w', BY w' g (T.take off ++ (bb ++ T.drop (off + n))) c → Only w w' g → K (a.put o.dst (goInt n)) w') : if Region.wanted o (yielded ops a.tmps) = true then Oper.wp P o a w K Q else E := by
  refine step_open hgd ?_
  obtain ⟨pad, g1, g2, g3⟩ := hg
  have hr := run_copy_row P w dT sT o.type 5 g off dl dCap A n m _ 5 (bb.map u8v) hu hsz g1 (by simp [hl]; exact (Nat.min_eq_left hdl).symm) hc (by simp; omega) (u8v_one bb)
  simp only [List.length_map, hl] at hr
  unfold Oper.wp
  simp [execOp, ho, resolve, invoke, builtin, hd, hs, hr, Result.andThen]
  refine h _ ⟨pad, ?_, by simp; omega, g3⟩ ⟨rfl, rfl, rfl, by simp, fun b hb => setRow_other w g b _ hb⟩
  have e := setRow_heap w g _ (List.take off (List.map u8v T ++ pad) ++ (List.map u8v bb ++ List.drop (off + n) (List.map u8v T ++ pad))).toArray 5 _ g1
  rw [List.append_assoc] at *
  rw [e]
  simp only [List.map_append, List.map_take, List.map_drop]
  rw [List.take_append_of_le_length (by simp; omega), List.drop_append_of_le_length (by simp; omega)]
  simp [List.append_assoc]
structure YRel (w : World) (k nb c : Nat) (D : List UInt8) (Q : List (Nat × List UInt8)) (j : Nat) (Dj : List UInt8) (wr : World) : Prop where
  le : j ≤ Q.length
  hnb : w.heap.size ≤ nb
  by' : BY wr nb Dj c
  len : Dj.length = 64 * k
  to : dset (fun _ => true) j (Q.drop j) Dj = dset (fun _ => true) 0 Q D
  ch : Chg w wr (fun _ => False)
theorem YRel.next {w wr w1 : World} {k nb c : Nat} {D : List UInt8} {Q : List (Nat × List UInt8)} {j : Nat} {Dj : List UInt8} (h : YRel w k nb c D Q j Dj wr) (hj : j < Q.length) (h64 : (Q[j]).2.length = 64) (hk : (Q[j]).1 < k) (ho : Only wr w1 nb)
    (hb : BY w1 nb (Dj.take ((Q[j]).1 * 64) ++ ((Q[j]).2 ++ Dj.drop ((Q[j]).1 * 64 + 64))) c) : YRel w k nb c D Q (j + 1) (Dj.take ((Q[j]).1 * 64) ++ ((Q[j]).2 ++ Dj.drop ((Q[j]).1 * 64 + 64))) w1 := by
  have hl := h.len
  have hn := h.hnb
  refine ⟨by omega, h.hnb, hb, by simp [h64]; omega, ?_, h.ch.trans' (Chg.only ho) (fun b hb e => by have : b = nb := e; omega)⟩
  rw [← h.to, List.drop_eq_getElem_cons hj]
  simp only [dset, if_true]
def RSynced (w : World) (F : Nat → Prop) (m k : Nat) (D : List UInt8) (e : Ending) (w' : World) : Prop := e = .returned (.tuple #[]) ∧ ∃ F', RV w' F' m k D [] ∧ Upd w w' F F' ∧ Chg w w' (· = m) ∧ ∃ db c, w'.cell? ⟨m, 0, none⟩ = some (.slice (some ⟨db, 0, none⟩) (64 * k) c) ∧ w.heap.size ≤ db ∧ BY w' db D c ∧ 64 * k ≤ c
theorem rsync_end {w wr : World} {F : Nat → Prop} {m k db dc wc nb c : Nat} {A : Option Addr} {ds : List (Nat × Nat)} {D Dj : List UInt8} {Q : List (Nat × List UInt8)} (h : RW w F m k db dc A wc ds D Q) (hy : YRel w k nb c D Q Q.length Dj wr) (hc : 64 * k ≤ c) :
    RSynced w F m k (dset (fun _ => true) 0 Q D) (.returned (.tuple #[])) ((wr.setCell ⟨m, 0, none⟩ (.slice (some ⟨nb, 0, none⟩) (64 * k) c)).setCell ⟨m, 1, none⟩ (.slice none 0 0)) := by
  have e := hy.to
  rw [List.drop_length] at e
  simp only [dset] at e
  subst e
  have hml := h.lt m h.fm
  have hn := hy.hnb
  have hnl := hy.by'.lt
  have hs := hy.ch.size
  obtain ⟨V, hV⟩ : ∃ V, V = Value.slice (some ⟨nb, 0, none⟩) (64 * k) c := ⟨_, rfl⟩
  rw [← hV]
  obtain ⟨W1, hW1⟩ : ∃ W1, W1 = wr.setCell ⟨m, 0, none⟩ V := ⟨_, rfl⟩
  have k1 : ∀ b, b ≠ m → W1.heap[b]? = wr.heap[b]? := fun b q => by rw [hW1]; exact Below.heap_setCell _ _ _ _ q
  have z1 : W1.heap.size = wr.heap.size := by rw [hW1]; simp [World.setCell]
  have d1 : Chg wr W1 (· = m) := by rw [hW1]; exact Chg.setCell wr ⟨m, 0, none⟩ V
  have h1 : W1.heap[m]? = some (.cells #[V, .slice A Q.length wc] 60 (0, 0)) := by
    rw [hW1, heap_setCell_same wr m 0 _ 60 V ((hy.ch.block m hml id).trans h.here)]; rfl
  rw [← hW1]
  clear hW1
  obtain ⟨W, hW⟩ : ∃ W, W = W1.setCell ⟨m, 1, none⟩ (.slice none 0 0) := ⟨_, rfl⟩
  have hk : ∀ b, b ≠ m → W.heap[b]? = wr.heap[b]? := fun b q => by rw [hW]; exact (Below.heap_setCell _ _ _ _ q).trans (k1 b q)
  have hsz : W.heap.size = wr.heap.size := by rw [hW, ← z1]; simp [World.setCell]
  have d2 : Chg W1 W (· = m) := by rw [hW]; exact Chg.setCell W1 ⟨m, 1, none⟩ _
  have here : W.heap[m]? = some (.cells #[.slice (some ⟨nb, 0, none⟩) (64 * k) c, .slice none 0 0] 60 (0, 0)) := by
    rw [hW, heap_setCell_same W1 m 1 _ 60 _ h1, hV]; rfl
  rw [← hW]
  clear hW h1 k1 z1 hV
  have hby := hy.by'.congr (hk nb (by omega))
  have hch : Chg w W (· = m) := ((hy.ch.mono (S' := (· = m)) (fun b q => q.elim)).trans d1).trans d2
  have hcell : W.cell? ⟨m, 0, none⟩ = some (.slice (some ⟨nb, 0, none⟩) (64 * k) c) := by
    rw [cell_of_row _ m 0 _ 60 (0, 0) here]; rfl
  refine ⟨rfl, fun b => F b ∨ (w.heap.size ≤ b ∧ b < wr.heap.size), ⟨nb, c, none, 0, [], ?_⟩, ⟨hch.os, hch.tape, hch.output, hch.size, fun b hb hn => hch.block b hb (fun q => hn (q ▸ h.fm)), fun b q => q.imp id (·.1)⟩, hch, nb, c, hcell, hn, hby, hc⟩
  refine ⟨fun b q => ?_, here, .inl h.fm, .inr ⟨hn, hnl⟩, by omega, h.hk, hy.len, hby, hc, .inl ⟨rfl, rfl, rfl⟩, trivial⟩
  rw [hsz]
  rcases q with q | q
  · exact Nat.lt_of_lt_of_le (h.lt b q) hs
  · exact q.2
set_option maxHeartbeats 2000000 in
theorem Try.rsync {w : World} {F : Nat → Prop} {m k db dc wc : Nat} {A : Option Addr} {ds : List (Nat × Nat)} {D : List UInt8} {Q : List (Nat × List UInt8)} (h : RW w F m k db dc A wc ds D Q) (hQ : Q.length ≤ 1000000) :
    Calls Try.prog 16 #[.pointer (some ⟨m, 0, none⟩)] w (RSynced w F m k (dset (fun _ => true) 0 Q D)) := by
  have H := Lib.hid h
  have c0 := h.c0
  have a0 := cellA c0
  have hk := h.hk
  have hml := h.lt m h.fm
  have HAL := Lib.hid h.bd.all
  have HDL := Lib.hid h.Dl
  clear h
  go_enter Try.func16, Try.ntmps16
  go_wp2_with (at_builtin; refine wpList_app_empty w rfl (.tmp 4) (.tmp 8) rfl Try.underlying31 Try.info5 ⟨db, 0, none⟩ (64 * k) dc D rfl rfl HDL.out (by omega) HAL.out ?_)
  intro nb c w1 r1 r2 r3 r4
  have H0 : Hid (YRel w k nb c D Q 0 D w1) := Lib.hid ⟨Nat.zero_le _, r1, r3, HDL.out, rfl, Chg.below r4 _⟩
  clear r3 r4 a0 c0
  go_wp2
  go_loopw [3] (fun t wr => ∃ (j : Nat) (Dj : List UInt8), j ≤ Q.length ∧ t = .int .i64 j ∧ YRel w k nb c D Q j Dj wr) (fun t _ => Q.length - (intOf t).toNat)
  case atStart => exact ⟨0, D, Nat.zero_le _, rfl, H0.out⟩
  case round =>
    obtain ⟨j, Dj, hj, rfl, hR⟩ := hrel
    have HR := Lib.hid hR
    have hrw := (H.out).keep hR.ch (fun _ _ => id)
    have c1 := hrw.c1
    by_cases hlt : j < Q.length
    · have hD : decide ((j : Int) < Q.length) = true := by simpa using hlt
      obtain ⟨x, x1, ⟨x2, x3, x4, x5, x6, x7⟩, x8, x9⟩ := AllW.get _ _ hrw.al j hlt
      obtain ⟨wb, rfl, hwm, hwl, hwF⟩ : ∃ wb, A = some ⟨wb, 0, none⟩ ∧ wb ≠ m ∧ (∀ i u, (wCells Q ds)[i]? = some u → wr.cell? ⟨wb, i, none⟩ = some u) ∧ wb < w.heap.size := by
        rcases (H.out).aw with ⟨_, h0, _⟩ | ⟨b, q1, q2, q3, q4, q5⟩
        · rw [h0] at hlt; simp at hlt
        · exact ⟨b, q1, q3, fun i u hu => (World.cell?_of_block (w := w) (a := ⟨b, i, none⟩) (hR.ch.block b ((H.out).lt b q2) id)).trans (q5 i u hu), (H.out).lt b q2⟩
      have e1 := hwl _ _ x8
      have e2 := hwl _ _ x9
      rw [Nat.mul_comm 2 j] at e1 e2
      have C1 := Lib.hid c1
      have E1 := Lib.hid e1
      have E2 := Lib.hid e2
      have X4 := Lib.hid x4
      have hnb := hR.hnb
      have hDl := hR.len
      have HN0 := Lib.hid (fun w1 => hR.next (w1 := w1) hlt x4 x5)
      have G1 : Hid (BY wr.drew nb Dj c) := Lib.hid hR.by'
      have X6 : Hid (∀ i u, (((Q[j]).2).map u8v)[i]? = some u → wr.drew.cell? ((⟨x.1, 0, none⟩ : Addr).add i) = some u) := Lib.hid x6.all
      have hfit : (Q[j]).1 * 64 + 64 ≤ Dj.length := by omega
      have h5 : (Try.prog.info? 5).map (·.size) = some 1 := by kernel_rfl
      have hj0 : (0 : Int) ≤ (j : Int) := by omega
      have hjl : (j : Int) < (Q.length : Int) := by omega
      have hqk : 64 * (Q[j]).1 + 64 ≤ 64 * k := by omega
      clear hR hrw x8 x9 hwl x6 x4 hDl
      go_wp2
      generalize hqi : (Q[j]).1 = qi at *
      have hw64 : IntKind.i64.wrap (64 * (qi : Int)) = ((64 * qi : Nat) : Int) := by rw [IntKind.wrap_i64]; omega
      have hb0 : (0 : Int) ≤ ((64 * qi : Nat) : Int) := by omega
      have hb1 : ((64 * qi : Nat) : Int) ≤ ((64 * k : Nat) : Int) := by omega
      refine wp_region_noPanic ?_
      refine wp_region_held_drew (S := (fun W => W.cell? ⟨m, 1, none⟩ = some (.slice (some ⟨wb, 0, none⟩) Q.length wc) ∧ W.cell? ⟨wb, j * 2, none⟩ = some (.int .i64 (qi : Int)) ∧ W.cell? ⟨wb, j * 2 + 1, none⟩ = some (.slice (some ⟨x.1, 0, none⟩) 64 x.2))) (by kernel_rfl) ?_ (fun hHeld => ?_)
      · exact ⟨C1.out, E1.out, E2.out⟩
      refine wpAnyH_take (i := 0) (oi := { dst := some 19, op := Op.move (Operand.tmp 2), type := 31, pos := "ref.go:63", after := #[], guard := none }) (v := ?_) rfl (by kernel_rfl) (by kernel_rfl) (by kernel_rfl) (fun _ _ _ h => h) (Or.inl ⟨by rfl, ?_⟩) (by assumption) ?_
      rotate_left
      · (intro w hSw; (try dsimp only at hSw); go_simp; try with_reducible rfl)
      try simp only [Act.put, List.setIfInBounds_toArray, List.set_cons_zero, List.set_cons_succ]
      refine wpAnyH_take (i := 1) (oi := { dst := some 20, op := Op.move (Operand.tmp 0), type := 28, pos := "ref.go:63", after := #[], guard := none }) (v := ?_) rfl (by kernel_rfl) (by kernel_rfl) (by kernel_rfl) (fun _ _ _ h => h) (Or.inl ⟨by rfl, ?_⟩) (by assumption) ?_
      rotate_left
      · (intro w hSw; (try dsimp only at hSw); go_simp; try with_reducible rfl)
      try simp only [Act.put, List.setIfInBounds_toArray, List.set_cons_zero, List.set_cons_succ]
      refine wpAnyH_take (i := 2) (oi := { dst := some 21, op := Op.nilCheck (Operand.tmp 20), type := 0, pos := "ref.go:63", after := #[{ on := 1, ground := Ground.data }], guard := none }) (v := ?_) rfl (by kernel_rfl) (by kernel_rfl) (by kernel_rfl) (fun _ _ _ h => h) (Or.inl ⟨by rfl, ?_⟩) (by assumption) ?_
      rotate_left
      · (intro w hSw; (try dsimp only at hSw); go_simp; try with_reducible rfl)
      try simp only [Act.put, List.setIfInBounds_toArray, List.set_cons_zero, List.set_cons_succ]
      refine wpAnyH_take (i := 3) (oi := { dst := some 22, op := Op.fieldAddr 60 (Operand.tmp 21) 1, type := 0, pos := "ref.go:63", after := #[{ on := 2, ground := Ground.data }], guard := none }) (v := ?_) rfl (by kernel_rfl) (by kernel_rfl) (by kernel_rfl) (fun _ _ _ h => h) (Or.inl ⟨by rfl, ?_⟩) (by assumption) ?_
      rotate_left
      · (intro w hSw; (try dsimp only at hSw); go_simp; try with_reducible rfl)
      try simp only [Act.put, List.setIfInBounds_toArray, List.set_cons_zero, List.set_cons_succ]
      refine wpAnyH_take (i := 4) (oi := { dst := some 23, op := Op.load 58 (Operand.tmp 22), type := 58, pos := "ref.go:63", after := #[{ on := 3, ground := Ground.data }], guard := none }) (v := ?_) rfl (by kernel_rfl) (by kernel_rfl) (by kernel_rfl) (fun _ _ _ h => h) (Or.inl ⟨by rfl, ?_⟩) (by assumption) ?_
      rotate_left
      · (intro w hSw; (try dsimp only at hSw); go_simp; try with_reducible rfl)
      try simp only [Act.put, List.setIfInBounds_toArray, List.set_cons_zero, List.set_cons_succ]
      refine wpAnyH_take (i := 5) (oi := { dst := some 24, op := Op.move (Operand.tmp 3), type := 3, pos := "ref.go:63", after := #[], guard := none }) (v := ?_) rfl (by kernel_rfl) (by kernel_rfl) (by kernel_rfl) (fun _ _ _ h => h) (Or.inl ⟨by rfl, ?_⟩) (by assumption) ?_
      rotate_left
      · (intro w hSw; (try dsimp only at hSw); go_simp; try with_reducible rfl)
      try simp only [Act.put, List.setIfInBounds_toArray, List.set_cons_zero, List.set_cons_succ]
      refine wpAnyH_take (i := 6) (oi := { dst := some 25, op := Op.indexAddr 58 (Operand.tmp 23) (Operand.tmp 24), type := 0, pos := "ref.go:63", after := #[{ on := 4, ground := Ground.data }, { on := 5, ground := Ground.data }], guard := none }) (v := ?_) rfl (by kernel_rfl) (by kernel_rfl) (by kernel_rfl) (fun _ _ _ h => h) (Or.inl ⟨by rfl, ?_⟩) (by assumption) ?_
      rotate_left
      · (intro w hSw; (try dsimp only at hSw); go_simp; try with_reducible rfl)
      try simp only [Act.put, List.setIfInBounds_toArray, List.set_cons_zero, List.set_cons_succ]
      refine wpAnyH_take (i := 7) (oi := { dst := some 26, op := Op.fieldAddr 76 (Operand.tmp 25) 0, type := 0, pos := "ref.go:63", after := #[{ on := 6, ground := Ground.data }], guard := none }) (v := ?_) rfl (by kernel_rfl) (by kernel_rfl) (by kernel_rfl) (fun _ _ _ h => h) (Or.inl ⟨by rfl, ?_⟩) (by assumption) ?_
      rotate_left
      · (intro w hSw; (try dsimp only at hSw); go_simp; try with_reducible rfl)
      try simp only [Act.put, List.setIfInBounds_toArray, List.set_cons_zero, List.set_cons_succ]
      refine wpAnyH_take (i := 8) (oi := { dst := some 27, op := Op.load 3 (Operand.tmp 26), type := 3, pos := "ref.go:63", after := #[{ on := 7, ground := Ground.data }], guard := none }) (v := ?_) rfl (by kernel_rfl) (by kernel_rfl) (by kernel_rfl) (fun _ _ _ h => h) (Or.inl ⟨by rfl, ?_⟩) (by assumption) ?_
      rotate_left
      · (intro w hSw; (try dsimp only at hSw); go_simp; try with_reducible rfl)
      try simp only [Act.put, List.setIfInBounds_toArray, List.set_cons_zero, List.set_cons_succ]
      refine wpAnyH_take (i := 9) (oi := { dst := some 28, op := Op.binOp BinOp.mul 3 (Operand.const (Value.int IntKind.i64 64)) (Operand.tmp 27) 3, type := 3, pos := "ref.go:63", after := #[{ on := 8, ground := Ground.data }], guard := none }) (v := ?_) rfl (by kernel_rfl) (by kernel_rfl) (by kernel_rfl) (fun _ _ _ h => h) (Or.inl ⟨by rfl, ?_⟩) (by assumption) ?_
      rotate_left
      · (intro w hSw; (try dsimp only at hSw); go_simp; try with_reducible rfl)
      try simp only [Act.put, List.setIfInBounds_toArray, List.set_cons_zero, List.set_cons_succ]
      refine wpAnyH_take (i := 11) (oi := { dst := some 30, op := Op.move (Operand.tmp 0), type := 28, pos := "ref.go:63", after := #[], guard := none }) (v := ?_) rfl (by kernel_rfl) (by kernel_rfl) (by kernel_rfl) (fun _ _ _ h => h) (Or.inl ⟨by rfl, ?_⟩) (by assumption) ?_
      rotate_left
      · (intro w hSw; (try dsimp only at hSw); go_simp; try with_reducible rfl)
      try simp only [Act.put, List.setIfInBounds_toArray, List.set_cons_zero, List.set_cons_succ]
      refine wpAnyH_take (i := 12) (oi := { dst := some 31, op := Op.nilCheck (Operand.tmp 30), type := 0, pos := "ref.go:63", after := #[{ on := 11, ground := Ground.data }], guard := none }) (v := ?_) rfl (by kernel_rfl) (by kernel_rfl) (by kernel_rfl) (fun _ _ _ h => h) (Or.inl ⟨by rfl, ?_⟩) (by assumption) ?_
      rotate_left
      · (intro w hSw; (try dsimp only at hSw); go_simp; try with_reducible rfl)
      try simp only [Act.put, List.setIfInBounds_toArray, List.set_cons_zero, List.set_cons_succ]
      refine wpAnyH_take (i := 13) (oi := { dst := some 32, op := Op.fieldAddr 60 (Operand.tmp 31) 1, type := 0, pos := "ref.go:63", after := #[{ on := 12, ground := Ground.data }], guard := none }) (v := ?_) rfl (by kernel_rfl) (by kernel_rfl) (by kernel_rfl) (fun _ _ _ h => h) (Or.inl ⟨by rfl, ?_⟩) (by assumption) ?_
      rotate_left
      · (intro w hSw; (try dsimp only at hSw); go_simp; try with_reducible rfl)
      try simp only [Act.put, List.setIfInBounds_toArray, List.set_cons_zero, List.set_cons_succ]
      refine wpAnyH_take (i := 14) (oi := { dst := some 33, op := Op.load 58 (Operand.tmp 32), type := 58, pos := "ref.go:63", after := #[{ on := 13, ground := Ground.data }], guard := none }) (v := ?_) rfl (by kernel_rfl) (by kernel_rfl) (by kernel_rfl) (fun _ _ _ h => h) (Or.inl ⟨by rfl, ?_⟩) (by assumption) ?_
      rotate_left
      · (intro w hSw; (try dsimp only at hSw); go_simp; try with_reducible rfl)
      try simp only [Act.put, List.setIfInBounds_toArray, List.set_cons_zero, List.set_cons_succ]
      refine wpAnyH_take (i := 15) (oi := { dst := some 34, op := Op.move (Operand.tmp 3), type := 3, pos := "ref.go:63", after := #[], guard := none }) (v := ?_) rfl (by kernel_rfl) (by kernel_rfl) (by kernel_rfl) (fun _ _ _ h => h) (Or.inl ⟨by rfl, ?_⟩) (by assumption) ?_
      rotate_left
      · (intro w hSw; (try dsimp only at hSw); go_simp; try with_reducible rfl)
      try simp only [Act.put, List.setIfInBounds_toArray, List.set_cons_zero, List.set_cons_succ]
      refine wpAnyH_take (i := 16) (oi := { dst := some 35, op := Op.indexAddr 58 (Operand.tmp 33) (Operand.tmp 34), type := 0, pos := "ref.go:63", after := #[{ on := 14, ground := Ground.data }, { on := 15, ground := Ground.data }], guard := none }) (v := ?_) rfl (by kernel_rfl) (by kernel_rfl) (by kernel_rfl) (fun _ _ _ h => h) (Or.inl ⟨by rfl, ?_⟩) (by assumption) ?_
      rotate_left
      · (intro w hSw; (try dsimp only at hSw); go_simp; try with_reducible rfl)
      try simp only [Act.put, List.setIfInBounds_toArray, List.set_cons_zero, List.set_cons_succ]
      refine wpAnyH_take (i := 17) (oi := { dst := some 36, op := Op.fieldAddr 76 (Operand.tmp 35) 1, type := 0, pos := "ref.go:63", after := #[{ on := 16, ground := Ground.data }], guard := none }) (v := ?_) rfl (by kernel_rfl) (by kernel_rfl) (by kernel_rfl) (fun _ _ _ h => h) (Or.inl ⟨by rfl, ?_⟩) (by assumption) ?_
      rotate_left
      · (intro w hSw; (try dsimp only at hSw); go_simp; try with_reducible rfl)
      try simp only [Act.put, List.setIfInBounds_toArray, List.set_cons_zero, List.set_cons_succ]
      refine wpAnyH_take (i := 18) (oi := { dst := some 37, op := Op.load 31 (Operand.tmp 36), type := 31, pos := "ref.go:63", after := #[{ on := 17, ground := Ground.data }], guard := none }) (v := ?_) rfl (by kernel_rfl) (by kernel_rfl) (by kernel_rfl) (fun _ _ _ h => h) (Or.inl ⟨by rfl, ?_⟩) (by assumption) ?_
      rotate_left
      · (intro w hSw; (try dsimp only at hSw); go_simp; try with_reducible rfl)
      try simp only [Act.put, List.setIfInBounds_toArray, List.set_cons_zero, List.set_cons_succ]
      refine wpAnyH_ready (rs := [10]) (by kernel_rfl) (by simp) ?_
      refine AllReadyH.cons (o := { dst := some 29, op := Op.slice 31 (Operand.tmp 19) (some (Operand.tmp 28)) none none, type := 31, pos := "ref.go:63", after := #[{ on := 0, ground := Ground.data }, { on := 9, ground := Ground.data }], guard := none }) rfl (fun K hK => ?_) AllReadyH.nil
      go_simp
      go_wp2_with fail
      refine hK.out _ _ ?_ (fun hHeld => ?_)
      · exact ⟨C1.out, E1.out, E2.out⟩
      clear hK K
      try simp only [Act.put, List.setIfInBounds_toArray, List.set_cons_zero, List.set_cons_succ]
      refine wpAnyH_ready (rs := [19]) (by kernel_rfl) (by simp) ?_
      refine AllReadyH.cons (o := { dst := some 38, op := Op.call { callee := Callee.builtin Builtin.copy, args := #[Operand.tmp 29, Operand.tmp 37], argTypes := #[31, 31] }, type := 3, pos := "ref.go:63", after := #[{ on := 10, ground := Ground.data }, { on := 18, ground := Ground.data }], guard := none }) rfl (fun K hK => ?_) AllReadyH.nil
      refine step_copy_to rfl (.tmp 29) (.tmp 37) 31 31 rfl Try.underlying31 h5 nb (64 * qi) c Dj 64 (64 * k - 64 * qi) _ ⟨x.1, 0, none⟩ _ ((Q[j]).2) rfl rfl (by omega) G1.out X4.out X6.out (by omega) ?_
      intro w1 hb1' ho1
      have f1 := (ho1.cell (A := ⟨m, 1, none⟩) (show m ≠ nb by omega)).trans C1.out
      have f2 := (ho1.cell (A := ⟨wb, j * 2, none⟩) (show wb ≠ nb by omega)).trans E1.out
      have f3 := (ho1.cell (A := ⟨wb, j * 2 + 1, none⟩) (show wb ≠ nb by omega)).trans E2.out
      refine hK.out _ _ ?_ (fun hHeld => ?_)
      · exact ⟨f1, f2, f3⟩
      clear hK K
      try simp only [Act.put, List.setIfInBounds_toArray, List.set_cons_zero, List.set_cons_succ]
      refine wpAnyH_done (by kernel_rfl) ?_ _
      refine NoPanic.normal ?_
      have HN := Lib.hid (HN0.out w1 ⟨ho1.os, ho1.tape, ho1.output, ho1.size, ho1.block⟩ (by rw [Nat.mul_comm qi 64]; exact hb1'))
      clear hb1' ho1 f1 f2 f3 hw64 hb0 hb1
      go_wp2
      go_roundw
      case rel => exact ⟨j + 1, _, by omega, by go_num, HN.out⟩
      case measure => simp [intOf]; omega
    · obtain rfl : j = Q.length := by omega
      have hD : decide ((Q.length : Int) < Q.length) = false := by simp
      have cc0 := hrw.c0
      have ff0 := frozen_of_row wr m 0 _ 60 hrw.here
      have ff1 := frozen_of_row wr m 1 _ 60 hrw.here
      have HE := Lib.hid (rsync_end H.out hR r2)
      clear hR hrw
      go_wp2
      go_end0
      exact HE.out
end Go.Proofs
end

section
namespace Go.Proofs
open Go.RowKit
set_option maxRecDepth 100000
theorem Try.rbytes {w : World} {F : Nat → Prop} {m k db dc wc : Nat} {A : Option Addr} {ds : List (Nat × Nat)} {D : List UInt8} {Q : List (Nat × List UInt8)} (h : RW w F m k db dc A wc ds D Q) (hQ : Q.length ≤ 1000000) :
    Calls Try.prog 32 #[.pointer (some ⟨m, 0, none⟩)] w (Cloned w (64 * k) (dset (fun _ => true) 0 Q D)) := by
  have H := Lib.hid h
  clear h
  go_enter Try.func32, Try.ntmps32
  go_wp2_with fail
  refine (Try.rtwin H.out hQ).mono ?_
  rintro e w1 ⟨m1, rfl, F1, db1, dc1, A1, wc1, ds1, h1, hm1, ch1⟩
  have H1 := Lib.hid h1
  have C1 := Lib.hid ch1
  clear h1 ch1
  go_wp2_with fail
  refine (Try.rsync H1.out hQ).mono ?_
  rintro e w2 ⟨rfl, F2, h2, u2, ch2, db2, c2, hc2, hs2, hb2, hk2⟩
  have hs1 := (C1.out).size
  have HC : Hid (Cloned w (64 * k) (dset (fun _ => true) 0 Q D) (.returned (.slice (some ⟨db2, 0, none⟩) (64 * k) c2)) w2) := Lib.hid ⟨db2, c2, rfl, by omega, hk2, hb2, by
    have q := (C1.out).trans' ch2 (fun b hb e => by have : b = m1 := e; omega)
    exact ⟨q.os, q.tape, q.output, q.size, fun b hb => q.block b hb id⟩⟩
  clear h2 u2 ch2 hb2 hk2
  go_wp2
  go_ret
  exact HC.out
end Go.Proofs
end

section
namespace Go.Proofs
open Go.RowKit
def IsRow (k : IntKind) (w : World) (a : Option Addr) (len cap : Nat) (zs : List Int) : Prop :=
  (a = none ∧ len = 0 ∧ cap = 0 ∧ zs = []) ∨
  ∃ x, a = some x ∧ len ≤ cap ∧ cap ≤ maxLen ∧ zs.length = cap ∧ (∀ i, i < zs.length → w.cell? (x.add i) = some (.int k (zs.getD i 0))) ∧ ∀ n ∈ zs, (Lit.int k n).wf = true
def IsBits (w : World) (a : Option Addr) (len cap : Nat) (B : Nat → Bool) : Prop :=
  (a = none ∧ len = 0 ∧ cap = 0) ∨ ∃ x, a = some x ∧ len ≤ cap ∧ cap ≤ maxLen ∧ ∀ i, i < cap → w.cell? (x.add i) = some (.bool (B i))
theorem IsRow.u8 {w : World} {a : Option Addr} {len cap : Nat} {zs : List Int} (h : IsRow .u8 w a len cap zs) : ∃ l8 : Nat → UInt8, ∀ i, i < len → ∃ x, a = some x ∧ w.cell? (x.add i) = some (u8v (l8 i)) := by
  refine ⟨fun i => UInt8.ofNat (zs.getD i 0).toNat, fun i hi => ?_⟩
  rcases h with ⟨_, rfl, _⟩ | ⟨x, rfl, hl, hm, hz, hc, hw⟩
  · omega
  · refine ⟨x, rfl, ?_⟩
    have hi' : i < zs.length := by omega
    rw [hc i hi']
    have h1 := hw (zs.getD i 0) (by rw [List.getD_eq_getElem?_getD, List.getElem?_eq_getElem hi']; exact List.getElem_mem _)
    simp [Lit.wf, IntKind.min, IntKind.max, IntKind.bits, IntKind.signed] at h1
    unfold u8v
    congr 2
    simp only [UInt8.toNat_ofNat']
    simp only [List.getD_eq_getElem?_getD] at h1 ⊢
    omega
theorem IsBits.keep {w : World} {a : Option Addr} {len cap : Nat} {B : Nat → Bool} (h : IsBits w a len cap B) : ∃ keep : List Bool, keep.length = len ∧ len ≤ 9223372036854775807 ∧ ∀ i, i < len → ∃ x, a = some x ∧ w.cell? (x.add i) = some (.bool (keep.getD i false)) := by
  refine ⟨(List.range len).map B, by simp, ?_, fun i hi => ?_⟩
  · rcases h with ⟨_, rfl, _⟩ | ⟨x, rfl, hl, hm, hc⟩
    · omega
    · unfold maxLen at hm; omega
  · rcases h with ⟨_, rfl, _⟩ | ⟨x, rfl, hl, hm, hc⟩
    · omega
    · refine ⟨x, rfl, ?_⟩
      rw [hc i (by omega), List.getD_eq_getElem?_getD, List.getElem?_map, List.getElem?_range hi]
      rfl
end Go.Proofs
end

section
namespace Go.Proofs
open Go.RowKit
set_option maxRecDepth 100000
theorem fold_str : ∀ (l : List UInt8) (r : ByteArray), (l.map (fun x => (x.toNat : Int))).foldl (fun r n => r.push (UInt8.ofNat n.toNat)) r = ⟨(r.data.toList ++ l).toArray⟩
  | [], r => by simp
  | x :: l, r => by
    simp only [List.map_cons, List.foldl_cons]
    rw [fold_str l]
    simp [ByteArray.push]
theorem str_arg {w : World} {A : Addr} {l : List UInt8} (hc : ∀ j u, (l.map u8v)[j]? = some u → w.cell? (A.add j) = some u) (n c : Nat) (hn : l.length = n) : (convert 31 9 (.slice (some A) n c)).run Try.prog w = .ok (.string (strOf l)) w := by
  subst hn
  rw [run_convert_bytes_string w 31 9 5 (some A) l.length c Try.underlying31 Try.underlying5 Try.underlying9]
  have h : (loadCells A l.length).run Try.prog w = .ok ((l.map (fun x => (x.toNat : Int))).map (Value.int .u8)).toArray w := by
    have := run_loadCells_list (P := Try.prog) w A (l.map u8v) hc
    rw [List.length_map] at this
    rw [this, List.map_map]
    rfl
  rw [run_bytesToString w A l.length c _ h, fold_str]
  rfl
def YesO (w : World) (e : Ending) (w' : World) : Prop := e = .returned (.bool true) ∧ Below w.heap.size w w'
end Go.Proofs
end

section
namespace Go.Proofs
open Go.RowKit
set_option maxRecDepth 100000
def NewRefGood (w : World) (k : Nat) (e : Ending) (w' : World) : Prop := ∃ v, e = .returned (.tuple #[v, .int .i64 0]) ∧ NewRef w k (List.replicate (64 * k) 0) v w'
theorem Try.rnew_good (k : Nat) (h4 : 4 ≤ k) (hk : k ≤ 1024) (w : World) : Calls Try.prog 12 #[.int .i64 k] w (NewRefGood w k) := by
  obtain ⟨i0, hi, hz0, hz1, hz2⟩ := info_parts Try.info5
  have h1 : decide ((k : Nat) < 4) = false := by simp; omega
  have h2 : decide (1024 < (k : Nat)) = false := by simp; omega
  have h3 : ¬ ((k : Nat) < 4) := by omega
  have h5 : ¬ (1024 < (k : Nat)) := by omega
  have hb2 : i0.bytes * (64 * k) ≤ 281474976710656 := by rw [hz2]; omega
  go_enter Try.func12, Try.ntmps12
  go_wp2_with (at_make; refine wpList_make_full w rfl _ _ 31 rfl w.heap.size 5 i0 (.int .u8 0) 1 Try.underlying31 hi hz0 hz1 _ _ _ _ (64 * k) rfl rfl (by omega) (by omega) hb2 (by unfold maxLen; omega) (Nat.le_refl _) ?_)
  intro w1 hown hg
  rw [made_u8] at hown
  obtain ⟨hl, b, c, he, hb, hc, hby⟩ := BY.own hown (by simp)
  obtain ⟨rfl, rfl⟩ : w.heap.size = b ∧ 64 * k = c := by simpa using he
  have hbel : Below w.heap.size w w1 := (Below.refl _ w).grown hg (Nat.le_refl _) (fun k hk => by simp at hk)
  have H := Lib.hid (newref_of hk hl (Nat.le_refl _) (Nat.le_refl _) hby hbel)
  clear hg hown he hl hby hb hc hbel
  go_wp2
  go_ret2
  exact ⟨_, rfl, H.out⟩
def WaitsV (B n : Nat) (v : Value) : Prop := ∃ b c, v = .slice (some ⟨b, 0, none⟩) n c ∧ B ≤ b
theorem wpList_waits_empty {P : Program} (w : World) {ops : Array Oper} {rest : List Oper} {o : Oper} {a : Act} {Q' : Exit → Act → World → Prop} (hgd : o.guard = none) (s x : Operand)
    (hop : o.op = Op.call { callee := Callee.builtin Builtin.append, args := #[s, x], argTypes := #[58, 58] }) (ht : P.underlying 58 = some (.slice 76)) (hq : (P.info? 76).map (fun i => (i.zero, i.size, i.bytes)) = some (some (.agg #[.int .i64 0, .slice none 0 0]), 2, 32))
    (A : Option Addr) (wc : Nat) (Q : List (Nat × List UInt8)) (ds : List (Nat × Nat)) (hlen : Q.length = ds.length) (hs : a.eval s = .slice (some ⟨w.heap.size, 0, none⟩) 0 0) (hx : a.eval x = .slice A Q.length wc) (hn : Q.length ≤ 1000000)
    (hA : (A = none ∧ Q = [] ∧ wc = 0) ∨ ∃ b, A = some ⟨b, 0, none⟩ ∧ ∀ i u, (wCells Q ds)[i]? = some u → w.cell? ⟨b, i, none⟩ = some u)
    (hK : ∀ v w1, w1.ownsRow w.heap.size 76 2 v Q.length (wCells Q ds) → WaitsV w.heap.size Q.length v → Below w.heap.size w w1 → wpList P ops Q' rest (a.put o.dst v) w1) : wpList P ops Q' (o :: rest) a (w.alloc (.cells #[] 76)) := by
  refine wpList_plain hgd fun K hK' => ?_
  obtain ⟨i0, hi, hz0, hz1, hz2⟩ := info_parts hq
  have hown := own_at (W := w.alloc (.cells #[] 76)) (e := 76) (size := 2) (heap_alloc_new w _) (Nat.le_refl w.heap.size)
  rcases hA with ⟨rfl, rfl, rfl⟩ | ⟨wb, rfl, hcells⟩
  · have hrun := run_append_owned_none (P := P) (w.alloc (.cells #[] 76)) w.heap.size 58 o.type 76 i0 2 ht hi _ _ _ hown
    unfold Oper.wp
    simp only [List.length_nil] at hx
    simp [execOp, hop, resolve, invoke, builtin, hs, hx, hrun, Result.andThen]
    exact hK' _ _ (hK _ _ hown ⟨_, _, rfl, Nat.le_refl _⟩ ((Below.refl _ w).alloc (Nat.le_refl _) _))
  · obtain ⟨v, w1, r1, r2, r3, r4⟩ := run_append_own (P := P) (w.alloc (.cells #[] 76)) w.heap.size 58 o.type 76 i0 (.agg #[.int .i64 0, .slice none 0 0]) 2 32 ht hi hz0 hz1 hz2 rfl (by decide) _ _ _ hown ⟨wb, 0, none⟩ Q.length wc (wCells Q ds) (wCells_len _ _ hlen) (fun j u hu => by rw [add_none, Nat.zero_add]; exact cellA (hcells j u hu) _) (wCells_one Q ds) (by unfold maxLen; omega) (by omega) (by simp)
    have hv : v ≠ .slice none 0 0 := fun q => by have := (r4.1 q).1; simp at this
    have hbel : Below w.heap.size w w1 := ((Below.refl _ w).alloc (Nat.le_refl _) _).grown r3 (by simp) (fun k hk => by simp [Value.ownBlock] at hk; omega)
    rw [Nat.zero_add, List.nil_append] at r2
    unfold Oper.wp
    simp [execOp, hop, resolve, invoke, builtin, hs, hx, r1, Result.andThen]
    refine hK' _ _ (hK _ _ r2 ?_ hbel)
    rcases r2.2 with ⟨e, _⟩ | ⟨g2, cap, cur, e, hb2, _⟩
    · exact absurd e hv
    · exact ⟨g2, cap, e, hb2⟩
def IsSl (v : Value) : Prop := ∃ A n c, v = .slice A n c
theorem wpList_append_at {P : Program} {ops : Array Oper} {rest : List Oper} {o : Oper} {a : Act} {w : World} {Q : Exit → Act → World → Prop} (hg : o.guard = none) (s x : Operand) (t : TypeId) (hop : o.op = Op.call { callee := Callee.builtin Builtin.append, args := #[s, x], argTypes := #[t, t] })
    (e : TypeId) (i : TypeInfo) (z : Value) (size bytes : Nat) (h1 : P.underlying t = some (.slice e)) (h2 : P.info? e = some i) (h3 : i.zero = some z) (h4 : i.size = size) (h5 : i.bytes = bytes) (h6 : z.cells.size = size) (h7 : 0 < size)
    (v : Value) (n : Nat) (xs : List Value) (hs : a.eval s = v) (hown : w.ownsRow 0 e size v n xs)
    (ad : Addr) (m c : Nat) (news : List Value) (hx : a.eval x = .slice (some ad) m c) (hn : news.length = m * size) (hc : ∀ j u, news[j]? = some u → w.cell? (ad.add j) = some u) (h1c : ∀ u ∈ news, u.oneCell' = true)
    (b1 : n + m ≤ maxLen) (b2 : (n + m) * bytes ≤ 140737488355328)
    (hK : ∀ v' w', w'.ownsRow 0 e size v' (n + m) (xs ++ news) → Chg w w' (· ∈ vblk v) → (∀ b ∈ vblk v', b ∈ vblk v ∨ w.heap.size ≤ b) → IsSl v' → wpList P ops Q rest (a.put o.dst v') w') : wpList P ops Q (o :: rest) a w := by
  refine wpList_plain hg fun K hK' => ?_
  obtain ⟨v', w', hrun, r1, r2, r3, r4⟩ := run_append_at (P := P) w t o.type e i z size bytes h1 h2 h3 h4 h5 h6 h7 v n xs hown ad m c news hn hc h1c b1 b2
  unfold Oper.wp
  simp [execOp, hop, resolve, invoke, builtin, hs, hx, hrun, Result.andThen]
  exact hK' _ _ (hK v' w' r1 r2 r3 r4)
end Go.Proofs
end

section
namespace Go.Proofs
open Go.RowKit
set_option maxRecDepth 100000
theorem own_zero {w : World} {B : Nat} {e : TypeId} {size : Nat} {v : Value} {n : Nat} {xs : List Value} (h : w.ownsRow B e size v n xs) : w.ownsRow 0 e size v n xs := by
  refine ⟨h.1, ?_⟩
  rcases h.2 with q | ⟨g, cap, cur, e, _, r⟩
  · exact .inl q
  · exact .inr ⟨g, cap, cur, e, Nat.zero_le _, r⟩
theorem rwaits_end {w w3 : World} {F : Nat → Prop} {m k db dc wc : Nat} {A : Option Addr} {ds ds' : List (Nat × Nat)} {D : List UInt8} {Q Q' : List (Nat × List UInt8)} {v' : Value} (h : RW w F m k db dc A wc ds D Q) (hc : Chg w w3 (fun _ => False))
    (how : w3.ownsRow 0 76 2 v' Q'.length (wCells Q' ds')) (hv : v' = .slice none 0 0 ∨ ∃ b c, v' = .slice (some ⟨b, 0, none⟩) Q'.length c ∧ w.heap.size ≤ b) (hal : AllW w3 (fun b => F b ∨ (w.heap.size ≤ b ∧ b < w3.heap.size)) [m] k Q' ds') :
    ∃ F', RV (w3.setCell ⟨m, 1, none⟩ v') F' m k D Q' ∧ Upd w (w3.setCell ⟨m, 1, none⟩ v') F F' ∧ Chg w (w3.setCell ⟨m, 1, none⟩ v') (· = m) := by
  have hs := hc.size
  have hml := h.lt m h.fm
  have hdl := h.lt db h.fd
  have hsz : (w3.setCell ⟨m, 1, none⟩ v').heap.size = w3.heap.size := by simp [World.setCell]
  have hk : ∀ b, b ≠ m → (w3.setCell ⟨m, 1, none⟩ v').heap[b]? = w3.heap[b]? := fun b q => Below.heap_setCell _ _ _ _ q
  have hch : Chg w (w3.setCell ⟨m, 1, none⟩ v') (· = m) := (hc.mono (S' := (· = m)) (fun b q => q.elim)).trans (Chg.setCell w3 ⟨m, 1, none⟩ v')
  have here : (w3.setCell ⟨m, 1, none⟩ v').heap[m]? = some (.cells #[.slice (some ⟨db, 0, none⟩) (64 * k) dc, v'] 60 (0, 0)) := by
    rw [heap_setCell_same w3 m 1 _ 60 v' ((hc.block m hml id).trans h.here)]; rfl
  have hal' : AllW (w3.setCell ⟨m, 1, none⟩ v') (fun b => F b ∨ (w.heap.size ≤ b ∧ b < w3.heap.size)) [m] k Q' ds' := AllW.stay (fun b q => q) (fun b q1 q2 => ⟨hk b (fun e => q2 (by simp [e])), q2⟩) _ _ hal
  have hbd := (h.bd.congr (hc.block db hdl id)).congr (hk db h.md.symm)
  have hlt : ∀ b, (F b ∨ (w.heap.size ≤ b ∧ b < w3.heap.size)) → b < (w3.setCell ⟨m, 1, none⟩ v').heap.size := fun b q => by
    rw [hsz]
    rcases q with q | q
    · exact Nat.lt_of_lt_of_le (h.lt b q) hs
    · exact q.2
  refine ⟨fun b => F b ∨ (w.heap.size ≤ b ∧ b < w3.heap.size), ?_, ⟨hch.os, hch.tape, hch.output, hch.size, fun b hb hn => hch.block b hb (fun q => hn (q ▸ h.fm)), fun b q => q.imp id (·.1)⟩, hch⟩
  rcases hv with rfl | ⟨b, c, rfl, hb⟩
  · have hQ0 : Q' = [] := by
      rcases how.2 with ⟨_, q⟩ | ⟨g, cap, cur, e, _⟩
      · exact List.eq_nil_of_length_eq_zero q
      · simp at e
    subst hQ0
    exact ⟨db, dc, none, 0, ds', hlt, here, .inl h.fm, .inl h.fd, h.md, h.hk, h.Dl, hbd, h.dc', .inl ⟨rfl, rfl, rfl⟩, hal'⟩
  · have hcells := how.cells (g := b) rfl
    have hcap : Q'.length ≤ c ∧ b < w3.heap.size := by
      rcases how.2 with ⟨q, _⟩ | ⟨g, cap, cur, e, _, hg, hn, _⟩
      · simp at q
      · simp at e
        obtain ⟨rfl, rfl⟩ := e
        exact ⟨hn, (Array.getElem?_eq_some_iff.1 hg).1⟩
    exact ⟨db, dc, some ⟨b, 0, none⟩, c, ds', hlt, here, .inl h.fm, .inl h.fd, h.md, h.hk, h.Dl, hbd, h.dc', .inr ⟨b, rfl, .inr ⟨hb, hcap.2⟩, by omega, hcap.1, fun i u hu => by
      have := hcells i u hu
      rw [add_none, Nat.zero_add] at this
      exact (World.cell?_of_block (w := w3) (a := ⟨b, i, none⟩) (hk b (by omega))).trans this⟩, hal'⟩
def RWritten (w : World) (F : Nat → Prop) (m k : Nat) (D : List UInt8) (Q : List (Nat × List UInt8)) (e : Ending) (w' : World) : Prop := e = .returned (.int .i64 0) ∧ ∃ F', RV w' F' m k D Q ∧ Upd w w' F F' ∧ Chg w w' (· = m)
set_option maxHeartbeats 1000000 in
theorem Try.rwrite_good {w : World} {F : Nat → Prop} {m k db dc wc : Nat} {A : Option Addr} {ds : List (Nat × Nat)} {D : List UInt8} {Q : List (Nat × List UInt8)} (h : RW w F m k db dc A wc ds D Q) (hQ : Q.length ≤ 1000000) (i : Nat) (hi : i < k)
    (X : Addr) (mm : Nat) (bb : List UInt8) (hl : bb.length = 64) (hc : ∀ j u, (bb.map u8v)[j]? = some u → w.cell? (X.add j) = some u) :
    Calls Try.prog 14 #[.pointer (some ⟨m, 0, none⟩), .int .i64 i, .slice (some X) 64 mm] w (RWritten w F m k D (Q ++ [(i, bb)])) := by
  have H := Lib.hid h
  have c0 := h.c0
  have c1 := h.c1
  have a1 := cellA c1
  have hk := h.hk
  have h16 : 64 * k ≤ 65536 := by omega
  have hq : 64 * k / 64 = k := by omega
  have q1 : decide ((i : Int) < 0) = false := by simp
  have q2 : decide ((k : Int) ≤ i) = false := by simp; omega
  have HLEN := Lib.hid (AllW.len _ _ h.al)
  have HC := Lib.hid hc
  have HL := Lib.hid hl
  have HAW : Hid ((A = none ∧ Q = [] ∧ wc = 0) ∨ ∃ b, A = some ⟨b, 0, none⟩ ∧ ∀ i u, (wCells Q ds)[i]? = some u → w.cell? ⟨b, i, none⟩ = some u) := Lib.hid (by
    rcases h.aw with q | ⟨b, q1, q2, q3, q4, q5⟩
    · exact .inl q
    · exact .inr ⟨b, q1, q5⟩)
  obtain ⟨i0, hi76, hz0, hz1, hz2⟩ := info_parts Try.info76
  clear h hc hl
  go_enter Try.func14, Try.ntmps14
  go_wp2_with (first
    | (go_at_call 40; refine (Try.rblocks _ _ _ _ h16 _ c0).mono ?_; rintro e w' ⟨rfl, rfl⟩; rw [hq])
    | (at_builtin; refine wpList_waits_empty w rfl (.tmp 21) (.tmp 25) rfl Try.underlying58 Try.info76 A wc Q ds HLEN.out rfl rfl hQ HAW.out ?_))
  rintro v1 w1 how1 ⟨b1, cb1, rfl, hb1⟩ hw1
  have HW1 := Lib.hid how1
  have HB1 := Lib.hid hw1
  have HC1 := Lib.hid (cells_below HC.out hw1)
  clear how1 hw1 a1 c0 c1
  go_wp2_with (at_builtin; refine wpList_app_empty w1 rfl (.tmp 28) (.tmp 29) rfl Try.underlying31 Try.info5 X 64 mm bb rfl rfl HL.out (by omega) HC1.out ?_)
  intro nb c w2 r1 r2 r3 r4
  have HB2 := Lib.hid r4
  have HY := Lib.hid r3
  have hb63 : Q.length + 1 ≤ maxLen := by unfold maxLen; omega
  have HW2 : Hid (w2.ownsRow 0 76 2 (.slice (some ⟨b1, 0, none⟩) Q.length cb1) Q.length (wCells Q ds)) := Lib.hid (own_stay (own_zero HW1.out) (fun b hb => r4.block b (own_lt (own_zero HW1.out) b hb)))
  have HW3 : Hid (∀ o, (w2.alloc o).ownsRow 0 76 2 (.slice (some ⟨b1, 0, none⟩) Q.length cb1) Q.length (wCells Q ds)) := Lib.hid (fun o => own_stay HW2.out (fun b hb => Below.heap_alloc w2 o b (own_lt HW2.out b hb)))
  clear r3 r4
  go_wp2_with (at_builtin; refine wpList_append_at rfl (.tmp 26) (.tmp 32) 58 rfl 76 i0 (.agg #[.int .i64 0, .slice none 0 0]) 2 32 Try.underlying58 hi76 hz0 hz1 hz2 rfl (by decide) _ Q.length (wCells Q ds) rfl (HW3.out _) _ 1 1 [.int .i64 (i : Int), .slice (some ⟨nb, 0, none⟩) 64 c] rfl rfl (cells_at_new w2 76 _) (by simp [Value.oneCell']) hb63 (by omega) ?_)
  intro v' w3 how3 ch3 hv3 hvs
  obtain ⟨A', n', c', rfl⟩ := hvs
  have s1 := (HB1.out).size
  have s2 := (HB2.out).size
  have k3 : Chg w w3 (fun _ => False) := (((Chg.below HB1.out (fun _ => False)).trans (Chg.below HB2.out (fun _ => False))).trans (Chg.alloc w2 _ _)).trans' ch3 (fun b hb e => by
    simp [vblk] at e; omega)
  have here3 := (k3.block m ((H.out).lt m (H.out).fm) id).trans (H.out).here
  have z1 : w3.cell? ⟨m, 1, none⟩ = some (.slice A Q.length wc) := by rw [cell_of_row w3 m 1 _ 60 (0, 0) here3]; rfl
  have z2 := frozen_of_row w3 m 1 _ 60 here3
  have HE : Hid (RWritten w F m k D (Q ++ [(i, bb)]) (.returned (.int .i64 0)) (w3.setCell ⟨m, 1, none⟩ (.slice A' n' c'))) := by
    refine Lib.hid ⟨rfl, ?_⟩
    have hnl := (HY.out).lt
    have e1 : wCells (Q ++ [(i, bb)]) (ds ++ [(nb, c)]) = wCells Q ds ++ [.int .i64 (i : Int), .slice (some ⟨nb, 0, none⟩) 64 c] := wCells_snoc (i, bb) (nb, c) Q ds HLEN.out
    have hnv : nb ≠ b1 := fun e => by
      have := own_lt (own_zero HW1.out) b1 (by simp [vblk])
      omega
    refine rwaits_end (ds' := ds ++ [(nb, c)]) H.out k3 (by rw [e1, List.length_append]; exact how3) ?_ ?_
    · right
      rcases how3.2 with ⟨q, q0⟩ | ⟨g, cap, cur, e, _⟩
      · simp at q0
      · simp at e
        obtain ⟨rfl, rfl, rfl⟩ := e
        refine ⟨g, c', by simp, ?_⟩
        rcases hv3 g (by simp [vblk]) with q | q
        · simp [vblk] at q; omega
        · (try simp at q); omega
    · have hn3 : nb < w3.heap.size := Nat.lt_of_lt_of_le (Nat.lt_of_lt_of_le hnl (Chg.alloc w2 _ (fun _ => False)).size) ch3.size
      have hy3 : BY w3 nb bb c := ((HY.out).congr (Below.heap_alloc w2 _ nb hnl)).congr (ch3.block nb (by simp; omega) (fun e => by simp [vblk] at e; exact hnv e))
      have hml := (H.out).lt m (H.out).fm
      have hnm : nb ∉ [m] := fun q => by have : nb = m := List.mem_singleton.1 q; omega
      exact AllW.snoc (q := (i, bb)) (x := (nb, c)) ⟨.inr ⟨by show w.heap.size ≤ nb; omega, hn3⟩, hnm, HL.out, hi, hy3, r2⟩ _ _ (AllW.stay (fun b q => .inl q) (fun b q1 q2 => ⟨k3.block b ((H.out).lt b q1) id, q2⟩) _ _ (H.out).al)
  clear how3 ch3 hv3 k3 here3
  go_wp2
  go_ret
  exact HE.out
end Go.Proofs
end

section
namespace Go.Proofs
open Go.RowKit
set_option maxRecDepth 100000
def fq {α : Type} (kp : Nat → Bool) : Nat → List α → List α
  | _, [] => []
  | j, q :: Q => if kp j then q :: fq kp (j + 1) Q else fq kp (j + 1) Q
theorem fq_snoc {α : Type} (kp : Nat → Bool) (q : α) : ∀ (Q : List α) (j : Nat), fq kp j (Q ++ [q]) = fq kp j Q ++ if kp (j + Q.length) then [q] else []
  | [], j => by simp only [List.nil_append, fq, List.length_nil, Nat.add_zero]
  | p :: Q, j => by
    simp only [List.cons_append, fq, List.length_cons]
    rw [fq_snoc kp q Q (j + 1), show j + 1 + Q.length = j + (Q.length + 1) by omega]
    by_cases h : kp j = true <;> simp [h]
theorem fq_len {α β : Type} (kp : Nat → Bool) : ∀ (Q : List α) (D : List β) (j : Nat), Q.length = D.length → (fq kp j Q).length = (fq kp j D).length
  | [], [], _, _ => rfl
  | q :: Q, x :: D, j, h => by
    have := fq_len kp Q D (j + 1) (by simpa using h)
    simp only [fq]
    by_cases hk : kp j = true <;> simp [hk, this]
  | [], _ :: _, _, h => by simp at h
  | _ :: _, [], _, h => by simp at h
theorem AllW.fq {w : World} {F : Nat → Prop} {ns : List Nat} {k : Nat} (kp : Nat → Bool) : ∀ (Q : List (Nat × List UInt8)) (ds : List (Nat × Nat)) (j : Nat), AllW w F ns k Q ds → AllW w F ns k (Proofs.fq kp j Q) (Proofs.fq kp j ds)
  | [], [], _, _ => trivial
  | q :: Q, x :: ds, j, h => by
    have := AllW.fq kp Q ds (j + 1) h.2
    simp only [Proofs.fq]
    by_cases hk : kp j = true
    · simp only [hk, if_true]; exact ⟨h.1, this⟩
    · simp only [hk]; exact this
  | [], _ :: _, _, h => h.elim
  | _ :: _, [], _, h => h.elim
structure CRel (w : World) (Q : List (Nat × List UInt8)) (ds : List (Nat × Nat)) (kp : Nat → Bool) (j : Nat) (v : Value) (wr : World) : Prop where
  le : j ≤ Q.length
  ow : wr.ownsRow 0 76 2 v (fq kp 0 (Q.take j)).length (wCells (fq kp 0 (Q.take j)) (fq kp 0 (ds.take j)))
  nb : ∀ b ∈ vblk v, w.heap.size ≤ b
  ch : Chg w wr (fun _ => False)
theorem CRel.skip {w wr : World} {Q : List (Nat × List UInt8)} {ds : List (Nat × Nat)} {kp : Nat → Bool} {j : Nat} {v : Value} (h : CRel w Q ds kp j v wr) (hl : Q.length = ds.length) (hj : j < Q.length) (hk : kp j = false) : CRel w Q ds kp (j + 1) v wr := by
  have e1 : fq kp 0 (Q.take (j + 1)) = fq kp 0 (Q.take j) := by
    rw [List.take_succ_eq_append_getElem hj, fq_snoc]; simp [Nat.min_eq_left (Nat.le_of_lt hj), hk]
  have e2 : fq kp 0 (ds.take (j + 1)) = fq kp 0 (ds.take j) := by
    rw [List.take_succ_eq_append_getElem (by omega), fq_snoc]; simp [Nat.min_eq_left (show j ≤ ds.length by omega), hk]
  exact ⟨by omega, by rw [e1, e2]; exact h.ow, h.nb, h.ch⟩
theorem CRel.next {w wr w1 : World} {Q : List (Nat × List UInt8)} {ds : List (Nat × Nat)} {kp : Nat → Bool} {j : Nat} {v v' : Value} {O : Obj} {x : Nat × Nat} (h : CRel w Q ds kp j v wr) (hl : Q.length = ds.length) (hj : j < Q.length) (hk : kp j = true) (hx : ds[j]? = some x)
    (ow : w1.ownsRow 0 76 2 v' ((fq kp 0 (Q.take j)).length + 1) (wCells (fq kp 0 (Q.take j)) (fq kp 0 (ds.take j)) ++ [.int .i64 ((Q[j]).1 : Int), .slice (some ⟨x.1, 0, none⟩) 64 x.2]))
    (hc : Chg (wr.alloc O) w1 (· ∈ vblk v)) (hv : ∀ b ∈ vblk v', b ∈ vblk v ∨ (wr.alloc O).heap.size ≤ b) : CRel w Q ds kp (j + 1) v' w1 := by
  have hdl : j < ds.length := by omega
  have hxe : ds[j] = x := by rw [List.getElem?_eq_getElem hdl] at hx; exact Option.some.inj hx
  have e1 : fq kp 0 (Q.take (j + 1)) = fq kp 0 (Q.take j) ++ [Q[j]] := by
    rw [List.take_succ_eq_append_getElem hj, fq_snoc]; simp [Nat.min_eq_left (Nat.le_of_lt hj), hk]
  have e2 : fq kp 0 (ds.take (j + 1)) = fq kp 0 (ds.take j) ++ [x] := by
    rw [List.take_succ_eq_append_getElem hdl, fq_snoc, hxe]; simp [Nat.min_eq_left (show j ≤ ds.length by omega), hk]
  have hs := h.ch.size
  refine ⟨by omega, ?_, fun b hb => ?_, ?_⟩
  · rw [e1, e2, wCells_snoc _ _ _ _ (fq_len kp _ _ 0 (by simp [hl])), List.length_append]
    exact ow
  · rcases hv b hb with q | q
    · exact h.nb b q
    · simp at q; omega
  · refine (h.ch.trans (Chg.alloc wr O _)).trans' hc (fun b hb q => ?_)
    have := h.nb b q
    omega
def RCrashed (w : World) (F : Nat → Prop) (m k : Nat) (D : List UInt8) (e : Ending) (w' : World) : Prop := e = .returned (.tuple #[]) ∧ ∃ F', RV w' F' m k D [] ∧ Upd w w' F F' ∧ Chg w w' (· = m)
theorem Upd.compR {a b c : World} {F F1 F2 : Nat → Prop} (h1 : Upd a b F F1) (h2 : Upd b c F1 F2) : Upd a c F F2 :=
  ⟨h2.os.trans h1.os, h2.tape.trans h1.tape, h2.output.trans h1.output, Nat.le_trans h1.size h2.size, fun x hx hn => (h2.block x (Nat.lt_of_lt_of_le hx h1.size) (fun q => by rcases h1.grow x q with q | q; exact hn q; omega)).trans (h1.block x hx hn), fun x hx => by
    rcases h2.grow x hx with q | q
    · exact h1.grow x q
    · exact .inr (Nat.le_trans h1.size q)⟩
end Go.Proofs
end

section
namespace Go.Proofs
open Go.RowKit
set_option maxRecDepth 100000
theorem Settled.upd {w w' : World} {F : Nat → Prop} {d k lb cl tb ct : Nat} {L T : List UInt8} {e : Ending} (h : Settled w F d k lb cl tb ct L T e w') : Upd w w' F F := by
  obtain ⟨_, h1, h2⟩ := h
  exact ⟨h2.os, h2.tape, h2.output, h2.size, fun b hb hn => h2.block b hb (fun q => hn (by rcases q with rfl | rfl; exact h1.fl; exact h1.fd)), fun b hb => .inl hb⟩
def Crashed (w : World) (F : Nat → Prop) (d k : Nat) (L : List UInt8) (e : Ending) (w' : World) : Prop := e = .returned (.tuple #[]) ∧ ∃ F', DV w' F' d k L L [] ∧ Upd w w' F F'
end Go.Proofs
end

section
namespace Go.Proofs
open Go.RowKit
set_option maxRecDepth 100000
theorem DW.stay {w w' : World} {F S : Nat → Prop} {d k lb cl tb ct : Nat} {vw : Value} {ds : List (Nat × Nat)} {L T : List UInt8} {Q : List (Nat × List UInt8)} (hd : DW w F d k lb cl tb ct vw ds L T Q) (hc : Chg w w' S) (hS : ∀ b, F b → ¬ S b) :
    DW w' F d k lb cl tb ct vw ds L T Q := by
  have hb : ∀ b, F b → w'.heap[b]? = w.heap[b]? := fun b h => hc.block b (hd.lt b h) (hS b h)
  exact ⟨fun b h => Nat.lt_of_lt_of_le (hd.lt b h) hc.size, (hb d hd.fd).trans hd.here, hd.fd, hd.fl, hd.ft, hd.dl, hd.dt, hd.lt', hd.hk, hd.Ll, hd.Tl, hd.bl.congr (hb lb hd.fl), hd.bt.congr (hb tb hd.ft), hd.cl', hd.ct', own_stay hd.ow (fun b h => hb b (hd.fw b h).1), hd.fw, AllW.stay (fun b q => q) (fun b q1 q2 => ⟨hb b q1, q2⟩) _ _ hd.al⟩
theorem DV.stay {w w' : World} {F S : Nat → Prop} {d k : Nat} {L T : List UInt8} {Q : List (Nat × List UInt8)} (hd : DV w F d k L T Q) (hc : Chg w w' S) (hS : ∀ b, F b → ¬ S b) : DV w' F d k L T Q := by
  obtain ⟨lb, cl, tb, ct, vw, ds, h⟩ := hd
  exact ⟨lb, cl, tb, ct, vw, ds, h.stay hc hS⟩
def TwinAt (w : World) (k : Nat) (L T : List UInt8) (Q : List (Nat × List UInt8)) (d : Nat) (wr : World) : Prop := ∃ F, DV wr F d k L T Q ∧ Chg w wr (fun _ => False) ∧ ∀ b, F b → w.heap.size ≤ b
end Go.Proofs
end

section
namespace Go.Proofs
open Go.RowKit
set_option maxRecDepth 100000
def YesW (w : World) (e : Ending) (w' : World) : Prop := e = .returned (.bool true) ∧ Below w.heap.size w w'
def Disj (F G : Nat → Prop) : Prop := ∀ b, F b → G b → False
theorem DV.lt {w : World} {F : Nat → Prop} {d k : Nat} {L T : List UInt8} {Q : List (Nat × List UInt8)} (h : DV w F d k L T Q) : ∀ b, F b → b < w.heap.size := by
  obtain ⟨lb, cl, tb, ct, vw, ds, h⟩ := h
  exact h.lt
theorem DV.other {w w' : World} {F F1 F1' : Nat → Prop} {d k : Nat} {L T : List UInt8} {Q : List (Nat × List UInt8)} (h : DV w F d k L T Q) (hu : Upd w w' F1 F1') (hx : Disj F1 F) : DV w' F d k L T Q ∧ Disj F1' F := by
  refine ⟨h.stay (S := F1) ⟨hu.os, hu.tape, hu.output, hu.size, hu.block⟩ (fun b hb q => hx b q hb), fun b h1 h2 => ?_⟩
  rcases hu.grow b h1 with q | q
  · exact hx b q h2
  · have := h.lt b h2
    omega
theorem cellW {w W : World} {p : Addr} {v : Value} (h : w.cell? p = some v) (hb : Below w.heap.size w W) : W.cell? p = some v := (hb.cell (block_lt_of_cell h)).trans h
theorem Upd.belowW {w w' : World} {F F' : Nat → Prop} (h : Upd w w' F F') {B : Nat} (hF : ∀ b, F b → B ≤ b) (hB : B ≤ w.heap.size) : Below B w w' :=
  ⟨h.os, h.tape, h.output, h.size, fun b hb => h.block b (by omega) (fun q => by have := hF b q; omega)⟩
theorem Upd.lowW {w w' : World} {F F' : Nat → Prop} (h : Upd w w' F F') {B : Nat} (hF : ∀ b, F b → B ≤ b) (hB : B ≤ w.heap.size) : ∀ b, F' b → B ≤ b := fun b hb => by
  rcases h.grow b hb with q | q
  · exact hF b q
  · omega
structure RA (w0 : World) (d : Nat) (L0 : List UInt8) (j : Nat) (wr : World) : Prop where
  ex : ∃ F T Q, DV wr F d 6 L0 T Q ∧ Q.length = j ∧ ∀ b, F b → w0.heap.size ≤ b
  bel : Below w0.heap.size w0 wr
structure RB (w0 : World) (d t u : Nat) (L0 T : List UInt8) (Q : List (Nat × List UInt8)) (j : Nat) (wr : World) : Prop where
  ex : ∃ Fd Ft Fu Tt Qt, DV wr Fd d 6 L0 T Q ∧ DV wr Ft t 6 L0 Tt Qt ∧ DV wr Fu u 6 L0 T Q ∧ Qt.length = j ∧ Disj Ft Fd ∧ Disj Ft Fu ∧ Disj Fd Fu ∧ (∀ b, Fd b → w0.heap.size ≤ b) ∧ (∀ b, Ft b → w0.heap.size ≤ b) ∧ (∀ b, Fu b → w0.heap.size ≤ b)
  bel : Below w0.heap.size w0 wr
theorem TwinAt.below {w w' : World} {k d : Nat} {L T : List UInt8} {Q : List (Nat × List UInt8)} (h : TwinAt w k L T Q d w') : Below w.heap.size w w' := by
  obtain ⟨F, _, h, _⟩ := h
  exact ⟨h.os, h.tape, h.output, h.size, fun b hb => h.block b hb id⟩
structure R3 (w0 wr : World) (d t u : Nat) (Ld Td : List UInt8) (Qd : List (Nat × List UInt8)) (Lt Tt : List UInt8) (Qt : List (Nat × List UInt8)) (Lu Tu : List UInt8) (Qu : List (Nat × List UInt8)) (Fd Ft Fu : Nat → Prop) : Prop where
  d : DV wr Fd d 6 Ld Td Qd
  t : DV wr Ft t 6 Lt Tt Qt
  u : DV wr Fu u 6 Lu Tu Qu
  x1 : Disj Ft Fd
  x2 : Disj Ft Fu
  x3 : Disj Fd Fu
  y1 : ∀ b, Fd b → w0.heap.size ≤ b
  y2 : ∀ b, Ft b → w0.heap.size ≤ b
  y3 : ∀ b, Fu b → w0.heap.size ≤ b
  bel : Below w0.heap.size w0 wr
section
variable {w0 wr w' : World} {d t u : Nat} {Ld Td Lt Tt Lu Tu L' T' : List UInt8} {Qd Qt Qu Q' : List (Nat × List UInt8)} {Fd Ft Fu F' : Nat → Prop}
theorem Disj.symm {F G : Nat → Prop} (h : Disj F G) : Disj G F := fun b x y => h b y x
theorem R3.below (h : R3 w0 wr d t u Ld Td Qd Lt Tt Qt Lu Tu Qu Fd Ft Fu) (hb : Below wr.heap.size wr w') : R3 w0 w' d t u Ld Td Qd Lt Tt Qt Lu Tu Qu Fd Ft Fu :=
  ⟨h.d.stay (Chg.below hb (fun _ => False)) (fun _ _ => id), h.t.stay (Chg.below hb (fun _ => False)) (fun _ _ => id), h.u.stay (Chg.below hb (fun _ => False)) (fun _ _ => id), h.x1, h.x2, h.x3, h.y1, h.y2, h.y3, h.bel.trans (hb.mono h.bel.size)⟩
end
end Go.Proofs
end

section
namespace Go.Proofs
open Go.RowKit
set_option maxRecDepth 100000
def Blk8 (M : List UInt8) (want : List UInt8) : Prop := M.length = 512 ∧ want.length = 8 ∧ ∀ i, i < 8 → (M.drop (i * 64)).take 64 = List.replicate 64 (want.getD i 0)
theorem win_other (T bb : List UInt8) (b i k : Nat) (hT : T.length = 64 * k) (hb : b < k) (hbb : bb.length = 64) (hne : i ≠ b) : ((T.take (b * 64) ++ (bb ++ T.drop (b * 64 + 64))).drop (i * 64)).take 64 = (T.drop (i * 64)).take 64 := by
  apply List.ext_getElem?
  intro j
  simp only [List.getElem?_take, List.getElem?_drop]
  by_cases hj : j < 64
  · simp only [hj, if_true]
    have h1 : (T.take (b * 64)).length = b * 64 := by simp; omega
    by_cases hlt : i < b
    · rw [List.getElem?_append_left (by omega), List.getElem?_take, if_pos (by omega)]
    · rw [List.getElem?_append_right (by omega), List.getElem?_append_right (by omega), List.getElem?_drop, h1, hbb]
      congr 1
      omega
  · simp [hj]
theorem win_same' (T bb : List UInt8) (i k : Nat) (hT : T.length = 64 * k) (hi : i < k) (hb : bb.length = 64) : ((T.take (i * 64) ++ (bb ++ T.drop (i * 64 + 64))).drop (i * 64)).take 64 = bb := by
  have := win_same T bb i k hT hi hb
  rwa [Nat.mul_comm 64 i] at this
theorem Blk8.splice {M want : List UInt8} (h : Blk8 M want) (b : Nat) (hb : b < 8) (x : UInt8) : Blk8 (M.take (b * 64) ++ (List.replicate 64 x ++ M.drop (b * 64 + 64))) (want.set b x) := by
  obtain ⟨h1, h2, h3⟩ := h
  refine ⟨by simp; omega, by simpa using h2, fun i hi => ?_⟩
  by_cases e : i = b
  · subst e
    rw [win_same' M _ i 8 h1 hi (by simp)]
    rw [List.getD_eq_getElem?_getD, List.getElem?_set_self (by omega)]
    rfl
  · rw [win_other M _ b i 8 h1 hb (by simp) e, h3 i hi]
    rw [List.getD_eq_getElem?_getD, List.getD_eq_getElem?_getD, List.getElem?_set_ne (by omega)]
theorem Blk8.zero : Blk8 (List.replicate (64 * 8) 0) (List.replicate 8 0) := by
  refine ⟨by simp, by simp, fun i hi => ?_⟩
  rw [win_rep 64 i 8 0 hi]
  congr 1
  rw [List.getD_eq_getElem?_getD, List.getElem?_replicate, if_pos hi]
  rfl
theorem dset_snoc (kp : Nat → Bool) (q : Nat × List UInt8) : ∀ (Q : List (Nat × List UInt8)) (j : Nat) (L : List UInt8), dset kp j (Q ++ [q]) L = if kp (j + Q.length) then (dset kp j Q L).take (q.1 * 64) ++ (q.2 ++ (dset kp j Q L).drop (q.1 * 64 + 64)) else dset kp j Q L
  | [], j, L => by simp [dset]
  | p :: Q, j, L => by
    simp only [List.cons_append, dset, List.length_cons]
    rw [dset_snoc kp q Q (j + 1) _, show j + 1 + Q.length = j + (Q.length + 1) by omega]
def WantAt (w : World) (g : Nat) (want : List UInt8) : Prop := w.heap[g]? = some (.cells (want.map u8v).toArray 50 (0, 0))
structure KRel (w0 : World) (B : Nat) (d g : Nat) (kp : Nat → Bool) (j : Nat) (wr : World) : Prop where
  hg : B ≤ g
  ex : ∃ F T Q want, DV wr F d 8 (List.replicate (64 * 8) 0) T Q ∧ Q.length = j ∧ Blk8 (dset kp 0 Q (List.replicate (64 * 8) 0)) want ∧ WantAt wr g want ∧ ¬ F g ∧ (∀ b, F b → B ≤ b)
  bel : Below w0.heap.size w0 wr
structure KEnd (w0 : World) (d g : Nat) (want : List UInt8) (wr : World) : Prop where
  ex : ∃ F M, DV wr F d 8 M M [] ∧ Blk8 M want
  w : WantAt wr g want
  bel : Below w0.heap.size w0 wr
theorem KEnd.step {w wr w7 : World} {d g : Nat} {want : List UInt8} (h : KEnd w d g want wr) (hb : Below wr.heap.size wr w7) : KEnd w d g want w7 := by
  obtain ⟨⟨F, M, ⟨lb, cl, tb, ct, vw, ds, h1⟩, h2⟩, h3, h4⟩ := h
  exact ⟨⟨F, M, ⟨lb, cl, tb, ct, vw, ds, h1.keep (Chg.below hb (fun _ => False)) (fun _ _ => id)⟩, h2⟩, (hb.block g (Array.getElem?_eq_some_iff.1 h3).1).trans h3, h4.trans (hb.mono h4.size)⟩
theorem Upd.comp {a b c : World} {F F1 F2 : Nat → Prop} (h1 : Upd a b F F1) (h2 : Upd b c F1 F2) : Upd a c F F2 :=
  ⟨h2.os.trans h1.os, h2.tape.trans h1.tape, h2.output.trans h1.output, Nat.le_trans h1.size h2.size, fun x hx hn => (h2.block x (Nat.lt_of_lt_of_le hx h1.size) (fun q => by rcases h1.grow x q with q | q; exact hn q; omega)).trans (h1.block x hx hn), fun x hx => by
    rcases h2.grow x hx with q | q
    · exact h1.grow x q
    · exact .inr (Nat.le_trans h1.size q)⟩
def Yes' (w : World) (e : Ending) (w' : World) : Prop := e = .returned (.bool true) ∧ Below w.heap.size w w'
end Go.Proofs
end

section
namespace Go.Proofs
open Go.RowKit
set_option maxRecDepth 100000
def AllQ (k : Nat) (Q : List (Nat × List UInt8)) : Prop := ∀ q ∈ Q, q.1 < k ∧ q.2.length = 64
theorem AllW.q {w : World} {F : Nat → Prop} {ns : List Nat} {k : Nat} : ∀ (Q : List (Nat × List UInt8)) (ds : List (Nat × Nat)), AllW w F ns k Q ds → AllQ k Q
  | q :: Q, x :: ds, h => fun p hp => by
    rcases List.mem_cons.1 hp with rfl | hp
    · exact ⟨h.1.2.2.2.1, h.1.2.2.1⟩
    · exact AllW.q Q ds h.2 p hp
  | [], _, _ => fun p hp => by simp at hp
  | q :: Q, [], h => h.elim
theorem dset_len (kp : Nat → Bool) (k : Nat) : ∀ (Q : List (Nat × List UInt8)) (j : Nat) (L : List UInt8), AllQ k Q → L.length = 64 * k → (dset kp j Q L).length = 64 * k
  | [], _, _, _, h => h
  | q :: Q, j, L, hq, h => by
    simp only [dset]
    refine dset_len kp k Q (j + 1) _ (fun p hp => hq p (by simp [hp])) ?_
    obtain ⟨h1, h2⟩ := hq q (by simp)
    by_cases hk : kp j = true
    · simp [hk, h2]; omega
    · simp [hk, h]
theorem told_dset (k : Nat) (L : List UInt8) (hL : L.length = 64 * k) (i : Nat) (hi : i < k) : ∀ (n : Nat) (Q : List (Nat × List UInt8)), Q.length = n → AllQ k Q → told L Q i = ((dset (fun _ => true) 0 Q L).drop (i * 64)).take 64
  | 0, Q, hn, _ => by
    obtain rfl := List.eq_nil_of_length_eq_zero hn
    rfl
  | n + 1, Q, hn, hq => by
    obtain ⟨Q', q, rfl⟩ : ∃ Q' q, Q = Q' ++ [q] := by
      have hne : Q ≠ [] := fun e => by simp [e] at hn
      exact ⟨Q.dropLast, Q.getLast hne, (List.dropLast_concat_getLast hne).symm⟩
    have hq' : AllQ k Q' := fun p hp => hq p (by simp [hp])
    have ih := told_dset k L hL i hi n Q' (by simp at hn; exact hn) hq'
    obtain ⟨h1, h2⟩ := hq q (by simp)
    have hl := dset_len (fun _ => true) k Q' 0 L hq' hL
    rw [dset_snoc, if_pos rfl]
    unfold told
    rw [lastW_snoc]
    by_cases he : q.1 = i
    · subst he
      rw [if_pos rfl, win_same' _ _ q.1 k hl h1 h2]
      rfl
    · rw [if_neg he, win_other _ _ q.1 i k hl h1 h2 (fun e => he e.symm), ← ih]
      rfl
structure LR (w0 : World) (k d m j : Nat) (wr : World) : Prop where
  ex : ∃ F G L Q, DV wr F d k L (dset (fun _ => true) 0 Q L) Q ∧ RV wr G m k L Q ∧ Q.length ≤ j ∧ Disj F G ∧ (∀ b, F b → w0.heap.size ≤ b) ∧ (∀ b, G b → w0.heap.size ≤ b)
  bel : Below w0.heap.size w0 wr
theorem RV.lt {w : World} {F : Nat → Prop} {m k : Nat} {D : List UInt8} {Q : List (Nat × List UInt8)} (h : RV w F m k D Q) : ∀ b, F b → b < w.heap.size := by
  obtain ⟨_, _, _, _, _, h⟩ := h
  exact h.lt
theorem RV.stay {w w' : World} {F S : Nat → Prop} {m k : Nat} {D : List UInt8} {Q : List (Nat × List UInt8)} (h : RV w F m k D Q) (hc : Chg w w' S) (hS : ∀ b, F b → ¬ S b) : RV w' F m k D Q := by
  obtain ⟨a, b, c, d, e, h⟩ := h
  exact ⟨a, b, c, d, e, h.keep hc hS⟩
theorem RV.other {w w' : World} {F F1 F1' : Nat → Prop} {m k : Nat} {D : List UInt8} {Q : List (Nat × List UInt8)} (h : RV w F m k D Q) (hu : Upd w w' F1 F1') (hx : Disj F1 F) : RV w' F m k D Q ∧ Disj F1' F := by
  refine ⟨h.stay (S := F1) ⟨hu.os, hu.tape, hu.output, hu.size, hu.block⟩ (fun b hb q => hx b q hb), fun b h1 h2 => ?_⟩
  rcases hu.grow b h1 with q | q
  · exact hx b q h2
  · have := h.lt b h2
    omega
theorem LR.mono {w0 wr : World} {k d m j j' : Nat} (h : LR w0 k d m j wr) (hj : j ≤ j') : LR w0 k d m j' wr := by
  obtain ⟨⟨F, G, L, Q, h1, h2, h3, h4⟩, h5⟩ := h
  exact ⟨⟨F, G, L, Q, h1, h2, by omega, h4⟩, h5⟩
theorem LR.below {w0 wr w' : World} {k d m j : Nat} (h : LR w0 k d m j wr) (hb : Below wr.heap.size wr w') : LR w0 k d m j w' := by
  obtain ⟨⟨F, G, L, Q, h1, h2, h3, h4⟩, h5⟩ := h
  exact ⟨⟨F, G, L, Q, h1.stay (Chg.below hb (fun _ => False)) (fun _ _ => id), h2.stay (Chg.below hb (fun _ => False)) (fun _ _ => id), h3, h4⟩, h5.trans (hb.mono h5.size)⟩
end Go.Proofs
end

section
namespace Go.Proofs
open Go.RowKit
set_option maxRecDepth 100000
def wcc (k : Nat) (I : Int) (bb : List UInt8) : Int := if 0 ≤ I ∧ I < k ∧ bb.length = 64 then 0 else 1
def wqq (k : Nat) (I : Int) (bb : List UInt8) (Q : List (Nat × List UInt8)) : List (Nat × List UInt8) := if 0 ≤ I ∧ I < k ∧ bb.length = 64 then Q ++ [(I.toNat, bb)] else Q
def wtt (k : Nat) (I : Int) (bb T : List UInt8) : List UInt8 := if 0 ≤ I ∧ I < k ∧ bb.length = 64 then T.take (64 * I.toNat) ++ (bb ++ T.drop (64 * I.toNat + 64)) else T
theorem Upd.refl (w : World) (F : Nat → Prop) : Upd w w F F := ⟨rfl, rfl, rfl, Nat.le_refl _, fun _ _ _ => rfl, fun _ h => .inl h⟩
def DWrote (w : World) (F : Nat → Prop) (d k : Nat) (L T : List UInt8) (Q : List (Nat × List UInt8)) (c : Int) (e : Ending) (w' : World) : Prop := e = .returned (.int .i64 c) ∧ ∃ F', DV w' F' d k L T Q ∧ Upd w w' F F'
def RWrote (w : World) (F : Nat → Prop) (m k : Nat) (D : List UInt8) (Q : List (Nat × List UInt8)) (c : Int) (e : Ending) (w' : World) : Prop := e = .returned (.int .i64 c) ∧ ∃ F', RV w' F' m k D Q ∧ Upd w w' F F'
def DataAt (w : World) (F : Nat → Prop) (XA : Option Addr) (bb : List UInt8) : Prop := 0 < bb.length → ∃ X, XA = some X ∧ (∀ j u, (bb.map u8v)[j]? = some u → w.cell? (X.add j) = some u) ∧ ¬ F X.block
structure LY (w0 : World) (k d m j B : Nat) (p1 p2 p3 : Value) (wr : World) (F G : Nat → Prop) (L T L' : List UInt8) (Q Q' : List (Nat × List UInt8)) : Prop where
  dv : DV wr F d k L T Q
  rv : RV wr G m k L' Q'
  q : Q.length ≤ j
  q' : Q'.length ≤ j
  dj : Disj F G
  f : ∀ b, F b → w0.heap.size ≤ b
  g : ∀ b, G b → w0.heap.size ≤ b
  fB : ¬ F B
  gB : ¬ G B
  bel : Below w0.heap.size w0 wr
  lt : B < wr.heap.size
  c1 : wr.cell? ⟨B, 1, none⟩ = some p1
  c2 : wr.cell? ⟨B, 2, none⟩ = some p2
  c3 : wr.cell? ⟨B, 3, none⟩ = some p3
theorem LY.left {w0 wr w1 : World} {k d d1 m j j' B : Nat} {p1 p2 p3 : Value} {F F1 G : Nat → Prop} {L T L' L1 T1 : List UInt8} {Q Q' Q1 : List (Nat × List UInt8)} (h : LY w0 k d m j B p1 p2 p3 wr F G L T L' Q Q') (hd : DV w1 F1 d1 k L1 T1 Q1) (hu : Upd wr w1 F F1)
    (hq : Q1.length ≤ j') (hj : j ≤ j') : LY w0 k d1 m j' B p1 p2 p3 w1 F1 G L1 T1 L' Q1 Q' := by
  obtain ⟨r1, x1⟩ := h.rv.other hu h.dj
  have e := hu.block B h.lt h.fB
  have c : ∀ n, w1.cell? ⟨B, n, none⟩ = wr.cell? ⟨B, n, none⟩ := fun n => World.cell?_of_block e
  refine ⟨hd, r1, hq, Nat.le_trans h.q' hj, x1, hu.lowW h.f h.bel.size, h.g, fun q => ?_, h.gB, h.bel.trans (hu.belowW h.f h.bel.size), Nat.lt_of_lt_of_le h.lt hu.size, (c 1).trans h.c1, (c 2).trans h.c2, (c 3).trans h.c3⟩
  rcases hu.grow B q with q | q
  · exact h.fB q
  · have := h.lt; omega
theorem LY.right {w0 wr w1 : World} {k d m j j' B : Nat} {p1 p2 p3 : Value} {F G G1 : Nat → Prop} {L T L' D1 : List UInt8} {Q Q' Q1 : List (Nat × List UInt8)} (h : LY w0 k d m j B p1 p2 p3 wr F G L T L' Q Q') (hd : RV w1 G1 m k D1 Q1) (hu : Upd wr w1 G G1)
    (hq : Q1.length ≤ j') (hj : j ≤ j') : LY w0 k d m j' B p1 p2 p3 w1 F G1 L T D1 Q Q1 := by
  obtain ⟨r1, x1⟩ := h.dv.other hu h.dj.symm
  have e := hu.block B h.lt h.gB
  have c : ∀ n, w1.cell? ⟨B, n, none⟩ = wr.cell? ⟨B, n, none⟩ := fun n => World.cell?_of_block e
  refine ⟨r1, hd, Nat.le_trans h.q hj, hq, x1.symm, h.f, hu.lowW h.g h.bel.size, h.fB, fun q => ?_, h.bel.trans (hu.belowW h.g h.bel.size), Nat.lt_of_lt_of_le h.lt hu.size, (c 1).trans h.c1, (c 2).trans h.c2, (c 3).trans h.c3⟩
  rcases hu.grow B q with q | q
  · exact h.gB q
  · have := h.lt; omega
theorem LY.below {w0 wr w1 : World} {k d m j B : Nat} {p1 p2 p3 : Value} {F G : Nat → Prop} {L T L' : List UInt8} {Q Q' : List (Nat × List UInt8)} (h : LY w0 k d m j B p1 p2 p3 wr F G L T L' Q Q') (hb : Below wr.heap.size wr w1) : LY w0 k d m j B p1 p2 p3 w1 F G L T L' Q Q' := by
  have e := hb.block B h.lt
  have c : ∀ n, w1.cell? ⟨B, n, none⟩ = wr.cell? ⟨B, n, none⟩ := fun n => World.cell?_of_block e
  exact ⟨h.dv.stay (Chg.below hb (fun _ => False)) (fun _ _ => id), h.rv.stay (Chg.below hb (fun _ => False)) (fun _ _ => id), h.q, h.q', h.dj, h.f, h.g, h.fB, h.gB, h.bel.trans (hb.mono h.bel.size), Nat.lt_of_lt_of_le h.lt hb.size, (c 1).trans h.c1, (c 2).trans h.c2, (c 3).trans h.c3⟩
def LQ (w0 : World) (k m j B : Nat) (p1 : Value) (v : Value) (wx : World) : Prop := ∃ d : Nat, v = .pointer (some ⟨d, 0, none⟩) ∧ LR w0 k d m j wx ∧ wx.cell? ⟨B, 1, none⟩ = some p1
theorem LY.done {w0 wr : World} {k d m j j' B : Nat} {p1 p2 p3 : Value} {F G : Nat → Prop} {L T : List UInt8} {Q : List (Nat × List UInt8)} (h : LY w0 k d m j B p1 p2 p3 wr F G L T L Q Q) (hT : T = dset (fun _ => true) 0 Q L) (hj : j ≤ j') : LQ w0 k m j' B p1 (.pointer (some ⟨d, 0, none⟩)) wr := by
  subst hT
  exact ⟨d, rfl, ⟨⟨F, G, L, Q, h.dv, h.rv, Nat.le_trans h.q hj, h.dj, h.f, h.g⟩, h.bel⟩, h.c1⟩
theorem DataAt.of {w0 wr : World} {F : Nat → Prop} {XA : Option Addr} {bb : List UInt8} (h : 0 < bb.length → ∃ X, XA = some X ∧ ∀ j u, (bb.map u8v)[j]? = some u → w0.cell? (X.add j) = some u) (hb : Below w0.heap.size w0 wr) (hF : ∀ b, F b → w0.heap.size ≤ b) : DataAt wr F XA bb := fun h0 => by
  obtain ⟨X, rfl, hc⟩ := h h0
  refine ⟨X, rfl, cells_below hc hb, fun q => ?_⟩
  have h1 := hF _ q
  have h2 : X.block < w0.heap.size := block_lt_of_cell (hc 0 (u8v bb[0]) (by simp [h0]))
  omega
end Go.Proofs
end

section
namespace Go.Proofs
open Go.RowKit
set_option maxRecDepth 100000
def ActAt (w : World) (p : Addr) : Prop := ∃ (op I : Int) (XA : Option Addr) (xn xm : Nat) (KA : Option Addr) (kn km : Nat) (bb : List UInt8) (kb : List Bool),
  w.cell? p = some (.int .i64 op) ∧ w.cell? (p.add 1) = some (.int .i64 I) ∧ w.cell? (p.add 2) = some (.slice XA xn xm) ∧ w.cell? (p.add 3) = some (.slice KA kn km) ∧
  bb.length = xn ∧ (0 < xn → ∃ X, XA = some X ∧ ∀ j u, (bb.map u8v)[j]? = some u → w.cell? (X.add j) = some u) ∧ kb.length = kn ∧ kn ≤ 9223372036854775807 ∧ xn ≤ 9223372036854775807 ∧ (∀ i, i < kn → ∃ a, KA = some a ∧ w.cell? (a.add i) = some (.bool (kb.getD i false)))
def YesP (w : World) (e : Ending) (w' : World) : Prop := e = .returned (.bool true) ∧ Below w.heap.size w w'
end Go.Proofs
end

section
namespace Go.Proofs
open Go.RowKit
set_option maxRecDepth 100000
def rcc (k : Nat) (I : Int) : Int := if 0 ≤ I ∧ I < k then 0 else 1
def rll (k : Nat) (I : Int) (T : List UInt8) : List UInt8 := if 0 ≤ I ∧ I < k then (T.drop (I.toNat * 64)).take 64 else []
def RdP (w : World) (c : Int) (l : List UInt8) (e : Ending) (w' : World) : Prop := ∃ v, e = .returned (.tuple #[v, .int .i64 c]) ∧ Below w.heap.size w w' ∧ ∀ w2, Below w'.heap.size w' w2 → (convert 31 9 v).run Try.prog w2 = .ok (.string (strOf l)) w2
def KeepAt (w : World) (KA : Option Addr) (kb : List Bool) : Prop := ∀ i, i < kb.length → ∃ a, KA = some a ∧ w.cell? (a.add i) = some (.bool (kb.getD i false))
theorem KeepAt.bel {w w' : World} {KA : Option Addr} {kb : List Bool} (h : KeepAt w KA kb) (hb : Below w.heap.size w w') : KeepAt w' KA kb := fun i hi => by
  obtain ⟨a, rfl, hc⟩ := h i hi
  exact ⟨a, rfl, cellW hc hb⟩
theorem KeepAt.out {w : World} {KA : Option Addr} {kb : List Bool} (h : KeepAt w KA kb) {F : Nat → Prop} (hF : ∀ b, F b → w.heap.size ≤ b) : ∀ a, KA = some a → 0 < kb.length → ¬ F a.block := fun a ha h0 q => by
  obtain ⟨a', h1, hc⟩ := h 0 h0
  obtain rfl : a = a' := by rw [ha] at h1; exact Option.some.inj h1
  have h2 : a.block < w.heap.size := block_lt_of_cell hc
  have := hF _ q
  omega
end Go.Proofs
end

section
namespace Go.Proofs
open Go.RowKit Go.ChangeShapes Go.WideShapes Joins
set_option maxRecDepth 100000
def IsActs (w : World) (a : Option Addr) (len cap : Nat) : Prop :=
  (a = none ∧ len = 0 ∧ cap = 0) ∨ ∃ x, a = some x ∧ len ≤ cap ∧ cap ≤ maxLen ∧ ∀ i, i < len → ActAt w (x.add (i * 4))
theorem data_at {w : World} {a : Option Addr} {len cap : Nat} {zs : List Int} (h : IsRow .u8 w a len cap zs) : ∃ bb : List UInt8, bb.length = len ∧ len ≤ 9223372036854775807 ∧ (0 < len → ∃ X, a = some X ∧ ∀ j u, (bb.map u8v)[j]? = some u → w.cell? (X.add j) = some u) := by
  have hm : len ≤ 9223372036854775807 := by
    rcases h with ⟨_, rfl, _⟩ | ⟨x, _, h1, h2, _⟩
    · omega
    · unfold maxLen at h2; omega
  obtain ⟨l8, h8⟩ := h.u8
  refine ⟨(List.range len).map l8, by simp, hm, fun h0 => ?_⟩
  obtain ⟨X, rfl, _⟩ := h8 0 h0
  refine ⟨X, rfl, fun j u hu => ?_⟩
  rw [List.getElem?_map, List.getElem?_map] at hu
  by_cases hj : j < len
  · rw [List.getElem?_range hj] at hu
    obtain ⟨y, hy, hc⟩ := h8 j hj
    obtain rfl : X = y := Option.some.inj hy
    simp at hu
    rw [hc, hu]
  · rw [List.getElem?_eq_none (by simp; omega)] at hu
    simp at hu
end Go.Proofs
end

section
namespace Go.Proofs
open Go.RowKit Go.AbsM
set_option maxRecDepth 100000
def iv (l : List UInt8) : List Int := l.map (fun x => (x.toNat : Int))
def bv (ns : List Int) : List UInt8 := ns.map (fun n => UInt8.ofNat n.toNat)
theorem iv_len (l : List UInt8) : (iv l).length = l.length := by simp [iv]
theorem bv_len (l : List Int) : (bv l).length = l.length := by simp [bv]
theorem iv_bytes (l : List UInt8) : Sp.bytes (iv l) := fun x hx => by
  obtain ⟨y, _, rfl⟩ := List.mem_map.1 hx
  have := y.toNat_lt
  omega
theorem bv_u8v {ns : List Int} (h : Sp.bytes ns) : (bv ns).map u8v = ns.map (Value.int .u8) := by
  unfold bv
  rw [List.map_map]
  refine List.map_congr_left fun n hn => ?_
  have := h n hn
  simp only [Function.comp, u8v]
  congr 1
  simp only [UInt8.toNat_ofNat']
  omega
theorem bv_iv (l : List UInt8) : bv (iv l) = l := by
  unfold bv iv
  rw [List.map_map]
  refine (List.map_congr_left fun x hx => ?_).trans (List.map_id l)
  simp
theorem iv_bv {ns : List Int} (h : Sp.bytes ns) : iv (bv ns) = ns := by
  unfold bv iv
  rw [List.map_map]
  refine (List.map_congr_left fun n hn => ?_).trans (List.map_id ns)
  have := h n hn
  simp only [Function.comp, UInt8.toNat_ofNat', id]
  omega
theorem outrow_by {w : World} {b : Nat} {ns : List Int} {cap : Nat} (h : OutRow w b 5 .u8 ns cap) (hb : Sp.bytes ns) (hn : ns.length ≤ cap) : BY w b (bv ns) cap := by
  obtain ⟨cur, h1, h2, h3, h4⟩ := h
  refine ⟨cur.drop ns.length, ?_, ?_, h3⟩
  · rw [bv_u8v hb, ← h4, List.take_append_drop]
    exact h1
  · rw [bv_len, List.length_drop]
    omega
theorem arg_bytes {w : World} {a : Option Addr} {n c : Nat} {l : List UInt8} (hl : l.length = n) (hn : n ≤ c) (hc : c ≤ maxLen) (hX : 0 < n → ∃ X, a = some X ∧ ∀ j u, (l.map u8v)[j]? = some u → w.cell? (X.add j) = some u) :
    Arg Try.prog w (.sl 5 ((iv l).map (AV.int .u8))) (.slice a n c) := by
  have e : (iv l).map (Value.int .u8) = l.map u8v := by unfold iv; rw [List.map_map]; rfl
  have h51 : 0 < Try.prog.cellsOf 5 := of_decide_eq_true (by kernel_rfl)
  have hxl : ((iv l).map (AV.int .u8)).length = n := by rw [List.length_map, iv_len, hl]
  refine Rep.sl (P := Try.prog) (e := 5) (xs := (iv l).map (AV.int .u8)) (us := (iv l).map (Value.int .u8)) hxl.symm (by rw [List.length_map, List.length_map]) (by omega) hc h51 (fun i x u hx hu => ?_) (fun u hu => ?_) fun hne => ?_
  · simp only [List.getElem?_map, Option.map_eq_some_iff] at hx hu
    obtain ⟨n, h1, rfl⟩ := hx
    obtain ⟨m, h2, rfl⟩ := hu
    rw [h1] at h2
    simp only [Option.some.injEq] at h2; subst h2
    exact .x rfl
  · obtain ⟨n, _, rfl⟩ := List.mem_map.1 hu
    kernel_rfl
  · have h0 : 0 < n := by
      rcases Nat.eq_zero_or_pos n with h | h
      · subst h
        have := List.eq_nil_of_length_eq_zero hl
        subst this
        exact absurd rfl hne
      · exact h
    obtain ⟨⟨b, o, sp⟩, rfl, hcell⟩ := hX h0
    have hs : sp = none := by
      have := hcell 0 (u8v (l[0]'(by omega))) (by simp [hl, h0])
      simpa [Addr.add] using World.cell?_spot this
    subst hs
    refine ⟨b, o, rfl, fun j cv hj => ?_⟩
    rw [flat_ints, e] at hj
    have h1 := hcell j cv hj
    have ha : Addr.add ⟨b, o, none⟩ j = ⟨b, o + j, none⟩ := by simp [Addr.add]
    rw [ha] at h1
    exact ⟨h1, block_lt_of_cell h1⟩
def wpg (l : List UInt8) : List UInt8 := bv (Sp.wrap (iv l))
def wpn (l : List UInt8) : Nat := (Sp.psz l.length).toNat
theorem wpg_len {l : List UInt8} (h : l.length ≤ 8192) : (wpg l).length = 64 * wpn l := by
  have h1 := Sp.wrap_len (b := iv l) (by rw [iv_len]; exact h)
  have h2 := Sp.psz_le (n := (l.length : Int)) (by omega) (by omega)
  rw [iv_len] at h1
  unfold wpg wpn
  rw [bv_len]
  omega
theorem wpn_pos {l : List UInt8} (h : l.length ≤ 8192) : 1 ≤ wpn l ∧ wpn l ≤ 129 ∧ (Sp.psz l.length) = wpn l := by
  have h2 := Sp.psz_le (n := (l.length : Int)) (by omega) (by omega)
  have h3 := Sp.psz_in (n := (l.length : Int)) (by omega)
  unfold wpn
  omega
def WrapP (w : World) (l : List UInt8) (e : Ending) (w' : World) : Prop := ∃ b cc cap, e = .returned (.tuple #[.slice (some ⟨b, 0, none⟩) (64 * wpn l) cc, .int .i64 0]) ∧ w.heap.size ≤ b ∧ 64 * wpn l ≤ cc ∧ cc ≤ cap ∧ BY w' b (wpg l) cap ∧ Below w.heap.size w w'
def DataIn (w : World) (a : Option Addr) (n : Nat) (l : List UInt8) : Prop := 0 < n → ∃ X, a = some X ∧ ∀ j u, (l.map u8v)[j]? = some u → w.cell? (X.add j) = some u
theorem wrap_by {f : Nat} (hf : GoodC Try.prog (Ytcmjccjbgidinaa.ctrW f)) (w : World) (a : Option Addr) (n c : Nat) (l : List UInt8) (hl : l.length = n) (hn : n ≤ c) (hc : c ≤ maxLen) (h8 : n ≤ 8192) (hX : DataIn w a n l) : Calls Try.prog f #[.slice a n c] w (WrapP w l) := by
  refine (GoodC.out hf (iv l, ()) ⟨iv_bytes l, by rw [iv_len]; omega⟩ [.slice a n c] ⟨arg_bytes hl hn hc hX, trivial⟩).mono ?_
  rintro e w' ⟨v, g', rfl, hb, hR⟩
  have ho : Ytcmjccjbgidinaa.outW (iv l, ()) = .tup [.own 5 (.int .u8) (Sp.wrap (iv l)), .c (.a (.x (.int .i64 0)))] := Ytcmjccjbgidinaa.outW_in (by rw [iv_len]; omega)
  have hR' : ResRep Try.prog (fun b => w.heap.size ≤ b) w' g' [] ((Ytcmjccjbgidinaa.outW (iv l, ())).emb []) v := hR
  rw [ho] at hR'
  obtain ⟨b, cc, cap, rfl, h1, h2, h3, h4⟩ := res_own (ns := Sp.wrap (iv l)) (by kernel_rfl) rfl hR'
  have hw : (Sp.wrap (iv l)).length = 64 * wpn l := by
    have := wpg_len (l := l) (by omega)
    rwa [wpg, bv_len] at this
  rw [hw] at h2 ⊢
  exact ⟨b, cc, cap, rfl, h1, h2, h3, outrow_by h4 (Sp.wrap_bytes (iv_bytes l)) (by omega), hb⟩
theorem Try.wrap (w : World) (a : Option Addr) (n c : Nat) (l : List UInt8) (hl : l.length = n) (hn : n ≤ c) (hc : c ≤ maxLen) (h8 : n ≤ 8192) (hX : DataIn w a n l) : Calls Try.prog 44 #[.slice a n c] w (WrapP w l) := wrap_by (f := 44) Ytcmjccjbgidinaa.good44 w a n c l hl hn hc h8 hX
theorem Try.rwrap (w : World) (a : Option Addr) (n c : Nat) (l : List UInt8) (hl : l.length = n) (hn : n ≤ c) (hc : c ≤ maxLen) (h8 : n ≤ 8192) (hX : DataIn w a n l) : Calls Try.prog 47 #[.slice a n c] w (WrapP w l) := wrap_by (f := 47) Ytcmjccjbgidinaa.good47 w a n c l hl hn hc h8 hX
theorem Try.size {l : List UInt8} (n : Nat) (hl : l.length = n) (hn : n ≤ 8192) (w : World) : Calls Try.prog 35 #[.int .i64 n] w fun e w' => e = .returned (.int .i64 (wpn l)) ∧ Below w.heap.size w w' := by
  refine (GoodC.out Ytcmjccjbgidinaa.good35 ((n : Int), ()) (show -9223372036854775808 ≤ (n : Int) ∧ (n : Int) < 9223372036854775808 from by omega) [.int .i64 n] ⟨Arg.int, trivial⟩).mono ?_
  rintro e w' ⟨v, g', rfl, hb, hR⟩
  have hR' : ResRep Try.prog (fun b => w.heap.size ≤ b) w' g' [] (.x (.int .i64 (Sp.psz n))) v := hR
  obtain rfl := res_x hR'
  have := (wpn_pos (l := l) (by omega)).2.2
  rw [hl] at this
  rw [this]
  exact ⟨rfl, hb⟩
theorem Try.known13 (w : World) : Calls Try.prog 29 #[] w fun e w' => e = .returned (.bool true) ∧ Below w.heap.size w w' := by
  refine (GoodC.out Ytcmjccjbgidinaa.good29 () trivial [] trivial).mono ?_
  rintro e w' ⟨v, g', rfl, hb, hR⟩
  have hR' : ResRep Try.prog (fun b => w.heap.size ≤ b) w' g' [] (.x (.bool true)) v := hR
  obtain rfl := res_x hR'
  exact ⟨rfl, hb⟩
def unc (l : List UInt8) : Int := if Sp.unwB (iv l) = true then 0 else 12
def unl (l : List UInt8) : List UInt8 := if Sp.unwB (iv l) = true then bv (Sp.unwD (iv l)) else []
def RdL (w : World) (c : Int) (l : List UInt8) (e : Ending) (w' : World) : Prop := ∃ v, e = .returned (.tuple #[v, .int .i64 c]) ∧ Below w.heap.size w w' ∧ ((∃ A m, v = .slice A l.length m) ∧ ∀ w2, Below w'.heap.size w' w2 → (convert 31 9 v).run Try.prog w2 = .ok (.string (strOf l)) w2)
theorem str_sl0 (w : World) (A : Option Addr) (c : Nat) : (convert 31 9 (.slice A 0 c)).run Try.prog w = .ok (.string (strOf [])) w := by
  cases A with
  | none => exact run_convert_bytes_nil (w := w) 31 5 Try.underlying31 Try.underlying5 0 c 9 Try.underlying9
  | some X => exact str_arg (l := []) (fun j u h => by simp at h) 0 c rfl
theorem un_err {w w' : World} {g' : Gh} {l : List UInt8} {v : Value} (hb : Below w.heap.size w w') (hu : ¬ Sp.unwB (iv l) = true) (hR : ResRep Try.prog (fun b => w.heap.size ≤ b) w' g' [] (Ytcmjccjbgidinaa.errU.emb []) v) : RdL w (unc l) (unl l) (.returned v) w' := by
  have hR' : ResRep Try.prog (fun b => w.heap.size ≤ b) w' g' [] (.tup [.nils, .x (.int .i64 12)]) v := hR
  obtain rfl := res_nil hR'
  unfold unc unl
  rw [if_neg hu, if_neg hu]
  exact ⟨_, rfl, hb, ⟨_, _, rfl⟩, fun w2 _ => str_sl0 w2 _ _⟩
theorem un_own {w w' : World} {g' : Gh} {l : List UInt8} {v : Value} (hb : Below w.heap.size w w') (hu : Sp.unwB (iv l) = true) (hR : ResRep Try.prog (fun b => w.heap.size ≤ b) w' g' [] ((Ytcmjccjbgidinaa.okU (iv l)).emb []) v) : RdL w (unc l) (unl l) (.returned v) w' := by
  obtain ⟨b, cc, cap, rfl, h1, h2, h3, h4⟩ := res_own (ns := Sp.unwD (iv l)) (by kernel_rfl) rfl hR
  have hy := outrow_by h4 (Sp.unwD_len (iv_bytes l) hu).2.1 (by omega)
  unfold unc unl
  rw [if_pos hu, if_pos hu]
  refine ⟨_, rfl, hb, ⟨_, _, by rw [bv_len]⟩, fun w2 hb2 => ?_⟩
  exact (hy.congr (hb2.block b hy.lt)).str _ (bv_len _) cc
theorem un_sl0 {w w' : World} {g' : Gh} {l : List UInt8} {v : Value} (hb : Below w.heap.size w w') (hu : Sp.unwB (iv l) = true) (h0 : (Sp.unwD (iv l)).length = 0) (hR : ResRep Try.prog (fun b => w.heap.size ≤ b) w' g' [] ((Ytcmjccjbgidinaa.okE (iv l)).emb []) v) : RdL w (unc l) (unl l) (.returned v) w' := by
  have e0 := List.eq_nil_of_length_eq_zero h0
  unfold Ytcmjccjbgidinaa.okE at hR
  rw [e0] at hR
  have hR' : ResRep Try.prog (fun b => w.heap.size ≤ b) w' g' [] (.tup [.sl 5 [], .x (.int .i64 0)]) v := hR
  obtain ⟨A, c, rfl⟩ := res_sl0 hR'
  unfold unc unl
  rw [if_pos hu, if_pos hu, e0]
  exact ⟨_, rfl, hb, ⟨_, _, rfl⟩, fun w2 _ => str_sl0 w2 _ _⟩
theorem Try.unwrap (w : World) (a : Option Addr) (n c : Nat) (l : List UInt8) (hl : l.length = n) (hn : n ≤ c) (hc : c ≤ maxLen) (h8 : n < 1000000) (hX : DataIn w a n l) : Calls Try.prog 45 #[.slice a n c] w (RdL w (unc l) (unl l)) := by
  refine (GoodC.out Ytcmjccjbgidinaa.good45 (iv l, ()) ⟨iv_bytes l, by rw [iv_len]; omega⟩ [.slice a n c] ⟨arg_bytes hl hn hc hX, trivial⟩).mono ?_
  rintro e w' ⟨v, g', rfl, hb, hR⟩
  have hR' : ResRep Try.prog (fun b => w.heap.size ≤ b) w' g' [] (TV.emb [] (if Sp.unwB (iv l) = true then (if (Sp.unwD (iv l)).length = 0 then Ytcmjccjbgidinaa.okE (iv l) else Ytcmjccjbgidinaa.okU (iv l)) else Ytcmjccjbgidinaa.errU)) v := hR
  by_cases hu : Sp.unwB (iv l) = true
  · rw [if_pos hu] at hR'
    by_cases h0 : (Sp.unwD (iv l)).length = 0
    · rw [if_pos h0] at hR'; exact un_sl0 hb hu h0 hR'
    · rw [if_neg h0] at hR'; exact un_own hb hu hR'
  · rw [if_neg hu] at hR'; exact un_err hb hu hR'
theorem Try.runwrap (w : World) (a : Option Addr) (n c : Nat) (l : List UInt8) (hl : l.length = n) (hn : n ≤ c) (hc : c ≤ maxLen) (h8 : n < 1000000) (hX : DataIn w a n l) : Calls Try.prog 49 #[.slice a n c] w (RdL w (unc l) (unl l)) := by
  refine (GoodC.out Ytcmjccjbgidinaa.good49 (iv l, ()) ⟨iv_bytes l, by rw [iv_len]; omega⟩ [.slice a n c] ⟨arg_bytes hl hn hc hX, trivial⟩).mono ?_
  rintro e w' ⟨v, g', rfl, hb, hR⟩
  have hR' : ResRep Try.prog (fun b => w.heap.size ≤ b) w' g' [] (TV.emb [] (if Sp.unwB (iv l) = true then Ytcmjccjbgidinaa.okU (iv l) else Ytcmjccjbgidinaa.errU)) v := hR
  by_cases hu : Sp.unwB (iv l) = true
  · rw [if_pos hu] at hR'; exact un_own hb hu hR'
  · rw [if_neg hu] at hR'; exact un_err hb hu hR'
end Go.Proofs
end

section
namespace Go.Proofs
open Go.RowKit
set_option maxRecDepth 100000
theorem Try.there_yes {w : World} {F : Nat → Prop} {d k : Nat} {L T : List UInt8} {Q : List (Nat × List UInt8)} (hd : DV w F d k L T Q) (i n : Int) (h : 1 ≤ n ∧ n ≤ k ∧ 0 ≤ i ∧ i ≤ k - n) :
    Calls Try.prog 46 #[.pointer (some ⟨d, 0, none⟩), .int .i64 i, .int .i64 n] w fun e w' => e = .returned (.bool true) ∧ w = w' := by
  obtain ⟨lb, cl, tb, ct, vw, ds, hd⟩ := hd
  have c1 := hd.c1
  have hk := hd.hk
  have h16 : 64 * k ≤ 65536 := by omega
  have hq : 64 * k / 64 = k := by omega
  have hs : IntKind.i64.wrap ((k : Int) - n) = k - n := by rw [IntKind.wrap_i64]; omega
  have p1 : decide (1 ≤ n) = true := by simp; omega
  have p2 : decide (n ≤ k) = true := by simp; omega
  have p3 : decide (0 ≤ i) = true := by simp; omega
  have p4 : decide (i ≤ k - n) = true := by simp; omega
  clear h
  go_enter Try.func46, Try.ntmps46
  go_wp2_with (go_at_call 28; refine (Try.blocks _ _ _ _ h16 _ c1).mono ?_; rintro e w' ⟨rfl, rfl⟩; rw [hq])
  go_ret
  exact ⟨rfl, rfl⟩
theorem Try.there_no {w : World} {F : Nat → Prop} {d k : Nat} {L T : List UInt8} {Q : List (Nat × List UInt8)} (hd : DV w F d k L T Q) (i n : Int) (h : ¬ (1 ≤ n ∧ n ≤ k ∧ 0 ≤ i ∧ i ≤ k - n)) :
    Calls Try.prog 46 #[.pointer (some ⟨d, 0, none⟩), .int .i64 i, .int .i64 n] w fun e w' => e = .returned (.bool false) ∧ w = w' := by
  obtain ⟨lb, cl, tb, ct, vw, ds, hd⟩ := hd
  have c1 := hd.c1
  have hk := hd.hk
  have h16 : 64 * k ≤ 65536 := by omega
  have hq : 64 * k / 64 = k := by omega
  by_cases a1 : 1 ≤ n
  · have p1 : decide (1 ≤ n) = true := by simp; omega
    by_cases a2 : n ≤ k
    · have p2 : decide (n ≤ k) = true := by simp; omega
      by_cases a3 : 0 ≤ i
      · have p3 : decide (0 ≤ i) = true := by simp; omega
        have hs : IntKind.i64.wrap ((k : Int) - n) = k - n := by rw [IntKind.wrap_i64]; omega
        have p4 : decide (i ≤ k - n) = false := by simp; omega
        clear h
        go_enter Try.func46, Try.ntmps46
        go_wp2_with (go_at_call 28; refine (Try.blocks _ _ _ _ h16 _ c1).mono ?_; rintro e w' ⟨rfl, rfl⟩; rw [hq])
        go_ret
        exact ⟨rfl, rfl⟩
      · have p3 : decide (0 ≤ i) = false := by simp; omega
        clear h
        go_enter Try.func46, Try.ntmps46
        go_wp2_with (go_at_call 28; refine (Try.blocks _ _ _ _ h16 _ c1).mono ?_; rintro e w' ⟨rfl, rfl⟩; rw [hq])
        go_ret
        exact ⟨rfl, rfl⟩
    · have p2 : decide (n ≤ k) = false := by simp; omega
      clear h
      go_enter Try.func46, Try.ntmps46
      go_wp2_with (go_at_call 28; refine (Try.blocks _ _ _ _ h16 _ c1).mono ?_; rintro e w' ⟨rfl, rfl⟩; rw [hq])
      go_ret
      exact ⟨rfl, rfl⟩
  · have p1 : decide (1 ≤ n) = false := by simp; omega
    clear h
    go_enter Try.func46, Try.ntmps46
    go_wp2_with fail
    go_ret
    exact ⟨rfl, rfl⟩
end Go.Proofs
end

section
namespace Go.Proofs
open Go.RowKit
set_option maxRecDepth 100000
theorem wp_scope_once {P : Program} {c R : Code} {a : Act} {w : World} {Q : Exit → Act → World → Prop} (l : Nat) (J : Act → World → Prop) (μ : Act → World → Nat) (hf : findLabel c l = some (Code.skip.seq R))
    (first : (∀ a w, J a w → R.wp P (Exit.jump l J Q) a w) → c.wp P (Exit.jump l J Q) a w) (pass : ∀ a w, J a w → R.wp P (Exit.jump l (fun a' w' => J a' w' ∧ μ a' w' < μ a w) Q) a w) : (Code.scope c).wp P Q a w := by
  refine wp_scope_jumps l J μ hf (first fun a' w' h => ?_) (fun a w h => wp_seq (wp_skip (pass a w h)))
  refine Code.wp_mono ?_ (pass a' w' h)
  intro e a2 w2 h2
  cases e <;> first | exact h2 | exact ⟨h2.1, h2.2.1⟩
def pgq (Q : List (Nat × List UInt8)) (at' : Nat) (p : List UInt8) (i : Nat) : List (Nat × List UInt8) := Q ++ (List.range i).map (fun j => (at' + j, (p.drop (64 * j)).take 64))
theorem pgq_succ (Q : List (Nat × List UInt8)) (at' : Nat) (p : List UInt8) (i : Nat) : pgq Q at' p (i + 1) = pgq Q at' p i ++ [(at' + i, (p.drop (64 * i)).take 64)] := by
  unfold pgq
  rw [List.range_succ, List.map_append, List.append_assoc]
  rfl
theorem pgq_len (Q : List (Nat × List UInt8)) (at' : Nat) (p : List UInt8) (i : Nat) : (pgq Q at' p i).length = Q.length + i := by simp [pgq]
theorem pgq_zero (Q : List (Nat × List UInt8)) (at' : Nat) (p : List UInt8) : pgq Q at' p 0 = Q := by simp [pgq]
structure PWR (w : World) (F : Nat → Prop) (d k at' : Nat) (L : List UInt8) (Q : List (Nat × List UInt8)) (p : List UInt8) (b cap i : Nat) (wr : World) : Prop where
  ex : ∃ F', DV wr F' d k L (dset (fun _ => true) 0 (pgq Q at' p i) L) (pgq Q at' p i) ∧ Upd w wr F F' ∧ ¬ F' b
  pg : BY wr b p cap
theorem PWR.next {w wr w1 : World} {F F' F1 : Nat → Prop} {d k at' : Nat} {L T1 : List UInt8} {Q : List (Nat × List UInt8)} {p : List UInt8} {b cap i : Nat} (hu0 : Upd w wr F F') (hb : ¬ F' b) (hp : BY wr b p cap) (hd : DV w1 F1 d k L T1 (pgq Q at' p (i + 1))) (hT : T1 = dset (fun _ => true) 0 (pgq Q at' p (i + 1)) L) (hu : Upd wr w1 F' F1) : PWR w F d k at' L Q p b cap (i + 1) w1 := by
  subst hT
  refine ⟨⟨F1, hd, hu0.compR hu, fun q => ?_⟩, hp.congr (hu.block b hp.lt hb)⟩
  rcases hu.grow b q with q | q
  · exact hb q
  · have := hp.lt; omega
def PgWrote (w : World) (F : Nat → Prop) (d k at' : Nat) (L : List UInt8) (Q : List (Nat × List UInt8)) (l : List UInt8) (e : Ending) (w' : World) : Prop :=
  e = .returned (.int .i64 0) ∧ ∃ F', DV w' F' d k L (dset (fun _ => true) 0 (pgq Q at' (wpg l) (wpn l)) L) (pgq Q at' (wpg l) (wpn l)) ∧ Upd w w' F F'
set_option maxHeartbeats 4000000 in
theorem Try.pwrite {w : World} {F : Nat → Prop} {d k : Nat} {L : List UInt8} {Q : List (Nat × List UInt8)} (hd : DV w F d k L (dset (fun _ => true) 0 Q L) Q) (hk : k ≤ 1024) (hQ : Q.length ≤ 10000) (at' : Nat) (a : Option Addr) (n c : Nat) (l : List UInt8) (hl : l.length = n) (hn : n ≤ c) (hc : c ≤ maxLen) (h8 : n ≤ 8192) (hX : DataIn w a n l)
    (hfit : at' + wpn l ≤ k) : Calls Try.prog 30 #[.pointer (some ⟨d, 0, none⟩), .int .i64 at', .slice a n c] w (PgWrote w F d k at' L Q l) := by
  have HD := Lib.hid hd
  have HX := Lib.hid hX
  have HL := Lib.hid hl
  have hw := wpn_pos (l := l) (by omega)
  have hwl := wpg_len (l := l) (by omega)
  have hw1 := hw.1
  have hw2 := hw.2.1
  have HWL := Lib.hid hwl
  clear hd hX hl hw hwl
  go_enter Try.func30, Try.ntmps30
  go_wp2
  refine wp_scope_once 0 (fun a' wr => ∃ (i b cc cap : Nat), i ≤ wpn l ∧ 64 * wpn l ≤ cc ∧ cc ≤ cap ∧ PWR w F d k at' L Q (wpg l) b cap i wr ∧ ∃ u11 u12 u13 u14 u15 u16 u17 u18 u19 u20 u21 u22 u23 u24 u25 u26 u27 u28 u29 u30 u31 u32 u33 u34 u35 u36 u37 u38 u39 u40 u41 u42 u43 u44 u45 u46 u47 : Value, a' = { tmps := #[.pointer (some ⟨d, 0, none⟩), .int .i64 at', .slice a n c, undef, undef, undef, .int .i64 0, .slice (some ⟨b, 0, none⟩) (64 * wpn l) cc, .int .i64 0, .int .i64 (wpn l), .int .i64 i, u11, u12, u13, u14, u15, u16, u17, u18, u19, u20, u21, u22, u23, u24, u25, u26, u27, u28, u29, u30, u31, u32, u33, u34, u35, u36, u37, u38, u39, u40, u41, u42, u43, u44, u45, u46, u47], defers := [] }) (fun a' _ => wpn l - (intOf (a'.tmps.getD 10 undef)).toNat) rfl ?_ ?_
  · intro hL
    go_wp2_with fail
    refine (Try.wrap w a n c l HL.out hn hc h8 HX.out).mono ?_
    rintro e w1 ⟨b, cc, cap, rfl, z1, z2, z3, z4, z5⟩
    have hq : (64 * wpn l) / 64 = wpn l := by omega
    have hd1 : DV w1 F d k L (dset (fun _ => true) 0 Q L) Q := (HD.out).stay (Chg.below z5 (fun _ => False)) (fun _ _ => id)
    have H1 := Lib.hid hd1
    have hp : PWR w F d k at' L Q (wpg l) b cap 0 w1 := ⟨⟨F, by rw [pgq_zero]; exact hd1, ⟨z5.os, z5.tape, z5.output, z5.size, fun b h _ => z5.block b h, fun _ h => .inl h⟩, fun q => by have := (HD.out).lt _ q; omega⟩, z4⟩
    have HP := Lib.hid hp
    clear z1 z4 z5 hd1 hp
    go_wp2_with fail
    refine (Try.there_yes (H1.out) at' (wpn l) (by omega)).mono ?_
    rintro e w2 ⟨rfl, rfl⟩
    go_wp2_with (refine wp_label ?_; rename_i Q0 K0 hK; refine hK _ _ (hL _ _ ?_); exact ⟨0, b, cc, cap, Nat.zero_le _, z2, z3, HP.out, _, _, _, _, _, _, _, _, _, _, _, _, _, _, _, _, _, _, _, _, _, _, _, _, _, _, _, _, _, _, _, _, _, _, _, _, _, rfl⟩)
  · rintro a' wr ⟨i, b, cc, cap, hi, h2, h3, hp, u11, u12, u13, u14, u15, u16, u17, u18, u19, u20, u21, u22, u23, u24, u25, u26, u27, u28, u29, u30, u31, u32, u33, u34, u35, u36, u37, u38, u39, u40, u41, u42, u43, u44, u45, u46, u47, rfl⟩
    by_cases hlt : i < wpn l
    · have hD : ((i : Int) == wpn l) = false := by simp; omega
      have hD2 : decide ((i : Int) = wpn l) = false := by simp; omega
      have hw1' : IntKind.i64.wrap ((i : Int) * 64) = ((64 * i : Nat) : Int) := by rw [IntKind.wrap_i64]; omega
      have hw2' : IntKind.i64.wrap (((i : Int) + 1) * 64) = ((64 * i + 64 : Nat) : Int) := by rw [IntKind.wrap_i64]; omega
      have HP := Lib.hid hp
      clear hp
      go_wp2_with fail
      obtain ⟨F', e1, e2, e3⟩ := (HP.out).ex
      have e4 := (HP.out).pg
      obtain ⟨lb, cl, tb, ct, vw, ds, hdw⟩ := e1
      have hbl : (((wpg l).drop (64 * i)).take 64).length = 64 := by rw [List.length_take, List.length_drop, HWL.out]; omega
      have hidx : ((at' : Int) + (i : Int)) = ((at' + i : Nat) : Int) := rfl
      rw [hidx]
      refine (Try.dwrite wr F' d k lb cl tb ct vw ds L _ _ hdw (at' + i) (by omega) ⟨b, 64 * i, none⟩ (cc - 64 * i) _ hbl (e4.win (64 * i) 64 (by rw [HWL.out]; omega)) e3 (by rw [pgq_len]; omega)).mono ?_
      rintro e w1 ⟨rfl, F1, q1, q2⟩
      rw [← pgq_succ] at q1
      have HN := Lib.hid (PWR.next e2 e3 e4 q1 (by rw [pgq_succ, dset_snoc, if_pos rfl]; simp only [hbl, Nat.mul_comm]) q2)
      clear e2 e3 e4 q1 q2 hdw hbl hidx HP
      go_wp2
      go_step3
      exact ⟨rfl, ⟨i + 1, b, cc, cap, hlt, h2, h3, HN.out, _, _, _, _, _, _, _, _, _, _, _, _, _, _, _, _, _, _, _, _, _, _, _, _, _, _, _, _, _, _, _, _, _, _, _, _, _, rfl⟩, by simp [intOf]; omega⟩
    · obtain rfl : i = wpn l := by omega
      have HE := Lib.hid hp
      clear hp
      go_wp2_with fail
      simp only [Exit.jump]
      go_ret
      obtain ⟨F', e1, e2, _⟩ := (HE.out).ex
      exact ⟨rfl, F', e1, e2⟩
end Go.Proofs
end

section
namespace Go.Proofs
open Go.RowKit
set_option maxRecDepth 100000
theorem Try.pwrite_bad {w : World} {F : Nat → Prop} {d k : Nat} {L T : List UInt8} {Q : List (Nat × List UInt8)} (hd : DV w F d k L T Q) (i : Int) (a : Option Addr) (n c : Nat) (l : List UInt8) (hl : l.length = n) (hn : n ≤ c) (hc : c ≤ maxLen) (h8 : n ≤ 8192) (hX : DataIn w a n l)
    (hfit : ¬ (0 ≤ i ∧ i + wpn l ≤ k)) : Calls Try.prog 30 #[.pointer (some ⟨d, 0, none⟩), .int .i64 i, .slice a n c] w fun e w' => e = .returned (.int .i64 9) ∧ Below w.heap.size w w' := by
  have HD := Lib.hid hd
  have HX := Lib.hid hX
  have HL := Lib.hid hl
  have HF := Lib.hid hfit
  have hw := wpn_pos (l := l) (by omega)
  have hw1 := hw.1
  have hw2 := hw.2.1
  clear hd hX hl hw hfit
  go_enter Try.func30, Try.ntmps30
  go_wp2
  refine wp_scope_once 0 (fun a' wr => False) (fun a' _ => 0) rfl ?_ (fun _ _ h => h.elim)
  intro hL
  clear hL
  go_wp2_with fail
  refine (Try.wrap w a n c l HL.out hn hc h8 HX.out).mono ?_
  rintro e w1 ⟨b, cc, cap, rfl, z1, z2, z3, z4, z5⟩
  have hq : (64 * wpn l) / 64 = wpn l := by omega
  have H1 := Lib.hid ((HD.out).stay (Chg.below z5 (fun _ => False)) (fun _ _ => id))
  have HB := Lib.hid z5
  clear z1 z4 z5
  go_wp2_with fail
  refine (Try.there_no (H1.out) i (wpn l) (fun q => HF.out ⟨q.2.2.1, by omega⟩)).mono ?_
  rintro e w2 ⟨rfl, rfl⟩
  go_wp2_with fail
  simp only [Exit.jump]
  go_ret
  exact ⟨rfl, HB.out⟩
structure PWS (w : World) (F : Nat → Prop) (m k at' : Nat) (D : List UInt8) (Q : List (Nat × List UInt8)) (p : List UInt8) (b cap i : Nat) (wr : World) : Prop where
  ex : ∃ F', RV wr F' m k D (pgq Q at' p i) ∧ Upd w wr F F' ∧ ¬ F' b
  pg : BY wr b p cap
theorem PWS.next {w wr w1 : World} {F F' F1 : Nat → Prop} {m k at' : Nat} {D : List UInt8} {Q : List (Nat × List UInt8)} {p : List UInt8} {b cap i : Nat} (hu0 : Upd w wr F F') (hb : ¬ F' b) (hp : BY wr b p cap) (hd : RV w1 F1 m k D (pgq Q at' p (i + 1))) (hu : Upd wr w1 F' F1) : PWS w F m k at' D Q p b cap (i + 1) w1 := by
  refine ⟨⟨F1, hd, hu0.compR hu, fun q => ?_⟩, hp.congr (hu.block b hp.lt hb)⟩
  rcases hu.grow b q with q | q
  · exact hb q
  · have := hp.lt; omega
def RPgWrote (w : World) (F : Nat → Prop) (m k at' : Nat) (D : List UInt8) (Q : List (Nat × List UInt8)) (l : List UInt8) (e : Ending) (w' : World) : Prop :=
  e = .returned (.int .i64 0) ∧ ∃ F', RV w' F' m k D (pgq Q at' (wpg l) (wpn l)) ∧ Upd w w' F F'
set_option maxHeartbeats 4000000 in
theorem Try.rpwrite {w : World} {F : Nat → Prop} {m k : Nat} {D : List UInt8} {Q : List (Nat × List UInt8)} (hd : RV w F m k D Q) (hk : k ≤ 1024) (hQ : Q.length ≤ 10000) (at' : Nat) (a : Option Addr) (n c : Nat) (l : List UInt8) (hl : l.length = n) (hn : n ≤ c) (hc : c ≤ maxLen) (h8 : n ≤ 8192) (hX : DataIn w a n l)
    (hfit : at' + wpn l ≤ k) : Calls Try.prog 31 #[.pointer (some ⟨m, 0, none⟩), .int .i64 at', .slice a n c] w (RPgWrote w F m k at' D Q l) := by
  have HD := Lib.hid hd
  have HX := Lib.hid hX
  have HL := Lib.hid hl
  have hw := wpn_pos (l := l) (by omega)
  have hwl := wpg_len (l := l) (by omega)
  have hw1 := hw.1
  have hw2 := hw.2.1
  have HWL := Lib.hid hwl
  have hq : (64 * wpn l) / 64 = wpn l := by omega
  have hqk : 64 * k / 64 = k := by omega
  have h16 : 64 * k ≤ 65536 := by omega
  have p1 : decide ((at' : Int) < 0) = false := by simp
  have p2 : decide ((k : Int) < at') = false := by simp; omega
  have p2' : decide (k < at') = false := by simp; omega
  have p3 : decide ((k : Int) - at' < wpn l) = false := by simp; omega
  have p4 : IntKind.i64.wrap ((k : Int) - at') = k - at' := by rw [IntKind.wrap_i64]; omega
  clear hd hX hl hw hwl
  go_enter Try.func31, Try.ntmps31
  go_wp2_with fail
  refine (Try.rwrap w a n c l HL.out hn hc h8 HX.out).mono ?_
  rintro e w1 ⟨b, cc, cap, rfl, z1, z2, z3, z4, z5⟩
  have hd1 : RV w1 F m k D Q := (HD.out).stay (Chg.below z5 (fun _ => False)) (fun _ _ => id)
  have hp : PWS w F m k at' D Q (wpg l) b cap 0 w1 := ⟨⟨F, by rw [pgq_zero]; exact hd1, ⟨z5.os, z5.tape, z5.output, z5.size, fun b h _ => z5.block b h, fun _ h => .inl h⟩, fun q => by have := (HD.out).lt _ q; omega⟩, z4⟩
  have HP := Lib.hid hp
  obtain ⟨db, dc, A, wc, es, hrw⟩ := hd1
  have c0 := hrw.c0
  clear z1 z4 z5 hp hrw
  go_wp2_with (go_at_call 40; refine (Try.rblocks _ _ _ _ h16 _ c0).mono ?_; rintro e w' ⟨rfl, rfl⟩; rw [hqk])
  clear c0
  go_loopw [9] (fun t wr => ∃ i : Nat, i ≤ wpn l ∧ t = .int .i64 i ∧ PWS w F m k at' D Q (wpg l) b cap i wr) (fun t _ => wpn l - (intOf t).toNat)
  case atStart => exact ⟨0, Nat.zero_le _, rfl, HP.out⟩
  case round =>
    obtain ⟨i, hi, rfl, hp⟩ := hrel
    by_cases hlt : i < wpn l
    · have hD : decide ((i : Int) < wpn l) = true := by simp; omega
      have hw1' : IntKind.i64.wrap (64 * (i : Int)) = ((64 * i : Nat) : Int) := by rw [IntKind.wrap_i64]; omega
      have hw2' : IntKind.i64.wrap (64 * (i : Int) + 64) = ((64 * i + 64 : Nat) : Int) := by rw [IntKind.wrap_i64]; omega
      have HP1 := Lib.hid hp
      clear hp
      go_wp2_with fail
      obtain ⟨F', e1, e2, e3⟩ := (HP1.out).ex
      have e4 := (HP1.out).pg
      obtain ⟨db', dc', A', wc', es', hrw'⟩ := e1
      have hbl : (((wpg l).drop (64 * i)).take 64).length = 64 := by rw [List.length_take, List.length_drop, HWL.out]; omega
      have hidx : ((at' : Int) + (i : Int)) = ((at' + i : Nat) : Int) := rfl
      rw [hidx]
      refine (Try.rwrite_good hrw' (by rw [pgq_len]; omega) (at' + i) (by omega) ⟨b, 64 * i, none⟩ (cc - 64 * i) _ hbl (e4.win (64 * i) 64 (by rw [HWL.out]; omega))).mono ?_
      rintro e w1 ⟨rfl, F1, q1, q2, _⟩
      rw [← pgq_succ] at q1
      have HN := Lib.hid (PWS.next e2 e3 e4 q1 q2)
      clear e2 e3 e4 q1 q2 hrw' hbl hidx HP1
      go_wp2
      go_roundw
      case rel => first | exact ⟨i + 1, hlt, rfl, HN.out⟩ | ((repeat apply Exists.intro); exact ⟨⟨i + 1, hlt, rfl, HN.out⟩, rfl⟩)
      case measure => simp [intOf]; omega
    · obtain rfl : i = wpn l := by omega
      have hD : decide ((wpn l : Int) < wpn l) = false := by simp
      have HE := Lib.hid hp
      clear hp
      go_wp2
      go_ret
      obtain ⟨F', e1, e2, _⟩ := (HE.out).ex
      exact ⟨rfl, F', e1, e2⟩
theorem Try.rpwrite_bad {w : World} {F : Nat → Prop} {m k : Nat} {D : List UInt8} {Q : List (Nat × List UInt8)} (hd : RV w F m k D Q) (hk : k ≤ 1024) (i : Int) (a : Option Addr) (n c : Nat) (l : List UInt8) (hl : l.length = n) (hn : n ≤ c) (hc : c ≤ maxLen) (h8 : n ≤ 8192) (hX : DataIn w a n l)
    (hfit : ¬ (0 ≤ i ∧ i + wpn l ≤ k)) : Calls Try.prog 31 #[.pointer (some ⟨m, 0, none⟩), .int .i64 i, .slice a n c] w fun e w' => e = .returned (.int .i64 9) ∧ Below w.heap.size w w' := by
  have HD := Lib.hid hd
  have HX := Lib.hid hX
  have HL := Lib.hid hl
  have hw := wpn_pos (l := l) (by omega)
  have hw1 := hw.1
  have hw2 := hw.2.1
  have hq : (64 * wpn l) / 64 = wpn l := by omega
  have hqk : 64 * k / 64 = k := by omega
  have h16 : 64 * k ≤ 65536 := by omega
  clear hd hX hl hw
  by_cases a1 : 0 ≤ i
  · have p1 : decide (i < 0) = false := by simp; omega
    by_cases a2 : i ≤ k
    · have p2 : decide ((k : Int) < i) = false := by simp; omega
      have p3 : decide ((k : Int) - i < wpn l) = true := by simp; omega
      have p4 : IntKind.i64.wrap ((k : Int) - i) = k - i := by rw [IntKind.wrap_i64]; omega
      clear hfit
      go_enter Try.func31, Try.ntmps31
      go_wp2_with fail
      refine (Try.rwrap w a n c l HL.out hn hc h8 HX.out).mono ?_
      rintro e w1 ⟨b, cc, cap, rfl, z1, z2, z3, z4, z5⟩
      obtain ⟨db, dc, A, wc, es, hrw⟩ : RV w1 F m k D Q := (HD.out).stay (Chg.below z5 (fun _ => False)) (fun _ _ => id)
      have c0 := hrw.c0
      have HB := Lib.hid z5
      clear z1 z4 z5 hrw
      go_wp2_with (go_at_call 40; refine (Try.rblocks _ _ _ _ h16 _ c0).mono ?_; rintro e w' ⟨rfl, rfl⟩; rw [hqk])
      go_ret
      exact ⟨rfl, HB.out⟩
    · have p2 : decide ((k : Int) < i) = true := by simp; omega
      clear hfit
      go_enter Try.func31, Try.ntmps31
      go_wp2_with fail
      refine (Try.rwrap w a n c l HL.out hn hc h8 HX.out).mono ?_
      rintro e w1 ⟨b, cc, cap, rfl, z1, z2, z3, z4, z5⟩
      obtain ⟨db, dc, A, wc, es, hrw⟩ : RV w1 F m k D Q := (HD.out).stay (Chg.below z5 (fun _ => False)) (fun _ _ => id)
      have c0 := hrw.c0
      have HB := Lib.hid z5
      clear z1 z4 z5 hrw
      go_wp2_with (go_at_call 40; refine (Try.rblocks _ _ _ _ h16 _ c0).mono ?_; rintro e w' ⟨rfl, rfl⟩; rw [hqk])
      go_ret
      exact ⟨rfl, HB.out⟩
  · have p1 : decide (i < 0) = true := by simp; omega
    clear hfit
    go_enter Try.func31, Try.ntmps31
    go_wp2_with fail
    refine (Try.rwrap w a n c l HL.out hn hc h8 HX.out).mono ?_
    rintro e w1 ⟨b, cc, cap, rfl, z1, z2, z3, z4, z5⟩
    have HB := Lib.hid z5
    clear z1 z4 z5
    go_wp2_with fail
    go_ret
    exact ⟨rfl, HB.out⟩
end Go.Proofs
end

section
namespace Go.Proofs
open Go.RowKit
set_option maxRecDepth 100000
def cat (T : List UInt8) (at' i : Nat) : List UInt8 := (T.drop (64 * at')).take (64 * i)
theorem cat_len {T : List UInt8} {k at' i : Nat} (hT : T.length = 64 * k) (h : at' + i ≤ k) : (cat T at' i).length = 64 * i := by
  unfold cat
  rw [List.length_take, List.length_drop, hT]
  omega
theorem cat_succ (T : List UInt8) (at' i : Nat) : cat T at' i ++ (T.drop ((at' + i) * 64)).take 64 = cat T at' (i + 1) := by
  unfold cat
  have e : T.drop ((at' + i) * 64) = (T.drop (64 * at')).drop (64 * i) := by rw [List.drop_drop]; congr 1; omega
  rw [e, show 64 * (i + 1) = 64 * i + 64 by omega, List.take_add]
structure RPR (w : World) (T : List UInt8) (at' i : Nat) (v : Value) (wr : World) : Prop where
  own : wr.ownsRow w.heap.size 5 1 v (64 * i) ((cat T at' i).map u8v)
  bel : Below w.heap.size w wr
  nn : 0 < i → v ≠ .slice none 0 0
theorem own_below {w w' : World} {B : Nat} {e : TypeId} {size : Nat} {v : Value} {n : Nat} {xs : List Value} (h : w.ownsRow B e size v n xs) (hb : Below w.heap.size w w') : w'.ownsRow B e size v n xs := by
  refine ⟨h.1, ?_⟩
  rcases h.2 with q | ⟨g, cap, cur, rfl, q, hg, r⟩
  · exact .inl q
  · exact .inr ⟨g, cap, cur, rfl, q, (hb.block g (by by_cases hx : g < w.heap.size; exact hx; rw [Array.getElem?_eq_none (by omega)] at hg; cases hg)).trans hg, r⟩
theorem row_use {w : World} {B : Nat} {v : Value} {n : Nat} {l : List UInt8} (h : w.ownsRow B 5 1 v n (l.map u8v)) (hv : v ≠ .slice none 0 0) : ∃ A c, v = .slice (some A) n c ∧ n ≤ c ∧ c ≤ maxLen ∧ DataIn w (some A) n l := by
  obtain ⟨_, b, c, rfl, _, h2, h3⟩ := BY.own h hv
  have h3' := h3
  obtain ⟨pad, _, h5, h6⟩ := h3
  exact ⟨_, c, rfl, h2, h6, fun _ => ⟨_, rfl, h3'.all⟩⟩
set_option maxHeartbeats 4000000 in
theorem Try.rpread {w : World} {F : Nat → Prop} {m k : Nat} {D : List UInt8} {Q : List (Nat × List UInt8)} (hd : RV w F m k D Q) (hk : k ≤ 1024) (hQ : Q.length ≤ 1000000) (at' n : Nat) (h1 : 1 ≤ n) (hfit : at' + n ≤ k) :
    Calls Try.prog 34 #[.pointer (some ⟨m, 0, none⟩), .int .i64 at', .int .i64 n] w (RdL w (unc (cat (dset (fun _ => true) 0 Q D) at' n)) (unl (cat (dset (fun _ => true) 0 Q D) at' n))) := by
  have HD := Lib.hid hd
  obtain ⟨T, hT0⟩ : ∃ T, dset (fun _ => true) 0 Q D = T := ⟨_, rfl⟩
  rw [hT0]
  have hTl : T.length = 64 * k := by
    obtain ⟨db, dc, A, wc, es, h⟩ := hd
    rw [← hT0]
    exact dset_len _ k Q 0 D (AllW.q _ _ h.al) h.Dl
  have HT0 := Lib.hid hT0
  have HTL := Lib.hid hTl
  have hqk : 64 * k / 64 = k := by omega
  have h16 : 64 * k ≤ 65536 := by omega
  have p0 : decide ((n : Int) < 1) = false := by simp; omega
  have p0' : (n = 0) = False := by simp; omega
  have p1 : decide ((at' : Int) < 0) = false := by simp
  have p2 : decide ((k : Int) < at') = false := by simp; omega
  have p2' : decide (k < at') = false := by simp; omega
  have p3 : decide ((k : Int) - at' < n) = false := by simp; omega
  have p4 : IntKind.i64.wrap ((k : Int) - at') = k - at' := by rw [IntKind.wrap_i64]; omega
  obtain ⟨db, dc, A, wc, es, hrw⟩ := hd
  have c0 := hrw.c0
  obtain ⟨i0, hi, hz0, hz1, hz2⟩ := info_parts Try.info5
  have I1 := Lib.hid hi
  have I2 := Lib.hid hz0
  have I3 := Lib.hid hz1
  have I4 := Lib.hid hz2
  clear hrw hT0 hTl hi hz0 hz1 hz2
  have H0 : Hid (RPR w T at' 0 (.slice none 0 0) w) := Lib.hid ⟨by simpa [cat] using World.ownsRow_nil w w.heap.size 5 1, Below.refl _ _, fun h => absurd h (Nat.lt_irrefl _)⟩
  go_enter Try.func34, Try.ntmps34
  go_wp2_with (go_at_call 40; refine (Try.rblocks _ _ _ _ h16 _ c0).mono ?_; rintro e w' ⟨rfl, rfl⟩; rw [hqk])
  clear c0
  go_loopw [8, 9] (fun v t wr => ∃ i : Nat, i ≤ n ∧ t = .int .i64 i ∧ RPR w T at' i v wr) (fun _ t _ => n - (intOf t).toNat)
  case atStart => exact ⟨0, Nat.zero_le _, rfl, H0.out⟩
  case round =>
    obtain ⟨i, hi, rfl, hp⟩ := hrel
    by_cases hlt : i < n
    · have hD : decide ((i : Int) < n) = true := by simp; omega
      have HP := Lib.hid hp
      clear hp
      go_wp2_with fail
      have hidx : ((at' : Int) + (i : Int)) = ((at' + i : Nat) : Int) := rfl
      rw [hidx]
      obtain ⟨db', dc', A', wc', es', hrw'⟩ := (HD.out).stay (Chg.below (HP.out).bel (fun _ => False)) (fun _ _ => id)
      have htold := told_dset k D hrw'.Dl (at' + i) (by omega) Q.length Q rfl (AllW.q _ _ hrw'.al)
      rw [HT0.out] at htold
      refine (Try.rread_good hrw' hQ (at' + i) (by omega)).mono ?_
      rw [htold]
      rintro e w1 ⟨b, c, rfl, z1, z2, z3, z4⟩
      have hown : w1.ownsRow w.heap.size 5 1 u8 (64 * i) ((cat T at' i).map u8v) := own_below (HP.out).own z4
      have hB1 := Lib.hid ((HP.out).bel.trans (z4.mono (HP.out).bel.size))
      have hsz := (HP.out).bel.size
      have hsz1 := (hB1.out).size
      have hall := z3.all
      have hl64 : ((T.drop ((at' + i) * 64)).take 64).length = 64 := by rw [List.length_take, List.length_drop, HTL.out]; omega
      have hcs := cat_succ T at' i
      generalize (T.drop ((at' + i) * 64)).take 64 = X at hall hl64 hcs
      have HL64 := Lib.hid hl64
      have HCS := Lib.hid hcs
      have h63 : 64 * i + 64 ≤ maxLen := by unfold maxLen; omega
      have HG : Hid (∀ kk, u8.ownBlock = some kk → w.heap.size ≤ kk) := Lib.hid (fun kk hkk => by
        rcases hown.2 with ⟨rfl, _⟩ | ⟨g, cap, cur, rfl, hg, _⟩
        · simp [Value.ownBlock] at hkk
        · simp [Value.ownBlock] at hkk; omega)
      clear htold hrw' hidx HP hl64 hcs z1 z2 z3 z4
      go_wp2_with (at_builtin; refine wpList_append_own _ rfl (.tmp 45) (.tmp 46) 31 rfl w.heap.size 5 i0 (.int .u8 0) 1 1 Try.underlying31 I1.out I2.out I3.out I4.out rfl (by decide) _ _ _ rfl hown _ _ _ (X.map u8v) rfl ?c1 hall (u8v_one _) h63 ?c2 ?c3 ?c4)
      case c1 => rw [List.length_map, HL64.out]
      case c2 => omega
      case c3 => omega
      case c4 =>
        intro v' w2 hown1 hg hne
        have hv : v' ≠ .slice none 0 0 := by simpa using hne
        have hb2 : Below w.heap.size w w2 := (hB1.out).grown hg (hB1.out).size (HG.out)
        rw [← List.map_append, HCS.out] at hown1
        have HN : Hid (RPR w T at' (i + 1) v' w2) := Lib.hid ⟨hown1, hb2, fun _ => hv⟩
        clear hown1 hg hne hv hb2 hown hall
        go_wp2
        go_roundw
        case rel => first | exact ⟨i + 1, hlt, rfl, HN.out⟩ | ((repeat apply Exists.intro); exact ⟨⟨i + 1, hlt, rfl, HN.out⟩, rfl⟩)
        case measure => simp [intOf]; omega
    · obtain rfl : i = n := by omega
      have hD : decide ((i : Int) < i) = false := by simp
      obtain ⟨A, c, rfl, q1, q2, q3⟩ := row_use hp.own (hp.nn (by omega))
      have HB := Lib.hid hp.bel
      have HQ := Lib.hid q3
      clear hp q3
      go_wp2_with fail
      refine (Try.runwrap _ _ _ _ _ (cat_len HTL.out hfit) q1 q2 (by omega) HQ.out).mono ?_
      rintro e w2 ⟨v, rfl, b1, x1⟩
      have B1 := Lib.hid b1
      have X1 := Lib.hid x1
      clear b1 x1
      go_wp2
      go_ret2
      exact ⟨_, rfl, (HB.out).trans ((B1.out).mono (HB.out).size), X1.out⟩
end Go.Proofs
end

section
namespace Go.Proofs
open Go.RowKit
set_option maxRecDepth 100000
theorem Try.rpread_bad {w : World} {F : Nat → Prop} {m k : Nat} {D : List UInt8} {Q : List (Nat × List UInt8)} (hd : RV w F m k D Q) (hk : k ≤ 1024) (i n : Int) (hfit : ¬ (1 ≤ n ∧ 0 ≤ i ∧ i + n ≤ k)) :
    Calls Try.prog 34 #[.pointer (some ⟨m, 0, none⟩), .int .i64 i, .int .i64 n] w fun e w' => e = .returned (.tuple #[.slice none 0 0, .int .i64 9]) ∧ w = w' := by
  have hqk : 64 * k / 64 = k := by omega
  have h16 : 64 * k ≤ 65536 := by omega
  obtain ⟨db, dc, A, wc, es, hrw⟩ := hd
  have c0 := hrw.c0
  clear hrw
  by_cases a0 : 1 ≤ n
  · have p0 : decide (n < 1) = false := by simp; omega
    by_cases a1 : 0 ≤ i
    · have p1 : decide (i < 0) = false := by simp; omega
      by_cases a2 : i ≤ k
      · have p2 : decide ((k : Int) < i) = false := by simp; omega
        have p3 : decide ((k : Int) - i < n) = true := by simp; omega
        have p4 : IntKind.i64.wrap ((k : Int) - i) = k - i := by rw [IntKind.wrap_i64]; omega
        clear hfit
        go_enter Try.func34, Try.ntmps34
        go_wp2_with (go_at_call 40; refine (Try.rblocks _ _ _ _ h16 _ c0).mono ?_; rintro e w' ⟨rfl, rfl⟩; rw [hqk])
        go_ret2
        exact ⟨rfl, rfl⟩
      · have p2 : decide ((k : Int) < i) = true := by simp; omega
        clear hfit
        go_enter Try.func34, Try.ntmps34
        go_wp2_with (go_at_call 40; refine (Try.rblocks _ _ _ _ h16 _ c0).mono ?_; rintro e w' ⟨rfl, rfl⟩; rw [hqk])
        go_ret2
        exact ⟨rfl, rfl⟩
    · have p1 : decide (i < 0) = true := by simp; omega
      clear hfit
      go_enter Try.func34, Try.ntmps34
      go_wp2_with fail
      go_ret2
      exact ⟨rfl, rfl⟩
  · have p0 : decide (n < 1) = true := by simp; omega
    clear hfit
    go_enter Try.func34, Try.ntmps34
    go_wp2_with fail
    go_ret2
    exact ⟨rfl, rfl⟩
end Go.Proofs
end

section
namespace Go.Proofs
open Go.RowKit
set_option maxRecDepth 100000
set_option maxHeartbeats 4000000 in
theorem Try.pread {w : World} {F : Nat → Prop} {d k : Nat} {L T : List UInt8} {Q : List (Nat × List UInt8)} (hd : DV w F d k L T Q) (hk : k ≤ 1024) (at' n : Nat) (h1 : 1 ≤ n) (hfit : at' + n ≤ k) :
    Calls Try.prog 33 #[.pointer (some ⟨d, 0, none⟩), .int .i64 at', .int .i64 n] w (RdL w (unc (cat T at' n)) (unl (cat T at' n))) := by
  have HD := Lib.hid hd
  have hTl : T.length = 64 * k := by
    obtain ⟨lb, cl, tb, ct, vw, ds, h⟩ := hd
    exact h.Tl
  have HTL := Lib.hid hTl
  obtain ⟨i0, hi, hz0, hz1, hz2⟩ := info_parts Try.info5
  have I1 := Lib.hid hi
  have I2 := Lib.hid hz0
  have I3 := Lib.hid hz1
  have I4 := Lib.hid hz2
  clear hd hTl hi hz0 hz1 hz2
  have H0 : Hid (RPR w T at' 0 (.slice none 0 0) w) := Lib.hid ⟨by simpa [cat] using World.ownsRow_nil w w.heap.size 5 1, Below.refl _ _, fun h => absurd h (Nat.lt_irrefl _)⟩
  go_enter Try.func33, Try.ntmps33
  go_wp2
  refine wp_scope_once 0 (fun a' wr => ∃ (i : Nat) (v : Value), i ≤ n ∧ RPR w T at' i v wr ∧ ∃ u10 u11 u12 u13 u14 u15 u16 u17 u18 u19 u20 u21 u22 u23 u24 u25 u26 u27 u28 u29 u30 u31 u32 u33 u34 u35 u36 u37 u38 u39 : Value, a' = { tmps := #[.pointer (some ⟨d, 0, none⟩), .int .i64 at', .int .i64 n, undef, undef, undef, .slice none 0 0, .int .i64 0, v, .int .i64 i, u10, u11, u12, u13, u14, u15, u16, u17, u18, u19, u20, u21, u22, u23, u24, u25, u26, u27, u28, u29, u30, u31, u32, u33, u34, u35, u36, u37, u38, u39], defers := [] }) (fun a' _ => n - (intOf (a'.tmps.getD 9 undef)).toNat) rfl ?_ ?_
  · intro hL
    go_wp2_with fail
    refine (Try.there_yes (HD.out) at' n (by omega)).mono ?_
    rintro e w2 ⟨rfl, rfl⟩
    go_wp2_with (refine wp_label ?_; rename_i Q0 K0 hK; refine hK _ _ (hL _ _ ?_); exact ⟨0, _, Nat.zero_le _, H0.out, _, _, _, _, _, _, _, _, _, _, _, _, _, _, _, _, _, _, _, _, _, _, _, _, _, _, _, _, _, _, rfl⟩)
  · rintro a' wr ⟨i, v, hi, hp, u10, u11, u12, u13, u14, u15, u16, u17, u18, u19, u20, u21, u22, u23, u24, u25, u26, u27, u28, u29, u30, u31, u32, u33, u34, u35, u36, u37, u38, u39, rfl⟩
    by_cases hlt : i < n
    · have hD : ((i : Int) == n) = false := by simp; omega
      have hD2 : decide ((i : Int) = n) = false := by simp; omega
      have hD3 : decide (i = n) = false := by simp; omega
      have HP := Lib.hid hp
      clear hp
      go_wp2_with fail
      have hidx : ((at' : Int) + (i : Int)) = ((at' + i : Nat) : Int) := rfl
      rw [hidx]
      obtain ⟨lb, cl, tb, ct, vw, ds, hdw⟩ := (HD.out).stay (Chg.below (HP.out).bel (fun _ => False)) (fun _ _ => id)
      refine (Try.read_good hdw (at' + i) (by omega)).mono ?_
      rintro e w1 ⟨b, c, rfl, z1, z2, z3, z4⟩
      have hown : w1.ownsRow w.heap.size 5 1 v (64 * i) ((cat T at' i).map u8v) := own_below (HP.out).own z4
      have hB1 := Lib.hid ((HP.out).bel.trans (z4.mono (HP.out).bel.size))
      have hsz := (HP.out).bel.size
      have hsz1 := (hB1.out).size
      have hall := z3.all
      have hl64 : ((T.drop ((at' + i) * 64)).take 64).length = 64 := by rw [List.length_take, List.length_drop, HTL.out]; omega
      have hcs := cat_succ T at' i
      generalize (T.drop ((at' + i) * 64)).take 64 = X at hall hl64 hcs
      have HL64 := Lib.hid hl64
      have HCS := Lib.hid hcs
      have h63 : 64 * i + 64 ≤ maxLen := by unfold maxLen; omega
      have HG : Hid (∀ kk, v.ownBlock = some kk → w.heap.size ≤ kk) := Lib.hid (fun kk hkk => by
        rcases hown.2 with ⟨rfl, _⟩ | ⟨g, cap, cur, rfl, hg, _⟩
        · simp [Value.ownBlock] at hkk
        · simp [Value.ownBlock] at hkk; omega)
      clear hdw hidx HP hl64 hcs z1 z2 z3 z4
      go_wp2_with (at_builtin; refine wpList_append_own _ rfl (.tmp 35) (.tmp 36) 31 rfl w.heap.size 5 i0 (.int .u8 0) 1 1 Try.underlying31 I1.out I2.out I3.out I4.out rfl (by decide) _ _ _ rfl hown _ _ _ (X.map u8v) rfl ?c1 hall (u8v_one _) h63 ?c2 ?c3 ?c4)
      case c1 => rw [List.length_map, HL64.out]
      case c2 => omega
      case c3 => omega
      case c4 =>
        intro v' w2 hown1 hg hne
        have hv : v' ≠ .slice none 0 0 := by simpa using hne
        have hb2 : Below w.heap.size w w2 := (hB1.out).grown hg (hB1.out).size (HG.out)
        rw [← List.map_append, HCS.out] at hown1
        have HN : Hid (RPR w T at' (i + 1) v' w2) := Lib.hid ⟨hown1, hb2, fun _ => hv⟩
        clear hown1 hg hne hv hb2 hown hall
        go_wp2
        go_step3
        exact ⟨rfl, ⟨i + 1, _, hlt, HN.out, _, _, _, _, _, _, _, _, _, _, _, _, _, _, _, _, _, _, _, _, _, _, _, _, _, _, _, _, _, _, rfl⟩, by simp [intOf]; omega⟩
    · obtain rfl : i = n := by omega
      obtain ⟨A, c, rfl, q1, q2, q3⟩ := row_use hp.own (hp.nn (by omega))
      have HB := Lib.hid hp.bel
      have HQ := Lib.hid q3
      clear hp q3
      go_wp2_with fail
      refine (Try.unwrap _ _ _ _ _ (cat_len HTL.out hfit) q1 q2 (by omega) HQ.out).mono ?_
      rintro e w2 ⟨v, rfl, b1, x1⟩
      have B1 := Lib.hid b1
      have X1 := Lib.hid x1
      clear b1 x1
      go_wp2
      simp only [Exit.jump]
      go_ret2
      exact ⟨_, rfl, (HB.out).trans ((B1.out).mono (HB.out).size), X1.out⟩
theorem Try.pread_bad {w : World} {F : Nat → Prop} {d k : Nat} {L T : List UInt8} {Q : List (Nat × List UInt8)} (hd : DV w F d k L T Q) (i n : Int) (hfit : ¬ (1 ≤ n ∧ 0 ≤ i ∧ i + n ≤ k)) :
    Calls Try.prog 33 #[.pointer (some ⟨d, 0, none⟩), .int .i64 i, .int .i64 n] w fun e w' => e = .returned (.tuple #[.slice none 0 0, .int .i64 9]) ∧ w = w' := by
  have HD := Lib.hid hd
  have HF := Lib.hid hfit
  clear hd hfit
  go_enter Try.func33, Try.ntmps33
  go_wp2
  refine wp_scope_once 0 (fun a' wr => False) (fun a' _ => 0) rfl ?_ (fun _ _ h => h.elim)
  intro hL
  clear hL
  go_wp2_with fail
  refine (Try.there_no (HD.out) i n (fun q => HF.out ⟨q.1, q.2.2.1, by omega⟩)).mono ?_
  rintro e w2 ⟨rfl, rfl⟩
  go_wp2_with fail
  simp only [Exit.jump]
  go_ret2
  exact ⟨rfl, rfl⟩
end Go.Proofs
end

section
namespace Go.Proofs
open Go.RowKit
set_option maxRecDepth 100000
def spl (T : List UInt8) (o : Nat) (b : List UInt8) : List UInt8 := T.take o ++ (b ++ T.drop (o + b.length))
theorem spl_get {T b : List UInt8} {o : Nat} (h : o + b.length ≤ T.length) (i : Nat) : (spl T o b)[i]? = if i < o then T[i]? else if i < o + b.length then b[i - o]? else T[i]? := by
  unfold spl
  have hl : (T.take o).length = o := by rw [List.length_take]; omega
  by_cases h1 : i < o
  · rw [if_pos h1, List.getElem?_append_left (by omega), List.getElem?_take_of_lt h1]
  · rw [if_neg h1, List.getElem?_append_right (by omega), hl]
    by_cases h2 : i < o + b.length
    · rw [if_pos h2, List.getElem?_append_left (by omega)]
    · rw [if_neg h2, List.getElem?_append_right (by omega), List.getElem?_drop]
      congr 1
      omega
theorem cat_get (T : List UInt8) (a n i : Nat) : (cat T a n)[i]? = if i < 64 * n then T[64 * a + i]? else none := by
  unfold cat
  by_cases h : i < 64 * n
  · rw [if_pos h, List.getElem?_take_of_lt h, List.getElem?_drop]
  · rw [if_neg h, List.getElem?_eq_none]
    rw [List.length_take]
    omega
theorem cat_spl {T p : List UInt8} {k a n : Nat} (hT : T.length = 64 * k) (hp : p.length = 64 * n) (h : a + n ≤ k) : cat (spl T (64 * a) p) a n = p := by
  refine List.ext_getElem? fun i => ?_
  rw [cat_get]
  by_cases h1 : i < 64 * n
  · rw [if_pos h1, spl_get (by omega), if_neg (by omega), if_pos (by omega)]
    congr 1
    omega
  · rw [if_neg h1, List.getElem?_eq_none (by omega)]
theorem cat_far {T b : List UInt8} {k x n y m : Nat} (hT : T.length = 64 * k) (hb : b.length = 64 * m) (h : y + m ≤ k) (hd : x + n ≤ y ∨ y + m ≤ x) : cat (spl T (64 * y) b) x n = cat T x n := by
  refine List.ext_getElem? fun i => ?_
  rw [cat_get, cat_get]
  by_cases h1 : i < 64 * n
  · rw [if_pos h1, if_pos h1, spl_get (by omega)]
    rcases hd with hd | hd
    · rw [if_pos (by omega)]
    · rw [if_neg (by omega), if_neg (by omega)]
  · rw [if_neg h1, if_neg h1]
theorem spl_len {T b : List UInt8} {o : Nat} (h : o + b.length ≤ T.length) : (spl T o b).length = T.length := by
  unfold spl
  simp only [List.length_append, List.length_take, List.length_drop]
  omega
theorem dset_pgq (Q : List (Nat × List UInt8)) (a : Nat) (p L : List UInt8) (k : Nat) (hT : (dset (fun _ => true) 0 Q L).length = 64 * k) : ∀ n : Nat, 64 * n ≤ p.length → a + n ≤ k → dset (fun _ => true) 0 (pgq Q a p n) L = spl (dset (fun _ => true) 0 Q L) (64 * a) (p.take (64 * n))
  | 0, _, _ => by
    rw [pgq_zero]
    simp [spl]
  | n + 1, h1, h2 => by
    have e := dset_pgq Q a p L k hT n (by omega) (by omega)
    rw [pgq_succ, dset_snoc, if_pos rfl, e]
    have hl : (p.take (64 * n)).length = 64 * n := by rw [List.length_take]; omega
    have hl2 : (p.take (64 * (n + 1))).length = 64 * (n + 1) := by rw [List.length_take]; omega
    have hb : ((p.drop (64 * n)).take 64).length = 64 := by rw [List.length_take, List.length_drop]; omega
    have hs := spl_len (T := dset (fun _ => true) 0 Q L) (b := p.take (64 * n)) (o := 64 * a) (by omega)
    have hq : ∀ (X : List UInt8), X.take (((a + n, (p.drop (64 * n)).take 64) : Nat × List UInt8).1 * 64) ++ (((a + n, (p.drop (64 * n)).take 64) : Nat × List UInt8).2 ++ X.drop (((a + n, (p.drop (64 * n)).take 64) : Nat × List UInt8).1 * 64 + 64)) = spl X (64 * (a + n)) ((p.drop (64 * n)).take 64) := by
      intro X
      unfold spl
      rw [hb, show 64 * (a + n) = (a + n) * 64 from Nat.mul_comm _ _]
    rw [hq]
    refine List.ext_getElem? fun i => ?_
    rw [spl_get (by omega), spl_get (by omega), spl_get (by omega), hl, hl2, hb]
    by_cases c1 : i < 64 * a
    · simp only [if_pos c1, if_pos (show i < 64 * (a + n) by omega)]
    · by_cases c2 : i < 64 * a + 64 * n
      · simp only [if_neg c1, if_pos c2, if_pos (show i < 64 * (a + n) by omega), if_pos (show i < 64 * a + 64 * (n + 1) by omega)]
        rw [List.getElem?_take_of_lt (by omega), List.getElem?_take_of_lt (by omega)]
      · by_cases c3 : i < 64 * a + 64 * (n + 1)
        · simp only [if_neg c1, if_neg c2, if_pos c3, if_neg (show ¬ i < 64 * (a + n) by omega), if_pos (show i < 64 * (a + n) + 64 by omega)]
          rw [List.getElem?_take_of_lt (by omega), List.getElem?_take_of_lt (by omega), List.getElem?_drop]
          congr 1
          omega
        · simp only [if_neg c1, if_neg c2, if_neg c3, if_neg (show ¬ i < 64 * (a + n) by omega), if_neg (show ¬ i < 64 * (a + n) + 64 by omega)]
theorem unc_wpg {l : List UInt8} (h : l.length ≤ 8192) : unc (wpg l) = 0 ∧ unl (wpg l) = l := by
  have hb := Sp.wrap_bytes (iv_bytes l)
  have e : iv (wpg l) = Sp.wrap (iv l) := iv_bv hb
  have hu := Sp.unwB_wrap (b := iv l) (iv_bytes l) (by rw [iv_len]; exact h)
  unfold unc unl
  rw [e, if_pos hu, if_pos hu, Sp.unwD_wrap (by rw [iv_len]; exact h), bv_iv]
  exact ⟨rfl, rfl⟩
theorem unc_or (l : List UInt8) : (unc l = 0) ∨ (unc l = 12 ∧ unl l = []) := by
  unfold unc unl
  by_cases h : Sp.unwB (iv l) = true
  · rw [if_pos h]; exact .inl rfl
  · rw [if_neg h, if_neg h]; exact .inr ⟨rfl, rfl⟩
def pcc (k : Nat) (i : Int) (l : List UInt8) : Int := if 0 ≤ i ∧ i + wpn l ≤ k then 0 else 9
def pqq (k : Nat) (i : Int) (l : List UInt8) : List (Nat × List UInt8) := if 0 ≤ i ∧ i + wpn l ≤ k then pgq [] i.toNat (wpg l) (wpn l) else []
def prc (k : Nat) (i n : Int) (T : List UInt8) : Int := if 1 ≤ n ∧ 0 ≤ i ∧ i + n ≤ k then unc (cat T i.toNat n.toNat) else 9
def prl (k : Nat) (i n : Int) (T : List UInt8) : List UInt8 := if 1 ≤ n ∧ 0 ≤ i ∧ i + n ≤ k then unl (cat T i.toNat n.toNat) else []
theorem pqq_len (k : Nat) (i : Int) (l : List UInt8) (h8 : l.length ≤ 8192) : (pqq k i l).length ≤ 129 := by
  unfold pqq
  split
  · rw [pgq_len]; have := (wpn_pos h8).2.1; simp; omega
  · simp
theorem upd_below {w w' : World} (F : Nat → Prop) (h : Below w.heap.size w w') : Upd w w' F F := ⟨h.os, h.tape, h.output, h.size, fun b q _ => h.block b q, fun _ q => .inl q⟩
def PW (w : World) (F : Nat → Prop) (d k : Nat) (L : List UInt8) (Q : List (Nat × List UInt8)) (c : Int) (e : Ending) (w' : World) : Prop := e = .returned (.int .i64 c) ∧ ∃ F', DV w' F' d k L (dset (fun _ => true) 0 Q L) Q ∧ Upd w w' F F'
def RPW (w : World) (F : Nat → Prop) (m k : Nat) (D : List UInt8) (Q : List (Nat × List UInt8)) (c : Int) (e : Ending) (w' : World) : Prop := e = .returned (.int .i64 c) ∧ ∃ F', RV w' F' m k D Q ∧ Upd w w' F F'
theorem Try.pw_any {w : World} {F : Nat → Prop} {d k : Nat} {L : List UInt8} (hd : DV w F d k L L []) (hk : k ≤ 1024) (i : Int) (a : Option Addr) (n c : Nat) (l : List UInt8) (hl : l.length = n) (hn : n ≤ c) (hc : c ≤ maxLen) (h8 : n ≤ 8192) (hX : DataIn w a n l) :
    Calls Try.prog 30 #[.pointer (some ⟨d, 0, none⟩), .int .i64 i, .slice a n c] w (PW w F d k L (pqq k i l) (pcc k i l)) := by
  unfold pqq pcc
  by_cases h : 0 ≤ i ∧ i + wpn l ≤ k
  · rw [if_pos h, if_pos h]
    obtain ⟨at', rfl⟩ : ∃ at' : Nat, i = at' := ⟨i.toNat, by omega⟩
    exact Try.pwrite (Q := []) hd hk (by simp) at' a n c l hl hn hc h8 hX (by omega)
  · rw [if_neg h, if_neg h]
    refine (Try.pwrite_bad hd i a n c l hl hn hc h8 hX h).mono ?_
    rintro e w' ⟨rfl, hb⟩
    exact ⟨rfl, F, hd.stay (Chg.below hb (fun _ => False)) (fun _ _ => id), upd_below F hb⟩
theorem Try.rpw_any {w : World} {F : Nat → Prop} {m k : Nat} {D : List UInt8} (hd : RV w F m k D []) (hk : k ≤ 1024) (i : Int) (a : Option Addr) (n c : Nat) (l : List UInt8) (hl : l.length = n) (hn : n ≤ c) (hc : c ≤ maxLen) (h8 : n ≤ 8192) (hX : DataIn w a n l) :
    Calls Try.prog 31 #[.pointer (some ⟨m, 0, none⟩), .int .i64 i, .slice a n c] w (RPW w F m k D (pqq k i l) (pcc k i l)) := by
  unfold pqq pcc
  by_cases h : 0 ≤ i ∧ i + wpn l ≤ k
  · rw [if_pos h, if_pos h]
    obtain ⟨at', rfl⟩ : ∃ at' : Nat, i = at' := ⟨i.toNat, by omega⟩
    exact Try.rpwrite (Q := []) hd hk (by simp) at' a n c l hl hn hc h8 hX (by omega)
  · rw [if_neg h, if_neg h]
    refine (Try.rpwrite_bad hd hk i a n c l hl hn hc h8 hX h).mono ?_
    rintro e w' ⟨rfl, hb⟩
    exact ⟨rfl, F, hd.stay (Chg.below hb (fun _ => False)) (fun _ _ => id), upd_below F hb⟩
theorem rdl_none {w : World} : RdL w 9 [] (.returned (.tuple #[.slice none 0 0, .int .i64 9])) w := ⟨_, rfl, Below.refl _ _, ⟨_, _, rfl⟩, fun w2 _ => str_sl0 w2 _ _⟩
theorem Try.pr_any {w : World} {F : Nat → Prop} {d k : Nat} {L T : List UInt8} {Q : List (Nat × List UInt8)} (hd : DV w F d k L T Q) (hk : k ≤ 1024) (i n : Int) :
    Calls Try.prog 33 #[.pointer (some ⟨d, 0, none⟩), .int .i64 i, .int .i64 n] w (RdL w (prc k i n T) (prl k i n T)) := by
  unfold prc prl
  by_cases h : 1 ≤ n ∧ 0 ≤ i ∧ i + n ≤ k
  · rw [if_pos h, if_pos h]
    obtain ⟨x, rfl⟩ : ∃ x : Nat, i = x := ⟨i.toNat, by omega⟩
    obtain ⟨y, rfl⟩ : ∃ y : Nat, n = y := ⟨n.toNat, by omega⟩
    exact Try.pread hd hk x y (by omega) (by omega)
  · rw [if_neg h, if_neg h]
    refine (Try.pread_bad hd i n h).mono ?_
    rintro e w' ⟨rfl, rfl⟩
    exact rdl_none
theorem Try.rpr_any {w : World} {F : Nat → Prop} {m k : Nat} {D T : List UInt8} {Q : List (Nat × List UInt8)} (hd : RV w F m k D Q) (hk : k ≤ 1024) (hQ : Q.length ≤ 1000000) (i n : Int) (hT : dset (fun _ => true) 0 Q D = T) :
    Calls Try.prog 34 #[.pointer (some ⟨m, 0, none⟩), .int .i64 i, .int .i64 n] w (RdL w (prc k i n T) (prl k i n T)) := by
  subst hT
  unfold prc prl
  by_cases h : 1 ≤ n ∧ 0 ≤ i ∧ i + n ≤ k
  · rw [if_pos h, if_pos h]
    obtain ⟨x, rfl⟩ : ∃ x : Nat, i = x := ⟨i.toNat, by omega⟩
    obtain ⟨y, rfl⟩ : ∃ y : Nat, n = y := ⟨n.toNat, by omega⟩
    exact Try.rpread hd hk hQ x y (by omega) (by omega)
  · rw [if_neg h, if_neg h]
    refine (Try.rpread_bad hd hk i n h).mono ?_
    rintro e w' ⟨rfl, rfl⟩
    exact rdl_none
end Go.Proofs
end

section
namespace Go.Proofs
open Go.RowKit
set_option maxRecDepth 100000
theorem DataIn.bel {w w' : World} {a : Option Addr} {n : Nat} {l : List UInt8} (h : DataIn w a n l) (hb : Below w.heap.size w w') : DataIn w' a n l := fun h0 => by
  obtain ⟨X, e, hX⟩ := h h0
  exact ⟨X, e, cells_below hX hb⟩
theorem DataIn.str {w : World} {a : Option Addr} {n c : Nat} {l : List UInt8} (h : DataIn w a n l) (hl : l.length = n) : (convert 31 9 (.slice a n c)).run Try.prog w = .ok (.string (strOf l)) w := by
  rcases Nat.eq_zero_or_pos n with h0 | h0
  · subst h0
    obtain rfl := List.eq_nil_of_length_eq_zero hl
    exact str_sl0 w a c
  · obtain ⟨X, rfl, hX⟩ := h h0
    exact str_arg hX n c hl
theorem apart_two {k x y : Nat} {a b L : List UInt8} (hL : L.length = 64 * k) (h8 : a.length ≤ 8192) (h9 : b.length ≤ 8192) (hx : x + wpn a ≤ k) (hy : y + wpn b ≤ k) :
    cat (dset (fun _ => true) 0 (pgq (pgq [] x (wpg a) (wpn a)) y (wpg b) (wpn b)) L) y (wpn b) = wpg b ∧
    (x + wpn a ≤ y ∨ y + wpn b ≤ x → cat (dset (fun _ => true) 0 (pgq (pgq [] x (wpg a) (wpn a)) y (wpg b) (wpn b)) L) x (wpn a) = wpg a) := by
  have la := wpg_len h8
  have lb := wpg_len h9
  have e1 := dset_pgq [] x (wpg a) L k hL (wpn a) (by omega) hx
  rw [List.take_of_length_le (by omega)] at e1
  have e0 : dset (fun _ => true) 0 [] L = L := rfl
  rw [e0] at e1
  have l1 : (dset (fun _ => true) 0 (pgq [] x (wpg a) (wpn a)) L).length = 64 * k := by rw [e1, spl_len (by omega), hL]
  have e2 := dset_pgq (pgq [] x (wpg a) (wpn a)) y (wpg b) L k l1 (wpn b) (by omega) hy
  rw [List.take_of_length_le (by omega)] at e2
  rw [e2]
  refine ⟨cat_spl l1 lb hy, fun hd => ?_⟩
  rw [cat_far l1 lb hy hd, e1]
  exact cat_spl hL la hx
theorem wpn_three {l : List UInt8} (h : l.length ≤ 120) : wpn l ≤ 3 := by
  have h1 := Sp.psz_in (n := (l.length : Int)) (by omega)
  have h2 := Sp.enc_len (u := (l.length : Int)) (by omega) (by omega)
  have h3 := (wpn_pos (l := l) (by omega)).2.2
  omega
theorem prc_in {k i n : Nat} {T : List UInt8} (h1 : 1 ≤ n) (h : i + n ≤ k) : prc k i n T = unc (cat T i n) ∧ prl k i n T = unl (cat T i n) := by
  unfold prc prl
  rw [if_pos (by omega), if_pos (by omega)]
  simp
theorem apart_told {k x y : Nat} {a b L : List UInt8} (hL : L.length = 64 * k) (h8 : a.length ≤ 8192) (h9 : b.length ≤ 8192) (hx : x + wpn a ≤ k) (hy : y + wpn b ≤ k) (T : List UInt8) (hT : T = dset (fun _ => true) 0 (pgq (pgq [] x (wpg a) (wpn a)) y (wpg b) (wpn b)) L) :
    prc k y (wpn b) T = 0 ∧ prl k y (wpn b) T = b ∧ (x + wpn a ≤ y ∨ y + wpn b ≤ x → prc k x (wpn a) T = 0 ∧ prl k x (wpn a) T = a) ∧ (x = y → wpn a = wpn b → prc k x (wpn a) T = 0 ∧ prl k x (wpn a) T = b) ∧ (prc k x (wpn a) T = 0 ∨ (prc k x (wpn a) T = 12 ∧ prl k x (wpn a) T = [])) := by
  subst hT
  have pa := (wpn_pos h8).1
  have pb := (wpn_pos h9).1
  obtain ⟨t1, t2⟩ := apart_two hL h8 h9 hx hy
  have e1 := prc_in (T := dset (fun _ => true) 0 (pgq (pgq [] x (wpg a) (wpn a)) y (wpg b) (wpn b)) L) pb hy
  have e2 := prc_in (T := dset (fun _ => true) 0 (pgq (pgq [] x (wpg a) (wpn a)) y (wpg b) (wpn b)) L) pa hx
  rw [t1, (unc_wpg h9).1, (unc_wpg h9).2] at e1
  refine ⟨e1.1, e1.2, fun hd => ?_, fun h1 h2 => ?_, ?_⟩
  · rw [t2 hd, (unc_wpg h8).1, (unc_wpg h8).2] at e2
    exact e2
  · subst h1
    have hc : cat (dset (fun _ => true) 0 (pgq (pgq [] x (wpg a) (wpn a)) x (wpg b) (wpn b)) L) x (wpn a) = wpg b := by rw [h2] at t1 ⊢; exact t1
    rw [hc, (unc_wpg h9).1, (unc_wpg h9).2] at e2
    exact e2
  · rw [e2.1, e2.2]
    exact unc_or _
theorem upd_bel {w w4 w5 : World} {F F5 : Nat → Prop} (hb : Below w.heap.size w w4) (hu : Upd w4 w5 F F5) (hF : ∀ b, F b → w.heap.size ≤ b) : Below w.heap.size w w5 ∧ ∀ b, F5 b → w.heap.size ≤ b := by
  have hs := hb.size
  refine ⟨⟨hu.os.trans hb.os, hu.tape.trans hb.tape, hu.output.trans hb.output, Nat.le_trans hs hu.size, fun b q => (hu.block b (by omega) (fun q2 => by have := hF b q2; omega)).trans (hb.block b q)⟩, fun b q => ?_⟩
  rcases hu.grow b q with q | q
  · exact hF b q
  · omega
set_option maxHeartbeats 4000000 in
theorem Try.apart (w : World) (A B : Option Addr) (n1 c1 n2 c2 : Nat) (l1 l2 : List UInt8) (hl1 : l1.length = n1) (hl2 : l2.length = n2) (hn1 : n1 ≤ c1) (hc1 : c1 ≤ maxLen) (hn2 : n2 ≤ c2) (hc2 : c2 ≤ maxLen) (hX1 : DataIn w A n1 l1) (hX2 : DataIn w B n2 l2) (s t : Nat)
    (h1 : n1 ≤ 120) (h2 : n2 ≤ 120) : Calls Try.prog 9 #[.slice A n1 c1, .slice B n2 c2, .int .u8 s, .int .u8 t] w (YesO w) := by
  have HX1 := Lib.hid hX1
  have HX2 := Lib.hid hX2
  have HL1 := Lib.hid hl1
  have HL2 := Lib.hid hl2
  have d1 : decide (120 < (n1 : Int)) = false := by simp; omega
  have d2 : decide (120 < (n2 : Int)) = false := by simp; omega
  have d1' : decide (120 < n1) = false := by simp; omega
  have d2' : decide (120 < n2) = false := by simp; omega
  have P1 := Lib.hid (wpn_pos (l := l1) (by omega))
  have P2 := Lib.hid (wpn_pos (l := l2) (by omega))
  have T1 := Lib.hid (wpn_three (l := l1) (by omega))
  have T2 := Lib.hid (wpn_three (l := l2) (by omega))
  have k1 : decide ((wpn l1 : Int) < 1) = false := by have := (P1.out).1; simp; omega
  have k2 : decide ((wpn l2 : Int) < 1) = false := by have := (P2.out).1; simp; omega
  have k3 : decide (3 < (wpn l1 : Int)) = false := by have := T1.out; simp; omega
  have k4 : decide (3 < (wpn l2 : Int)) = false := by have := T2.out; simp; omega
  have k1' : decide (wpn l1 < 1) = false := by have := (P1.out).1; simp; omega
  have k2' : decide (wpn l2 < 1) = false := by have := (P2.out).1; simp; omega
  have k3' : decide (3 < wpn l1) = false := by have := T1.out; simp; omega
  have k4' : decide (3 < wpn l2) = false := by have := T2.out; simp; omega
  have k5 : (wpn l1 = 0) = False := by have := (P1.out).1; simp; omega
  have k6 : (wpn l2 = 0) = False := by have := (P2.out).1; simp; omega
  have x1 : (s : Int) % 12 = ((s % 12 : Nat) : Int) := by omega
  have x2 : (t : Int) % 12 = ((t % 12 : Nat) : Int) := by omega
  obtain ⟨x, hx⟩ : ∃ x, s % 12 = x := ⟨_, rfl⟩
  obtain ⟨y, hy⟩ : ∃ y, t % 12 = y := ⟨_, rfl⟩
  have HXX := Lib.hid (show x < 12 by omega)
  have HYY := Lib.hid (show y < 12 by omega)
  rw [hx] at x1
  rw [hy] at x2
  clear hX1 hX2 hl1 hl2 hx hy
  go_enter Try.func9, Try.ntmps9
  go_wp2_with fail
  refine (Try.known13 _).mono ?_
  rintro e w1 ⟨rfl, hb1⟩
  have HB := Lib.hid hb1
  clear hb1
  go_wp2_with fail
  refine (Calls.mono (show Calls Try.prog 11 #[.int .i64 16] _ _ from Try.new_good 16 (by decide) (by decide) _) ?_)
  rintro e w2 ⟨v, rfl, d, F, rfl, hd', hb2, hF⟩
  obtain ⟨L, hL⟩ : ∃ L, List.replicate (64 * 16) (0 : UInt8) = L := ⟨_, rfl⟩
  have HLL : Hid (L.length = 64 * 16) := Lib.hid (by rw [← hL]; exact List.length_replicate)
  rw [hL] at hd'
  have HD := Lib.hid hd'
  have HB2 := Lib.hid ((HB.out).trans (hb2.mono (HB.out).size))
  have HF : Hid (∀ b, F b → w.heap.size ≤ b) := Lib.hid (fun b q => Nat.le_trans (HB.out).size (hF b q))
  clear hd' hb2 hF HB hL
  go_wp2_with fail
  refine (Try.size n1 HL1.out (by omega) _).mono ?_
  rintro e w3 ⟨rfl, hb3⟩
  have HD3 := Lib.hid ((HD.out).stay (Chg.below hb3 (fun _ => False)) (fun _ _ => id))
  have HB3 := Lib.hid ((HB2.out).trans (hb3.mono (HB2.out).size))
  clear hb3 HD HB2
  go_wp2_with fail
  refine (Try.size n2 HL2.out (by omega) _).mono ?_
  rintro e w4 ⟨rfl, hb4⟩
  have HD4 := Lib.hid ((HD3.out).stay (Chg.below hb4 (fun _ => False)) (fun _ _ => id))
  have HB4 := Lib.hid ((HB3.out).trans (hb4.mono (HB3.out).size))
  clear hb4 HD3 HB3
  go_wp2_with fail
  have hd5 : DV w4 F d 16 L (dset (fun _ => true) 0 [] L) [] := HD4.out
  have hf5 : x + wpn l1 ≤ 16 := by have := T1.out; have := HXX.out; omega
  have hx5 := (HX1.out).bel HB4.out
  have hp5 := Try.pwrite (Q := []) hd5 (by omega) (by simp) x A n1 c1 l1 HL1.out hn1 hc1 (by omega) hx5 hf5
  clear hd5 hf5 hx5
  with_reducible refine hp5.mono ?_
  clear hp5
  rintro e w5 ⟨rfl, F5, z1, z2⟩
  have HD5 := Lib.hid z1
  obtain ⟨q1, q2⟩ := upd_bel HB4.out z2 HF.out
  have HB5 := Lib.hid q1
  have HF5 := Lib.hid q2
  clear z1 z2 q1 q2 HD4 HB4 HF
  go_wp2_with fail
  have hf6 : y + wpn l2 ≤ 16 := by have := T2.out; have := HYY.out; omega
  have hx6 := (HX2.out).bel HB5.out
  have hq6 : (pgq [] x (wpg l1) (wpn l1)).length ≤ 10000 := by rw [pgq_len]; have := (P1.out).2.1; simp; omega
  have hd6 := HD5.out
  have hp6 := Try.pwrite hd6 (by omega) hq6 y B n2 c2 l2 HL2.out hn2 hc2 (by omega) hx6 hf6
  clear hd6 hf6 hx6 hq6
  with_reducible refine hp6.mono ?_
  clear hp6
  rintro e w6 ⟨rfl, F6, z1, z2⟩
  obtain ⟨q1, q2⟩ := upd_bel HB5.out z2 HF5.out
  have HB6 := Lib.hid q1
  obtain ⟨T, hT⟩ : ∃ T, T = dset (fun _ => true) 0 (pgq (pgq [] x (wpg l1) (wpn l1)) y (wpg l2) (wpn l2)) L := ⟨_, rfl⟩
  rw [← hT] at z1
  have HD6 := Lib.hid z1
  have hf5 : x + wpn l1 ≤ 16 := by have := T1.out; have := HXX.out; omega
  have hf6 : y + wpn l2 ≤ 16 := by have := T2.out; have := HYY.out; omega
  have hl8 : l1.length ≤ 8192 := by have := HL1.out; omega
  have hl9 : l2.length ≤ 8192 := by have := HL2.out; omega
  have HTold := Lib.hid (apart_told HLL.out hl8 hl9 hf5 hf6 T hT)
  clear hf5 hf6 hl8 hl9
  clear z1 z2 q1 q2 HD5 HB5 HF5 hT
  go_wp2_with fail
  have h7 := HD6.out
  have hp7 := Try.pr_any h7 (by omega) (x : Int) (wpn l1 : Int)
  with_reducible refine hp7.mono ?_
  clear h7 hp7
  rintro e w7 ⟨v1, rfl, b1, ⟨X1, m1, rfl⟩, y1⟩
  have HD7 := Lib.hid ((HD6.out).stay (Chg.below b1 (fun _ => False)) (fun _ _ => id))
  have HB7 := Lib.hid ((HB6.out).trans (b1.mono (HB6.out).size))
  have Y1 := Lib.hid y1
  clear b1 y1 HD6 HB6
  go_wp2_with fail
  have h8 := HD7.out
  have hp8 := Try.pr_any h8 (by omega) (y : Int) (wpn l2 : Int)
  with_reducible refine hp8.mono ?_
  clear h8 hp8
  rintro e w8 ⟨v2, rfl, b2, ⟨X2, m2, rfl⟩, y2⟩
  have HB8 := Lib.hid ((HB7.out).trans (b2.mono (HB7.out).size))
  have y1 := (Y1.out) w8 b2
  replace y2 := y2 w8 (Below.refl _ _)
  obtain ⟨t1, t2, t3, t4, t5⟩ := HTold.out
  rw [t1, t2]
  rw [t2] at y2
  have y3 := DataIn.str (c := c1) ((HX1.out).bel HB8.out) HL1.out
  have y4 := DataIn.str (c := c2) ((HX2.out).bel HB8.out) HL2.out
  have HT3 := Lib.hid t3
  have HT4 := Lib.hid t4
  have HT5 := Lib.hid t5
  generalize prc 16 (x : Int) (wpn l1 : Int) T = cp at y1 HT3 HT4 HT5 ⊢
  generalize prl 16 (x : Int) (wpn l1 : Int) T = lp at y1 HT3 HT4 HT5 ⊢
  clear b2 HD7 HB7 t1 t2 t3 t4 t5 HTold Y1
  generalize l2.length = N2 at y2 ⊢
  obtain ⟨N1, hN1⟩ : ∃ N, lp.length = N := ⟨_, rfl⟩
  have HN1 := Lib.hid hN1
  rw [hN1] at y1 ⊢
  clear hN1 x1 x2 d1 d2 d1' d2' h1 h2 hn1 hn2 hc1 hc2
  have u1 : wrap64 ((x : Int) + (wpn l1 : Int)) = ((x + wpn l1 : Nat) : Int) := by have := T1.out; have := HXX.out; unfold wrap64; omega
  have u2 : wrap64 ((y : Int) + (wpn l2 : Int)) = ((y + wpn l2 : Nat) : Int) := by have := T2.out; have := HYY.out; unfold wrap64; omega
  by_cases e1 : x + wpn l1 ≤ y
  · obtain ⟨rfl, hq⟩ := HT3.out (.inl e1)
    rw [hq] at y1
    have g1 : decide ((x : Int) + (wpn l1 : Int) ≤ (y : Int)) = true := by simp; omega
    have g1' : decide (x + wpn l1 ≤ y) = true := by simp; omega
    clear e1 hq
    go_wp2_with fail
    go_ret
    exact ⟨rfl, HB8.out⟩
  · by_cases e2 : y + wpn l2 ≤ x
    · obtain ⟨rfl, hq⟩ := HT3.out (.inr e2)
      rw [hq] at y1
      have g1 : decide ((x : Int) + (wpn l1 : Int) ≤ (y : Int)) = false := by simp; omega
      have g1' : decide (x + wpn l1 ≤ y) = false := by simp; omega
      have g2 : decide ((y : Int) + (wpn l2 : Int) ≤ (x : Int)) = true := by simp; omega
      have g2' : decide (y + wpn l2 ≤ x) = true := by simp; omega
      clear e1 e2 hq
      go_wp2_with fail
      go_ret
      exact ⟨rfl, HB8.out⟩
    · by_cases e3 : x = y
      · by_cases e4 : wpn l1 = wpn l2
        · obtain ⟨rfl, hq⟩ := HT4.out e3 e4
          rw [hq] at y1
          have g1 : decide ((x : Int) + (wpn l1 : Int) ≤ (y : Int)) = false := by simp; omega
          have g1' : decide (x + wpn l1 ≤ y) = false := by simp; omega
          have g2 : decide ((y : Int) + (wpn l2 : Int) ≤ (x : Int)) = false := by simp; omega
          have g2' : decide (y + wpn l2 ≤ x) = false := by simp; omega
          have g3 : ((x : Int) == (y : Int)) = true := by simp; omega
          have g3' : decide ((x : Int) = (y : Int)) = true := by simp; omega
          have g4 : ((wpn l1 : Int) == (wpn l2 : Int)) = true := by simp; omega
          have g4' : decide ((wpn l1 : Int) = (wpn l2 : Int)) = true := by simp; omega
          clear e1 e2 e3 e4 hq
          go_wp2_with fail
          go_ret
          exact ⟨rfl, HB8.out⟩
        · skip
          have g1 : decide ((x : Int) + (wpn l1 : Int) ≤ (y : Int)) = false := by simp; omega
          have g1' : decide (x + wpn l1 ≤ y) = false := by simp; omega
          have g2 : decide ((y : Int) + (wpn l2 : Int) ≤ (x : Int)) = false := by simp; omega
          have g2' : decide (y + wpn l2 ≤ x) = false := by simp; omega
          have g3 : ((x : Int) == (y : Int)) = true := by simp; omega
          have g3' : decide ((x : Int) = (y : Int)) = true := by simp; omega
          have g4 : ((wpn l1 : Int) == (wpn l2 : Int)) = false := by simp; omega
          have g4' : decide ((wpn l1 : Int) = (wpn l2 : Int)) = false := by simp; omega
          clear e1 e2 e3 e4
          rcases HT5.out with rfl | ⟨rfl, hq⟩
          · skip
            go_wp2_with fail
            go_ret
            exact ⟨rfl, HB8.out⟩
          · obtain rfl : N1 = 0 := by rw [← HN1.out, hq]; rfl
            clear hq
            go_wp2_with fail
            go_ret
            exact ⟨rfl, HB8.out⟩
      · skip
        have g1 : decide ((x : Int) + (wpn l1 : Int) ≤ (y : Int)) = false := by simp; omega
        have g1' : decide (x + wpn l1 ≤ y) = false := by simp; omega
        have g2 : decide ((y : Int) + (wpn l2 : Int) ≤ (x : Int)) = false := by simp; omega
        have g2' : decide (y + wpn l2 ≤ x) = false := by simp; omega
        have g3 : ((x : Int) == (y : Int)) = false := by simp; omega
        have g3' : decide ((x : Int) = (y : Int)) = false := by simp; omega
        clear e1 e2 e3
        rcases HT5.out with rfl | ⟨rfl, hq⟩
        · skip
          go_wp2_with fail
          go_ret
          exact ⟨rfl, HB8.out⟩
        · obtain rfl : N1 = 0 := by rw [← HN1.out, hq]; rfl
          clear hq
          go_wp2_with fail
          go_ret
          exact ⟨rfl, HB8.out⟩
end Go.Proofs
end
