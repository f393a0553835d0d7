/-
  Texts of a proof over the translated program: proved evaluators and walks, part 8 of 14.
-/
import Derived.Test.YtfblhcphbcghpaaPartM7
import Derived.Below
import Derived.Deep.Cut
import Derived.Deep.RegionHeld3
import Derived.Deep.RegionWith
import Derived.Handy
import Derived.IntWalk
import Derived.Laws.AppendOwnNone
import Derived.Laws.BitsLemmas
import Derived.Laws.BytesArg
import Derived.Laws.BytesString
import Derived.Laws.Closers25b
import Derived.Laws.CopyOwn
import Derived.Laws.MakeOwn
import Derived.Lib.Hide
import Derived.Lib.SlBytesRow
import Derived.LoopTactic
import Derived.Outline
import Derived.OwnWalk
import Derived.Scope
import Derived.ScopeJumps
import Derived.Test.YtfblhcphbcghpaaProg
import Derived.WalkKit
import Derived.WalkMore
import Derived.WalkSpells
set_option linter.unusedVariables false
set_option linter.unusedSimpArgs false
set_option linter.unusedSectionVars false
set_option linter.unnecessarySimpa false
section
namespace Go.Proofs.Ytfblhcphbcghpaa
open Go.RowKit
set_option maxRecDepth 100000
def le4 (s : Nat) : List UInt8 := [UInt8.ofNat (s % 256), UInt8.ofNat (s / 256 % 256), UInt8.ofNat (s / 65536 % 256), UInt8.ofNat (s / 16777216 % 256)]
def le4c (s : Nat) : Array Value := #[.int .u8 ((s : Int) % 256), .int .u8 ((s : Int) / 256 % 256), .int .u8 ((s : Int) / 65536 % 256), .int .u8 ((s : Int) / 16777216 % 256)]
theorem le4_cells (s : Nat) : (le4 s).map u8v = (le4c s).toList := by
  unfold le4 le4c
  simp only [List.map_cons, List.map_nil]
  rw [u8v_ofNat _ (Nat.mod_lt _ (by decide)), u8v_ofNat _ (Nat.mod_lt _ (by decide)), u8v_ofNat _ (Nat.mod_lt _ (by decide)), u8v_ofNat _ (Nat.mod_lt _ (by decide))]
  rfl
theorem built_le4 (w : World) (s : Nat) : ∀ j u, ((le4 s).map u8v)[j]? = some u → (w.alloc (.cells #[.int .u8 ((s : Int) % 256), .int .u8 ((s : Int) / 256 % 256), .int .u8 ((s : Int) / 65536 % 256), .int .u8 ((s : Int) / 16777216 % 256)] 5)).cell? ((⟨w.heap.size, 0, none⟩ : Addr).add j) = some u := by
  intro j u hj
  rw [le4_cells] at hj
  show (w.alloc (.cells (le4c s) 5)).cell? _ = _
  rw [Addr.add_lit, Nat.zero_add, cell_of_row _ _ j _ 5 _ (heap_alloc_new w _), ← hj]
  simp
def Put4P (w : World) (l : List UInt8) (s : Nat) (x : Ending) (w' : World) : Prop := ∃ v, x = .returned v ∧ OB w' w.heap.size v (l ++ le4 s) ∧ Below w.heap.size w w'
set_option maxHeartbeats 4000000 in
theorem Try.put4 (w : World) {A : Option Addr} {n c : Nat} {l : List UInt8} (hD : DI w A n c l) (hn : n ≤ 60000) (s : Nat) (hs : s < 4294967296) :
    Calls Try.prog 51 #[.slice A n c, .int .u32 s] w (Put4P w l s) := by
  have hln := hD.len
  obtain ⟨ii, hi0, hz0, hz1, hz2⟩ := info5
  have s1 : IntKind.i64.wrap ((n : Int) + 4) = ((n + 4 : Nat) : Int) := by rw [wrapi (by omega) (by omega)]; omega
  have b0 : IntKind.u8.wrap (s : Int) = (s : Int) % 256 := by rw [IntKind.wrap_u8]
  have b1 : IntKind.u8.wrap ((s : Int) / 256) = (s : Int) / 256 % 256 := by rw [IntKind.wrap_u8]
  have b2 : IntKind.u8.wrap ((s : Int) / 65536) = (s : Int) / 65536 % 256 := by rw [IntKind.wrap_u8]
  have b3 : IntKind.u8.wrap ((s : Int) / 16777216) = (s : Int) / 16777216 % 256 := by rw [IntKind.wrap_u8]
  have HP := Lib.hid (hD.src ((Below.refl _ w).alloc (Nat.le_refl _) (.cells (List.replicate (n + 4) (.int .u8 0)).toArray 5)))
  have HL1 : Hid ((l.map u8v).length = Nat.min n n) := Lib.hid (by rw [List.length_map, hln]; exact (Nat.min_self n).symm)
  have HL2 : Hid (0 + (l.map u8v).length ≤ (List.replicate (n + 4) (Value.int .u8 0)).length) := Lib.hid (by rw [List.length_map, List.length_replicate]; omega)
  obtain ⟨cs, hcs⟩ : ∃ cs, l.map u8v = cs := ⟨_, rfl⟩
  have HCS := Lib.hid hcs
  have HONE : Hid (∀ u ∈ cs, u.oneCell' = true) := Lib.hid (by rw [← hcs]; exact u8v_one l)
  rw [hcs] at HP HL1 HL2
  have HLN := Lib.hid hln
  clear hD hcs hln
  go_enter Try.func51, Try.ntmps51
  go_wp2_with (first
    | (at_make; refine wpList_make_lc _ rfl _ _ 50 rfl 5 ii (.int .u8 0) Try.underlying50 hi0 hz0 hz1 hz2 rfl _ _ _ _ n (n + 4) rfl rfl (by omega) (by omega) (by omega) (by omega) ?_)
    | (refine wpList_copy_splice rfl (.tmp 12) (.tmp 13) 50 50 rfl 5 Try.underlying50 size5 _ _ n (n + 4) n c rfl rfl w.heap.size 0 (List.replicate (n + 4) (.int .u8 0)) 5 (heap_alloc_new w _) cs HL1.out (fun h => ⟨rfl, HP.out h⟩) HL2.out HONE.out w.heap.size w ((Below.refl _ w).alloc (Nat.le_refl _) _) (Nat.le_refl _) ?_))
  intro w2 hg2 hb2
  rw [← HCS.out] at hg2
  have ho2 := splice_ob hg2.out (Nat.le_refl _) (by rw [HLN.out]; omega) (by omega)
  rw [HLN.out] at ho2
  unfold OB at ho2
  rw [HLN.out, HCS.out] at ho2
  have OA := Lib.hid (ho2.alloc (.cells #[.int .u8 ((s : Int) % 256), .int .u8 ((s : Int) / 256 % 256), .int .u8 ((s : Int) / 65536 % 256), .int .u8 ((s : Int) / 16777216 % 256)] 5))
  have CA := Lib.hid (built_le4 w2 s)
  have BA := Lib.hid (hb2.alloc hb2.size (.cells #[.int .u8 ((s : Int) % 256), .int .u8 ((s : Int) / 256 % 256), .int .u8 ((s : Int) / 65536 % 256), .int .u8 ((s : Int) / 16777216 % 256)] 5))
  have hsz := hb2.size
  obtain ⟨c4, hc4⟩ : ∃ c4, (le4 s).map u8v = c4 := ⟨_, rfl⟩
  have HC4 := Lib.hid hc4
  have H41 : Hid (∀ u ∈ c4, u.oneCell' = true) := Lib.hid (by rw [← hc4]; exact u8v_one _)
  have H4L : Hid (c4.length = 4 * 1) := Lib.hid (by rw [← hc4]; rfl)
  rw [hc4] at CA
  clear hg2 hb2 ho2 HP HL1 HL2 hc4
  go_wp2_with (at_builtin; refine wpList_append_own _ rfl (.tmp 15) (.tmp 27) 50 rfl w.heap.size 5 ii (.int .u8 0) 1 1 Try.underlying50 hi0 hz0 hz1 hz2 rfl (by decide) _ _ _ rfl (OA.out) _ _ _ c4 rfl H4L.out (CA.out) H41.out (by unfold maxLen; omega) (by omega) (BA.out).size ?_)
  intro v' w5 hown1 hg5 hne
  have B5 := Lib.hid ((BA.out).grown hg5 (BA.out).size (fun k hk => ((OA.out).lt k hk).1))
  have O5 : Hid (OB w5 w.heap.size v' (l ++ le4 s)) := Lib.hid (by
    have e : (l ++ le4 s).length = n + 4 := by rw [List.length_append, HLN.out]; rfl
    unfold OB
    rw [e, List.map_append, HCS.out, HC4.out]
    exact hown1)
  clear hown1 hg5 hne
  go_wp2_with fail
  go_ret
  exact ⟨_, rfl, O5.out, B5.out⟩
theorem DI.nil {w : World} {n c : Nat} {l : List UInt8} (h : DI w none n c l) : l = [] := by
  cases l with
  | nil => rfl
  | cons x l => obtain ⟨X, hX, _⟩ := h.at' 0 x rfl; cases hX
theorem DI.srcX {w w' : World} {X : Addr} {n c : Nat} {l : List UInt8} (h : DI w (some X) n c l) (hb : Below w.heap.size w w') : ∀ j v, (l.map u8v)[j]? = some v → w'.cell? (X.add j) = some v := by
  intro j v hv
  rw [List.getElem?_map] at hv
  obtain ⟨x, hx, rfl⟩ := Option.map_eq_some_iff.1 hv
  obtain ⟨Y, hY, hc⟩ := (h.below hb).at' j x hx
  cases hY
  exact hc
end Go.Proofs.Ytfblhcphbcghpaa
end

section
namespace Go.Proofs.Ytfblhcphbcghpaa
open Go.RowKit
set_option maxRecDepth 100000
theorem Try.get4_no (w : World) (A : Option Addr) (n c : Nat) (h : n < 4) :
    Calls Try.prog 71 #[.slice A n c, .int .i64 0] w fun e w' => e = .returned (.tuple #[.int .u32 0, .int .i64 0, .int .i64 5]) ∧ w' = w := by
  have g2 : decide ((n : Int) < 0) = false := by simp
  have g3 : decide ((n : Int) < 4) = true := decide_eq_true (by omega)
  have g3' : decide (n < 4) = true := decide_eq_true h
  have s1 : IntKind.i64.wrap (n : Int) = (n : Int) := wrapi (by omega) (by omega)
  have s2 : IntKind.i64.wrap ((n : Int) - 0) = (n : Int) := by rw [wrapi (by omega) (by omega)]; omega
  go_enter Try.func71, Try.ntmps71
  go_wp2_with fail
  go_ret3
  exact ⟨rfl, rfl⟩
set_option maxHeartbeats 4000000 in
theorem Try.get4 (w : World) {A : Option Addr} {n c : Nat} {l : List UInt8} (hD : DI w A n c l) (hn : n ≤ 60000) (h : 4 ≤ n) :
    Calls Try.prog 71 #[.slice A n c, .int .i64 0] w fun e w' => (∃ v : Int, e = .returned (.tuple #[.int .u32 v, .int .i64 4, .int .i64 0])) ∧ w'.heap = w.heap ∧ Below w.heap.size w w' := by
  have hln := hD.len
  have hlc := hD.le
  obtain ⟨x0, h0⟩ : ∃ x, l[0]? = some x := ⟨_, List.getElem?_eq_getElem (by omega)⟩
  obtain ⟨x1, h1⟩ : ∃ x, l[1]? = some x := ⟨_, List.getElem?_eq_getElem (by omega)⟩
  obtain ⟨x2, h2⟩ : ∃ x, l[2]? = some x := ⟨_, List.getElem?_eq_getElem (by omega)⟩
  obtain ⟨x3, h3⟩ : ∃ x, l[3]? = some x := ⟨_, List.getElem?_eq_getElem (by omega)⟩
  obtain ⟨X, hX, c0⟩ := hD.at' 0 x0 h0
  subst hX
  obtain ⟨Y, hY, c1⟩ := hD.at' 1 x1 h1
  cases hY
  obtain ⟨Y, hY, c2⟩ := hD.at' 2 x2 h2
  cases hY
  obtain ⟨Y, hY, c3⟩ := hD.at' 3 x3 h3
  cases hY
  have hs := World.cell?_spot c0
  obtain ⟨b, o, sp⟩ := X
  have hsp : sp = none := by
    cases sp with
    | none => rfl
    | some q => simp [Addr.add] at hs
  subst hsp
  rw [Addr.add_lit] at c0 c1 c2 c3
  rw [Nat.add_zero] at c0
  unfold u8v at c0 c1 c2 c3
  obtain ⟨y0, hy0⟩ : ∃ y, x0.toNat = y := ⟨_, rfl⟩
  obtain ⟨y1, hy1⟩ : ∃ y, x1.toNat = y := ⟨_, rfl⟩
  obtain ⟨y2, hy2⟩ : ∃ y, x2.toNat = y := ⟨_, rfl⟩
  obtain ⟨y3, hy3⟩ : ∃ y, x3.toNat = y := ⟨_, rfl⟩
  rw [hy0] at c0
  rw [hy1] at c1
  rw [hy2] at c2
  rw [hy3] at c3
  have g2 : decide ((n : Int) < 0) = false := by simp
  have g3 : decide ((n : Int) < 4) = false := decide_eq_false (by omega)
  have g3' : decide (n < 4) = false := decide_eq_false (by omega)
  have s1 : IntKind.i64.wrap (n : Int) = (n : Int) := wrapi (by omega) (by omega)
  have k1 : IntKind.i64.wrap 1 = 1 := by decide
  have k2 : IntKind.i64.wrap 2 = 2 := by decide
  have k3 : IntKind.i64.wrap 3 = 3 := by decide
  have i0 : 0 < n := by omega
  have j1 : (1 : Int) < (n : Int) := by omega
  have j2 : (2 : Int) < (n : Int) := by omega
  have j3 : (3 : Int) < (n : Int) := by omega
  have i1 : 1 < n := by omega
  have i2 : 2 < n := by omega
  have i3 : 3 < n := by omega
  clear hD hs h0 h1 h2 h3 hy0 hy1 hy2 hy3
  go_enter Try.func71, Try.ntmps71
  go_wp2_with fail
  refine wp_region_noPanic ?_
  refine wp_region_held_drew (S := (fun W => W.cell? ⟨b, o, none⟩ = some (.int .u8 y0) ∧ W.cell? ⟨b, o + 1, none⟩ = some (.int .u8 y1) ∧ W.cell? ⟨b, o + 2, none⟩ = some (.int .u8 y2) ∧ W.cell? ⟨b, o + 3, none⟩ = some (.int .u8 y3))) (by kernel_rfl) ?_ (fun hHeld => ?_)
  · exact ⟨c0, c1, c2, c3⟩
  refine wpAnyH_take (i := 0) (oi := { dst := some 20, op := Op.move (Operand.tmp 0), type := 50, pos := "num.go:90", after := #[], guard := none }) (v := ?_) rfl (by kernel_rfl) (by kernel_rfl) (by kernel_rfl) (fun _ _ _ h => h) (Or.inl ⟨by rfl, ?_⟩) (by assumption) ?_
  rotate_left
  · (intro w hSw; (try dsimp only at hSw); go_simp; try with_reducible rfl)
  try simp only [Act.put, List.setIfInBounds_toArray, List.set_cons_zero, List.set_cons_succ]
  refine wpAnyH_take (i := 1) (oi := { dst := some 21, op := Op.move (Operand.tmp 1), type := 3, pos := "num.go:90", after := #[], guard := none }) (v := ?_) rfl (by kernel_rfl) (by kernel_rfl) (by kernel_rfl) (fun _ _ _ h => h) (Or.inl ⟨by rfl, ?_⟩) (by assumption) ?_
  rotate_left
  · (intro w hSw; (try dsimp only at hSw); go_simp; try with_reducible rfl)
  try simp only [Act.put, List.setIfInBounds_toArray, List.set_cons_zero, List.set_cons_succ]
  refine wpAnyH_take (i := 2) (oi := { dst := some 22, op := Op.indexAddr 50 (Operand.tmp 20) (Operand.tmp 21), type := 0, pos := "num.go:90", after := #[{ on := 0, ground := Ground.data }, { on := 1, ground := Ground.data }], guard := none }) (v := ?_) rfl (by kernel_rfl) (by kernel_rfl) (by kernel_rfl) (fun _ _ _ h => h) (Or.inl ⟨by rfl, ?_⟩) (by assumption) ?_
  rotate_left
  · (intro w hSw; (try dsimp only at hSw); go_simp; try with_reducible rfl)
  try simp only [Act.put, List.setIfInBounds_toArray, List.set_cons_zero, List.set_cons_succ]
  refine wpAnyH_take (i := 3) (oi := { dst := some 23, op := Op.load 5 (Operand.tmp 22), type := 5, pos := "num.go:90", after := #[{ on := 2, ground := Ground.data }], guard := none }) (v := ?_) rfl (by kernel_rfl) (by kernel_rfl) (by kernel_rfl) (fun _ _ _ h => h) (Or.inl ⟨by rfl, ?_⟩) (by assumption) ?_
  rotate_left
  · (intro w hSw; (try dsimp only at hSw); go_simp; try with_reducible rfl)
  try simp only [Act.put, List.setIfInBounds_toArray, List.set_cons_zero, List.set_cons_succ]
  refine wpAnyH_take (i := 4) (oi := { dst := some 24, op := Op.convert 5 119 (Operand.tmp 23), type := 119, pos := "num.go:90", after := #[{ on := 3, ground := Ground.data }], guard := none }) (v := ?_) rfl (by kernel_rfl) (by kernel_rfl) (by kernel_rfl) (fun _ _ _ h => h) (Or.inl ⟨by rfl, ?_⟩) (by assumption) ?_
  rotate_left
  · (intro w hSw; (try dsimp only at hSw); go_simp; try with_reducible rfl)
  try simp only [Act.put, List.setIfInBounds_toArray, List.set_cons_zero, List.set_cons_succ]
  refine wpAnyH_take (i := 5) (oi := { dst := some 25, op := Op.move (Operand.tmp 0), type := 50, pos := "num.go:90", after := #[], guard := none }) (v := ?_) rfl (by kernel_rfl) (by kernel_rfl) (by kernel_rfl) (fun _ _ _ h => h) (Or.inl ⟨by rfl, ?_⟩) (by assumption) ?_
  rotate_left
  · (intro w hSw; (try dsimp only at hSw); go_simp; try with_reducible rfl)
  try simp only [Act.put, List.setIfInBounds_toArray, List.set_cons_zero, List.set_cons_succ]
  refine wpAnyH_take (i := 6) (oi := { dst := some 26, op := Op.move (Operand.tmp 1), type := 3, pos := "num.go:90", after := #[], guard := none }) (v := ?_) rfl (by kernel_rfl) (by kernel_rfl) (by kernel_rfl) (fun _ _ _ h => h) (Or.inl ⟨by rfl, ?_⟩) (by assumption) ?_
  rotate_left
  · (intro w hSw; (try dsimp only at hSw); go_simp; try with_reducible rfl)
  try simp only [Act.put, List.setIfInBounds_toArray, List.set_cons_zero, List.set_cons_succ]
  refine wpAnyH_take (i := 7) (oi := { dst := some 27, op := Op.binOp BinOp.add 3 (Operand.tmp 26) (Operand.const (Value.int IntKind.i64 1)) 3, type := 3, pos := "num.go:90", after := #[{ on := 6, ground := Ground.data }], guard := none }) (v := ?_) rfl (by kernel_rfl) (by kernel_rfl) (by kernel_rfl) (fun _ _ _ h => h) (Or.inl ⟨by rfl, ?_⟩) (by assumption) ?_
  rotate_left
  · (intro w hSw; (try dsimp only at hSw); go_simp; try with_reducible rfl)
  try simp only [Act.put, List.setIfInBounds_toArray, List.set_cons_zero, List.set_cons_succ]
  refine wpAnyH_take (i := 8) (oi := { dst := some 28, op := Op.indexAddr 50 (Operand.tmp 25) (Operand.tmp 27), type := 0, pos := "num.go:90", after := #[{ on := 5, ground := Ground.data }, { on := 7, ground := Ground.data }], guard := none }) (v := ?_) rfl (by kernel_rfl) (by kernel_rfl) (by kernel_rfl) (fun _ _ _ h => h) (Or.inl ⟨by rfl, ?_⟩) (by assumption) ?_
  rotate_left
  · (intro w hSw; (try dsimp only at hSw); go_simp; try with_reducible rfl)
  try simp only [Act.put, List.setIfInBounds_toArray, List.set_cons_zero, List.set_cons_succ]
  refine wpAnyH_take (i := 9) (oi := { dst := some 29, op := Op.load 5 (Operand.tmp 28), type := 5, pos := "num.go:90", after := #[{ on := 8, ground := Ground.data }], guard := none }) (v := ?_) rfl (by kernel_rfl) (by kernel_rfl) (by kernel_rfl) (fun _ _ _ h => h) (Or.inl ⟨by rfl, ?_⟩) (by assumption) ?_
  rotate_left
  · (intro w hSw; (try dsimp only at hSw); go_simp; try with_reducible rfl)
  try simp only [Act.put, List.setIfInBounds_toArray, List.set_cons_zero, List.set_cons_succ]
  refine wpAnyH_take (i := 10) (oi := { dst := some 30, op := Op.convert 5 119 (Operand.tmp 29), type := 119, pos := "num.go:90", after := #[{ on := 9, ground := Ground.data }], guard := none }) (v := ?_) rfl (by kernel_rfl) (by kernel_rfl) (by kernel_rfl) (fun _ _ _ h => h) (Or.inl ⟨by rfl, ?_⟩) (by assumption) ?_
  rotate_left
  · (intro w hSw; (try dsimp only at hSw); go_simp; try with_reducible rfl)
  try simp only [Act.put, List.setIfInBounds_toArray, List.set_cons_zero, List.set_cons_succ]
  refine wpAnyH_take (i := 11) (oi := { dst := some 31, op := Op.binOp BinOp.shl 119 (Operand.tmp 30) (Operand.const (Value.int IntKind.u64 8)) 130, type := 119, pos := "num.go:90", after := #[{ on := 10, ground := Ground.data }], guard := none }) (v := ?_) rfl (by kernel_rfl) (by kernel_rfl) (by kernel_rfl) (fun _ _ _ h => h) (Or.inl ⟨by rfl, ?_⟩) (by assumption) ?_
  rotate_left
  · (intro w hSw; (try dsimp only at hSw); go_simp; try with_reducible rfl)
  try simp only [Act.put, List.setIfInBounds_toArray, List.set_cons_zero, List.set_cons_succ]
  refine wpAnyH_take (i := 12) (oi := { dst := some 32, op := Op.binOp BinOp.or 119 (Operand.tmp 24) (Operand.tmp 31) 119, type := 119, pos := "num.go:90", after := #[{ on := 4, ground := Ground.data }, { on := 11, ground := Ground.data }], guard := none }) (v := ?_) rfl (by kernel_rfl) (by kernel_rfl) (by kernel_rfl) (fun _ _ _ h => h) (Or.inl ⟨by rfl, ?_⟩) (by assumption) ?_
  rotate_left
  · (intro w hSw; (try dsimp only at hSw); go_simp; try with_reducible rfl)
  try simp only [Act.put, List.setIfInBounds_toArray, List.set_cons_zero, List.set_cons_succ]
  refine wpAnyH_take (i := 13) (oi := { dst := some 33, op := Op.move (Operand.tmp 0), type := 50, pos := "num.go:90", after := #[], guard := none }) (v := ?_) rfl (by kernel_rfl) (by kernel_rfl) (by kernel_rfl) (fun _ _ _ h => h) (Or.inl ⟨by rfl, ?_⟩) (by assumption) ?_
  rotate_left
  · (intro w hSw; (try dsimp only at hSw); go_simp; try with_reducible rfl)
  try simp only [Act.put, List.setIfInBounds_toArray, List.set_cons_zero, List.set_cons_succ]
  refine wpAnyH_take (i := 14) (oi := { dst := some 34, op := Op.move (Operand.tmp 1), type := 3, pos := "num.go:90", after := #[], guard := none }) (v := ?_) rfl (by kernel_rfl) (by kernel_rfl) (by kernel_rfl) (fun _ _ _ h => h) (Or.inl ⟨by rfl, ?_⟩) (by assumption) ?_
  rotate_left
  · (intro w hSw; (try dsimp only at hSw); go_simp; try with_reducible rfl)
  try simp only [Act.put, List.setIfInBounds_toArray, List.set_cons_zero, List.set_cons_succ]
  refine wpAnyH_take (i := 15) (oi := { dst := some 35, op := Op.binOp BinOp.add 3 (Operand.tmp 34) (Operand.const (Value.int IntKind.i64 2)) 3, type := 3, pos := "num.go:90", after := #[{ on := 14, ground := Ground.data }], guard := none }) (v := ?_) rfl (by kernel_rfl) (by kernel_rfl) (by kernel_rfl) (fun _ _ _ h => h) (Or.inl ⟨by rfl, ?_⟩) (by assumption) ?_
  rotate_left
  · (intro w hSw; (try dsimp only at hSw); go_simp; try with_reducible rfl)
  try simp only [Act.put, List.setIfInBounds_toArray, List.set_cons_zero, List.set_cons_succ]
  refine wpAnyH_take (i := 16) (oi := { dst := some 36, op := Op.indexAddr 50 (Operand.tmp 33) (Operand.tmp 35), type := 0, pos := "num.go:90", after := #[{ on := 13, ground := Ground.data }, { on := 15, ground := Ground.data }], guard := none }) (v := ?_) rfl (by kernel_rfl) (by kernel_rfl) (by kernel_rfl) (fun _ _ _ h => h) (Or.inl ⟨by rfl, ?_⟩) (by assumption) ?_
  rotate_left
  · (intro w hSw; (try dsimp only at hSw); go_simp; try with_reducible rfl)
  try simp only [Act.put, List.setIfInBounds_toArray, List.set_cons_zero, List.set_cons_succ]
  refine wpAnyH_take (i := 17) (oi := { dst := some 37, op := Op.load 5 (Operand.tmp 36), type := 5, pos := "num.go:90", after := #[{ on := 16, ground := Ground.data }], guard := none }) (v := ?_) rfl (by kernel_rfl) (by kernel_rfl) (by kernel_rfl) (fun _ _ _ h => h) (Or.inl ⟨by rfl, ?_⟩) (by assumption) ?_
  rotate_left
  · (intro w hSw; (try dsimp only at hSw); go_simp; try with_reducible rfl)
  try simp only [Act.put, List.setIfInBounds_toArray, List.set_cons_zero, List.set_cons_succ]
  refine wpAnyH_take (i := 18) (oi := { dst := some 38, op := Op.convert 5 119 (Operand.tmp 37), type := 119, pos := "num.go:90", after := #[{ on := 17, ground := Ground.data }], guard := none }) (v := ?_) rfl (by kernel_rfl) (by kernel_rfl) (by kernel_rfl) (fun _ _ _ h => h) (Or.inl ⟨by rfl, ?_⟩) (by assumption) ?_
  rotate_left
  · (intro w hSw; (try dsimp only at hSw); go_simp; try with_reducible rfl)
  try simp only [Act.put, List.setIfInBounds_toArray, List.set_cons_zero, List.set_cons_succ]
  refine wpAnyH_take (i := 19) (oi := { dst := some 39, op := Op.binOp BinOp.shl 119 (Operand.tmp 38) (Operand.const (Value.int IntKind.u64 16)) 130, type := 119, pos := "num.go:90", after := #[{ on := 18, ground := Ground.data }], guard := none }) (v := ?_) rfl (by kernel_rfl) (by kernel_rfl) (by kernel_rfl) (fun _ _ _ h => h) (Or.inl ⟨by rfl, ?_⟩) (by assumption) ?_
  rotate_left
  · (intro w hSw; (try dsimp only at hSw); go_simp; try with_reducible rfl)
  try simp only [Act.put, List.setIfInBounds_toArray, List.set_cons_zero, List.set_cons_succ]
  refine wpAnyH_take (i := 20) (oi := { dst := some 40, op := Op.binOp BinOp.or 119 (Operand.tmp 32) (Operand.tmp 39) 119, type := 119, pos := "num.go:90", after := #[{ on := 12, ground := Ground.data }, { on := 19, ground := Ground.data }], guard := none }) (v := ?_) rfl (by kernel_rfl) (by kernel_rfl) (by kernel_rfl) (fun _ _ _ h => h) (Or.inl ⟨by rfl, ?_⟩) (by assumption) ?_
  rotate_left
  · (intro w hSw; (try dsimp only at hSw); go_simp; try with_reducible rfl)
  try simp only [Act.put, List.setIfInBounds_toArray, List.set_cons_zero, List.set_cons_succ]
  refine wpAnyH_take (i := 21) (oi := { dst := some 41, op := Op.move (Operand.tmp 0), type := 50, pos := "num.go:90", after := #[], guard := none }) (v := ?_) rfl (by kernel_rfl) (by kernel_rfl) (by kernel_rfl) (fun _ _ _ h => h) (Or.inl ⟨by rfl, ?_⟩) (by assumption) ?_
  rotate_left
  · (intro w hSw; (try dsimp only at hSw); go_simp; try with_reducible rfl)
  try simp only [Act.put, List.setIfInBounds_toArray, List.set_cons_zero, List.set_cons_succ]
  refine wpAnyH_take (i := 22) (oi := { dst := some 42, op := Op.move (Operand.tmp 1), type := 3, pos := "num.go:90", after := #[], guard := none }) (v := ?_) rfl (by kernel_rfl) (by kernel_rfl) (by kernel_rfl) (fun _ _ _ h => h) (Or.inl ⟨by rfl, ?_⟩) (by assumption) ?_
  rotate_left
  · (intro w hSw; (try dsimp only at hSw); go_simp; try with_reducible rfl)
  try simp only [Act.put, List.setIfInBounds_toArray, List.set_cons_zero, List.set_cons_succ]
  refine wpAnyH_take (i := 23) (oi := { dst := some 43, op := Op.binOp BinOp.add 3 (Operand.tmp 42) (Operand.const (Value.int IntKind.i64 3)) 3, type := 3, pos := "num.go:90", after := #[{ on := 22, ground := Ground.data }], guard := none }) (v := ?_) rfl (by kernel_rfl) (by kernel_rfl) (by kernel_rfl) (fun _ _ _ h => h) (Or.inl ⟨by rfl, ?_⟩) (by assumption) ?_
  rotate_left
  · (intro w hSw; (try dsimp only at hSw); go_simp; try with_reducible rfl)
  try simp only [Act.put, List.setIfInBounds_toArray, List.set_cons_zero, List.set_cons_succ]
  refine wpAnyH_take (i := 24) (oi := { dst := some 44, op := Op.indexAddr 50 (Operand.tmp 41) (Operand.tmp 43), type := 0, pos := "num.go:90", after := #[{ on := 21, ground := Ground.data }, { on := 23, ground := Ground.data }], guard := none }) (v := ?_) rfl (by kernel_rfl) (by kernel_rfl) (by kernel_rfl) (fun _ _ _ h => h) (Or.inl ⟨by rfl, ?_⟩) (by assumption) ?_
  rotate_left
  · (intro w hSw; (try dsimp only at hSw); go_simp; try with_reducible rfl)
  try simp only [Act.put, List.setIfInBounds_toArray, List.set_cons_zero, List.set_cons_succ]
  refine wpAnyH_take (i := 25) (oi := { dst := some 45, op := Op.load 5 (Operand.tmp 44), type := 5, pos := "num.go:90", after := #[{ on := 24, ground := Ground.data }], guard := none }) (v := ?_) rfl (by kernel_rfl) (by kernel_rfl) (by kernel_rfl) (fun _ _ _ h => h) (Or.inl ⟨by rfl, ?_⟩) (by assumption) ?_
  rotate_left
  · (intro w hSw; (try dsimp only at hSw); go_simp; try with_reducible rfl)
  try simp only [Act.put, List.setIfInBounds_toArray, List.set_cons_zero, List.set_cons_succ]
  refine wpAnyH_take (i := 26) (oi := { dst := some 46, op := Op.convert 5 119 (Operand.tmp 45), type := 119, pos := "num.go:90", after := #[{ on := 25, ground := Ground.data }], guard := none }) (v := ?_) rfl (by kernel_rfl) (by kernel_rfl) (by kernel_rfl) (fun _ _ _ h => h) (Or.inl ⟨by rfl, ?_⟩) (by assumption) ?_
  rotate_left
  · (intro w hSw; (try dsimp only at hSw); go_simp; try with_reducible rfl)
  try simp only [Act.put, List.setIfInBounds_toArray, List.set_cons_zero, List.set_cons_succ]
  refine wpAnyH_take (i := 27) (oi := { dst := some 47, op := Op.binOp BinOp.shl 119 (Operand.tmp 46) (Operand.const (Value.int IntKind.u64 24)) 130, type := 119, pos := "num.go:90", after := #[{ on := 26, ground := Ground.data }], guard := none }) (v := ?_) rfl (by kernel_rfl) (by kernel_rfl) (by kernel_rfl) (fun _ _ _ h => h) (Or.inl ⟨by rfl, ?_⟩) (by assumption) ?_
  rotate_left
  · (intro w hSw; (try dsimp only at hSw); go_simp; try with_reducible rfl)
  try simp only [Act.put, List.setIfInBounds_toArray, List.set_cons_zero, List.set_cons_succ]
  refine wpAnyH_take (i := 28) (oi := { dst := some 48, op := Op.binOp BinOp.or 119 (Operand.tmp 40) (Operand.tmp 47) 119, type := 119, pos := "num.go:90", after := #[{ on := 20, ground := Ground.data }, { on := 27, ground := Ground.data }], guard := none }) (v := ?_) rfl (by kernel_rfl) (by kernel_rfl) (by kernel_rfl) (fun _ _ _ h => h) (Or.inl ⟨by rfl, ?_⟩) (by assumption) ?_
  rotate_left
  · (intro w hSw; (try dsimp only at hSw); go_simp; try with_reducible rfl)
  try simp only [Act.put, List.setIfInBounds_toArray, List.set_cons_zero, List.set_cons_succ]
  refine wpAnyH_take (i := 29) (oi := { dst := some 4, op := Op.assign (Operand.tmp 48), type := 119, pos := "num.go:90", after := #[{ on := 28, ground := Ground.data }, { on := 0, ground := Ground.phase }, { on := 1, ground := Ground.phase }, { on := 2, ground := Ground.phase }, { on := 3, ground := Ground.phase }, { on := 4, ground := Ground.phase }, { on := 5, ground := Ground.phase }, { on := 6, ground := Ground.phase }, { on := 7, ground := Ground.phase }, { on := 8, ground := Ground.phase }, { on := 9, ground := Ground.phase }, { on := 10, ground := Ground.phase }, { on := 11, ground := Ground.phase }, { on := 12, ground := Ground.phase }, { on := 13, ground := Ground.phase }, { on := 14, ground := Ground.phase }, { on := 15, ground := Ground.phase }, { on := 16, ground := Ground.phase }, { on := 17, ground := Ground.phase }, { on := 18, ground := Ground.phase }, { on := 19, ground := Ground.phase }, { on := 20, ground := Ground.phase }, { on := 21, ground := Ground.phase }, { on := 22, ground := Ground.phase }, { on := 23, ground := Ground.phase }, { on := 24, ground := Ground.phase }, { on := 25, ground := Ground.phase }, { on := 26, ground := Ground.phase }, { on := 27, ground := Ground.phase }, { on := 28, ground := Ground.phase }], guard := none }) (v := ?_) rfl (by kernel_rfl) (by kernel_rfl) (by kernel_rfl) (fun _ _ _ h => h) (Or.inl ⟨by rfl, ?_⟩) (by assumption) ?_
  rotate_left
  · (intro w hSw; (try dsimp only at hSw); go_simp; try with_reducible rfl)
  try simp only [Act.put, List.setIfInBounds_toArray, List.set_cons_zero, List.set_cons_succ]
  refine wpAnyH_take (i := 30) (oi := { dst := some 5, op := Op.assign (Operand.const (Value.int IntKind.i64 4)), type := 3, pos := "num.go:90", after := #[{ on := 29, ground := Ground.chain }, { on := 0, ground := Ground.phase }, { on := 1, ground := Ground.phase }, { on := 2, ground := Ground.phase }, { on := 3, ground := Ground.phase }, { on := 4, ground := Ground.phase }, { on := 5, ground := Ground.phase }, { on := 6, ground := Ground.phase }, { on := 7, ground := Ground.phase }, { on := 8, ground := Ground.phase }, { on := 9, ground := Ground.phase }, { on := 10, ground := Ground.phase }, { on := 11, ground := Ground.phase }, { on := 12, ground := Ground.phase }, { on := 13, ground := Ground.phase }, { on := 14, ground := Ground.phase }, { on := 15, ground := Ground.phase }, { on := 16, ground := Ground.phase }, { on := 17, ground := Ground.phase }, { on := 18, ground := Ground.phase }, { on := 19, ground := Ground.phase }, { on := 20, ground := Ground.phase }, { on := 21, ground := Ground.phase }, { on := 22, ground := Ground.phase }, { on := 23, ground := Ground.phase }, { on := 24, ground := Ground.phase }, { on := 25, ground := Ground.phase }, { on := 26, ground := Ground.phase }, { on := 27, ground := Ground.phase }, { on := 28, ground := Ground.phase }, { on := 29, ground := Ground.phase }], guard := none }) (v := ?_) rfl (by kernel_rfl) (by kernel_rfl) (by kernel_rfl) (fun _ _ _ h => h) (Or.inl ⟨by rfl, ?_⟩) (by assumption) ?_
  rotate_left
  · (intro w hSw; (try dsimp only at hSw); go_simp; try with_reducible rfl)
  try simp only [Act.put, List.setIfInBounds_toArray, List.set_cons_zero, List.set_cons_succ]
  refine wpAnyH_take (i := 31) (oi := { dst := some 6, op := Op.assign (Operand.const (Value.int IntKind.i64 0)), type := 51, pos := "num.go:90", after := #[{ on := 30, ground := Ground.chain }, { on := 0, ground := Ground.phase }, { on := 1, ground := Ground.phase }, { on := 2, ground := Ground.phase }, { on := 3, ground := Ground.phase }, { on := 4, ground := Ground.phase }, { on := 5, ground := Ground.phase }, { on := 6, ground := Ground.phase }, { on := 7, ground := Ground.phase }, { on := 8, ground := Ground.phase }, { on := 9, ground := Ground.phase }, { on := 10, ground := Ground.phase }, { on := 11, ground := Ground.phase }, { on := 12, ground := Ground.phase }, { on := 13, ground := Ground.phase }, { on := 14, ground := Ground.phase }, { on := 15, ground := Ground.phase }, { on := 16, ground := Ground.phase }, { on := 17, ground := Ground.phase }, { on := 18, ground := Ground.phase }, { on := 19, ground := Ground.phase }, { on := 20, ground := Ground.phase }, { on := 21, ground := Ground.phase }, { on := 22, ground := Ground.phase }, { on := 23, ground := Ground.phase }, { on := 24, ground := Ground.phase }, { on := 25, ground := Ground.phase }, { on := 26, ground := Ground.phase }, { on := 27, ground := Ground.phase }, { on := 28, ground := Ground.phase }, { on := 29, ground := Ground.phase }, { on := 30, ground := Ground.phase }], guard := none }) (v := ?_) rfl (by kernel_rfl) (by kernel_rfl) (by kernel_rfl) (fun _ _ _ h => h) (Or.inl ⟨by rfl, ?_⟩) (by assumption) ?_
  rotate_left
  · (intro w hSw; (try dsimp only at hSw); go_simp; try with_reducible rfl)
  try simp only [Act.put, List.setIfInBounds_toArray, List.set_cons_zero, List.set_cons_succ]
  refine wpAnyH_done (by kernel_rfl) ?_ _
  refine NoPanic.normal ?_
  go_wp2_with fail
  go_ret3
  exact ⟨⟨_, rfl⟩, rfl, (Below.refl _ _).drew⟩
theorem cell_heap {w w' : World} (h : w'.heap = w.heap) (a : Addr) : w'.cell? a = w.cell? a := by simp [World.cell?, h]
theorem RdIn.heap {W w w' : World} {b : Nat} {A : Option Addr} {n c : Nat} {l : List UInt8} {f : Int} {p : Nat} {e : Int} (h : RdIn W w b A n c l f p e) (k : w.heap = w'.heap) (hb : Below w.heap.size w w') : RdIn W w' b A n c l f p e :=
  ⟨h.rb.heap k, h.di, h.bel.trans (hb.mono h.bel.size), h.box, h.hn, h.hp⟩
set_option maxHeartbeats 4000000 in
theorem Try.rof32 {W w : World} {b : Nat} {A : Option Addr} {n c : Nat} {l : List UInt8} (h : RdIn W w b A n c l 0 0 0) (p' : Nat) (e' : Int) (hp : (if 4 ≤ n then ((4 : Nat), (0 : Int)) else (0, 5)) = (p', e')) :
    Calls Try.prog 70 #[.pointer (some ⟨b, 0, none⟩), .func (.func 71) #[] #[]] w fun y w' => (∃ v : Int, y = .returned (.int .u32 v)) ∧ Rd w b A n c 0 p' e' w' := by
  have h3 := h.rb.c3
  have h2 := h.rb.c2
  have h0 := h.rb.c0
  have HB := Lib.hid h
  have HP := Lib.hid hp
  have h2' : w.cell? ⟨b, 2, none⟩ = some (.int .i64 0) := h2
  clear h hp h2
  by_cases h4 : 4 ≤ n
  · have HE : Hid (p' = 4 ∧ e' = 0) := Lib.hid (by have := HP.out; rw [if_pos h4] at this; cases this; exact ⟨rfl, rfl⟩)
    clear HP
    go_enter Try.func70, Try.ntmps70
    go_wp2_with fail
    refine wp_region_noPanic ?_
    refine wp_region_held_drew (S := (fun W => W.cell? ⟨b, 0, none⟩ = some (.slice A n c) ∧ W.cell? ⟨b, 2, none⟩ = some (.int .i64 0))) (by kernel_rfl) ?_ (fun hHeld => ?_)
    · exact ⟨h0, h2'⟩
    refine wpAnyH_take (i := 0) (oi := { dst := some 16, op := Op.move (Operand.tmp 1), type := 149, pos := "read.go:89", after := #[], guard := none }) (v := ?_) rfl (by kernel_rfl) (by kernel_rfl) (by kernel_rfl) (fun _ _ _ h => h) (Or.inl ⟨by rfl, ?_⟩) (by assumption) ?_
    rotate_left
    · (intro w hSw; (try dsimp only at hSw); go_simp; try with_reducible rfl)
    try simp only [Act.put, List.setIfInBounds_toArray, List.set_cons_zero, List.set_cons_succ]
    refine wpAnyH_take (i := 1) (oi := { dst := some 17, op := Op.move (Operand.tmp 0), type := 90, pos := "read.go:89", after := #[], guard := none }) (v := ?_) rfl (by kernel_rfl) (by kernel_rfl) (by kernel_rfl) (fun _ _ _ h => h) (Or.inl ⟨by rfl, ?_⟩) (by assumption) ?_
    rotate_left
    · (intro w hSw; (try dsimp only at hSw); go_simp; try with_reducible rfl)
    try simp only [Act.put, List.setIfInBounds_toArray, List.set_cons_zero, List.set_cons_succ]
    refine wpAnyH_take (i := 2) (oi := { dst := some 18, op := Op.nilCheck (Operand.tmp 17), type := 0, pos := "read.go:89", after := #[{ on := 1, ground := Ground.data }], guard := none }) (v := ?_) rfl (by kernel_rfl) (by kernel_rfl) (by kernel_rfl) (fun _ _ _ h => h) (Or.inl ⟨by rfl, ?_⟩) (by assumption) ?_
    rotate_left
    · (intro w hSw; (try dsimp only at hSw); go_simp; try with_reducible rfl)
    try simp only [Act.put, List.setIfInBounds_toArray, List.set_cons_zero, List.set_cons_succ]
    refine wpAnyH_take (i := 3) (oi := { dst := some 19, op := Op.fieldAddr 138 (Operand.tmp 18) 0, type := 0, pos := "read.go:89", after := #[{ on := 2, ground := Ground.data }], guard := none }) (v := ?_) rfl (by kernel_rfl) (by kernel_rfl) (by kernel_rfl) (fun _ _ _ h => h) (Or.inl ⟨by rfl, ?_⟩) (by assumption) ?_
    rotate_left
    · (intro w hSw; (try dsimp only at hSw); go_simp; try with_reducible rfl)
    try simp only [Act.put, List.setIfInBounds_toArray, List.set_cons_zero, List.set_cons_succ]
    refine wpAnyH_take (i := 4) (oi := { dst := some 20, op := Op.load 50 (Operand.tmp 19), type := 50, pos := "read.go:89", after := #[{ on := 3, ground := Ground.data }], guard := none }) (v := ?_) rfl (by kernel_rfl) (by kernel_rfl) (by kernel_rfl) (fun _ _ _ h => h) (Or.inl ⟨by rfl, ?_⟩) (by assumption) ?_
    rotate_left
    · (intro w hSw; (try dsimp only at hSw); go_simp; try with_reducible rfl)
    try simp only [Act.put, List.setIfInBounds_toArray, List.set_cons_zero, List.set_cons_succ]
    refine wpAnyH_take (i := 5) (oi := { dst := some 21, op := Op.move (Operand.tmp 0), type := 90, pos := "read.go:89", after := #[], guard := none }) (v := ?_) rfl (by kernel_rfl) (by kernel_rfl) (by kernel_rfl) (fun _ _ _ h => h) (Or.inl ⟨by rfl, ?_⟩) (by assumption) ?_
    rotate_left
    · (intro w hSw; (try dsimp only at hSw); go_simp; try with_reducible rfl)
    try simp only [Act.put, List.setIfInBounds_toArray, List.set_cons_zero, List.set_cons_succ]
    refine wpAnyH_take (i := 6) (oi := { dst := some 22, op := Op.nilCheck (Operand.tmp 21), type := 0, pos := "read.go:89", after := #[{ on := 5, ground := Ground.data }], guard := none }) (v := ?_) rfl (by kernel_rfl) (by kernel_rfl) (by kernel_rfl) (fun _ _ _ h => h) (Or.inl ⟨by rfl, ?_⟩) (by assumption) ?_
    rotate_left
    · (intro w hSw; (try dsimp only at hSw); go_simp; try with_reducible rfl)
    try simp only [Act.put, List.setIfInBounds_toArray, List.set_cons_zero, List.set_cons_succ]
    refine wpAnyH_take (i := 7) (oi := { dst := some 23, op := Op.fieldAddr 138 (Operand.tmp 22) 2, type := 0, pos := "read.go:89", after := #[{ on := 6, ground := Ground.data }], guard := none }) (v := ?_) rfl (by kernel_rfl) (by kernel_rfl) (by kernel_rfl) (fun _ _ _ h => h) (Or.inl ⟨by rfl, ?_⟩) (by assumption) ?_
    rotate_left
    · (intro w hSw; (try dsimp only at hSw); go_simp; try with_reducible rfl)
    try simp only [Act.put, List.setIfInBounds_toArray, List.set_cons_zero, List.set_cons_succ]
    refine wpAnyH_take (i := 8) (oi := { dst := some 24, op := Op.load 3 (Operand.tmp 23), type := 3, pos := "read.go:89", after := #[{ on := 7, ground := Ground.data }], guard := none }) (v := ?_) rfl (by kernel_rfl) (by kernel_rfl) (by kernel_rfl) (fun _ _ _ h => h) (Or.inl ⟨by rfl, ?_⟩) (by assumption) ?_
    rotate_left
    · (intro w hSw; (try dsimp only at hSw); go_simp; try with_reducible rfl)
    try simp only [Act.put, List.setIfInBounds_toArray, List.set_cons_zero, List.set_cons_succ]
    refine wpAnyH_ready (rs := [9]) (by kernel_rfl) (by simp) ?_
    refine AllReadyH.cons (o := { dst := some 25, op := Op.call { callee := Callee.value (Operand.tmp 16), args := #[Operand.tmp 20, Operand.tmp 24], argTypes := #[50, 3] }, type := 165, pos := "read.go:89", after := #[{ on := 0, ground := Ground.data }, { on := 4, ground := Ground.data }, { on := 8, ground := Ground.data }], guard := none }) rfl (fun K hK => ?_) AllReadyH.nil
    go_simp
    refine (Try.get4 _ ((HB.out).dat.below ((Below.refl _ w).drew)) (HB.out).hn h4).mono ?_
    rintro x2 wg ⟨⟨vg, rfl⟩, hhg, hbg⟩
    refine hK.out _ _ ?_ (fun hHeld => ?_)
    · exact ⟨(cell_heap hhg _).trans h0, (cell_heap hhg _).trans h2'⟩
    clear hK K
    try simp only [Act.put, List.setIfInBounds_toArray, List.set_cons_zero, List.set_cons_succ]
    refine wpAnyH_take (i := 10) (oi := { dst := some 15, op := Op.move (Operand.tmp 25), type := 165, pos := "read.go:89", after := #[{ on := 9, ground := Ground.data }], guard := none }) (v := ?_) rfl (by kernel_rfl) (by kernel_rfl) (by kernel_rfl) (fun _ _ _ h => h) (Or.inl ⟨by rfl, ?_⟩) (by assumption) ?_
    rotate_left
    · (intro w hSw; (try dsimp only at hSw); go_simp; try with_reducible rfl)
    try simp only [Act.put, List.setIfInBounds_toArray, List.set_cons_zero, List.set_cons_succ]
    refine wpAnyH_take (i := 11) (oi := { dst := some 26, op := Op.extract (Operand.tmp 15) 0, type := 119, pos := "read.go:89", after := #[{ on := 10, ground := Ground.data }], guard := none }) (v := ?_) rfl (by kernel_rfl) (by kernel_rfl) (by kernel_rfl) (fun _ _ _ h => h) (Or.inl ⟨by rfl, ?_⟩) (by assumption) ?_
    rotate_left
    · (intro w hSw; (try dsimp only at hSw); go_simp; try with_reducible rfl)
    try simp only [Act.put, List.setIfInBounds_toArray, List.set_cons_zero, List.set_cons_succ]
    refine wpAnyH_take (i := 12) (oi := { dst := some 27, op := Op.extract (Operand.tmp 15) 1, type := 3, pos := "read.go:89", after := #[{ on := 10, ground := Ground.data }, { on := 14, ground := Ground.gcOnly Departure.lateStores }], guard := none }) (v := ?_) rfl (by kernel_rfl) (by kernel_rfl) (by kernel_rfl) (fun _ _ _ h => h) (Or.inl ⟨by rfl, ?_⟩) (by assumption) ?_
    rotate_left
    · (intro w hSw; (try dsimp only at hSw); go_simp; try with_reducible rfl)
    try simp only [Act.put, List.setIfInBounds_toArray, List.set_cons_zero, List.set_cons_succ]
    refine wpAnyH_take (i := 13) (oi := { dst := some 28, op := Op.extract (Operand.tmp 15) 2, type := 51, pos := "read.go:89", after := #[{ on := 10, ground := Ground.data }, { on := 15, ground := Ground.gcOnly Departure.lateStores }], guard := none }) (v := ?_) rfl (by kernel_rfl) (by kernel_rfl) (by kernel_rfl) (fun _ _ _ h => h) (Or.inl ⟨by rfl, ?_⟩) (by assumption) ?_
    rotate_left
    · (intro w hSw; (try dsimp only at hSw); go_simp; try with_reducible rfl)
    try simp only [Act.put, List.setIfInBounds_toArray, List.set_cons_zero, List.set_cons_succ]
    refine wpAnyH_take (i := 14) (oi := { dst := some 6, op := Op.assign (Operand.tmp 26), type := 119, pos := "read.go:89", after := #[{ on := 11, ground := Ground.data }, { on := 9, ground := Ground.chain }, { on := 0, ground := Ground.phase }, { on := 1, ground := Ground.phase }, { on := 2, ground := Ground.phase }, { on := 3, ground := Ground.phase }, { on := 4, ground := Ground.phase }, { on := 5, ground := Ground.phase }, { on := 6, ground := Ground.phase }, { on := 7, ground := Ground.phase }, { on := 8, ground := Ground.phase }, { on := 9, ground := Ground.phase }, { on := 10, ground := Ground.phase }, { on := 11, ground := Ground.phase }, { on := 12, ground := Ground.textOnly Departure.lateStores }, { on := 13, ground := Ground.textOnly Departure.lateStores }], guard := none }) (v := ?_) rfl (by kernel_rfl) (by kernel_rfl) (by kernel_rfl) (fun _ _ _ h => h) (Or.inl ⟨by rfl, ?_⟩) (by assumption) ?_
    rotate_left
    · (intro w hSw; (try dsimp only at hSw); go_simp; try with_reducible rfl)
    try simp only [Act.put, List.setIfInBounds_toArray, List.set_cons_zero, List.set_cons_succ]
    refine wpAnyH_take (i := 15) (oi := { dst := some 7, op := Op.assign (Operand.tmp 27), type := 3, pos := "read.go:89", after := #[{ on := 12, ground := Ground.data }, { on := 14, ground := Ground.chain }, { on := 0, ground := Ground.phase }, { on := 1, ground := Ground.phase }, { on := 2, ground := Ground.phase }, { on := 3, ground := Ground.phase }, { on := 4, ground := Ground.phase }, { on := 5, ground := Ground.phase }, { on := 6, ground := Ground.phase }, { on := 7, ground := Ground.phase }, { on := 8, ground := Ground.phase }, { on := 9, ground := Ground.phase }, { on := 10, ground := Ground.phase }, { on := 11, ground := Ground.phase }, { on := 12, ground := Ground.phase }, { on := 13, ground := Ground.textOnly Departure.lateStores }, { on := 14, ground := Ground.phase }], guard := none }) (v := ?_) rfl (by kernel_rfl) (by kernel_rfl) (by kernel_rfl) (fun _ _ _ h => h) (Or.inl ⟨by rfl, ?_⟩) (by assumption) ?_
    rotate_left
    · (intro w hSw; (try dsimp only at hSw); go_simp; try with_reducible rfl)
    try simp only [Act.put, List.setIfInBounds_toArray, List.set_cons_zero, List.set_cons_succ]
    refine wpAnyH_take (i := 16) (oi := { dst := some 8, op := Op.assign (Operand.tmp 28), type := 51, pos := "read.go:89", after := #[{ on := 13, ground := Ground.data }, { on := 15, ground := Ground.chain }, { on := 0, ground := Ground.phase }, { on := 1, ground := Ground.phase }, { on := 2, ground := Ground.phase }, { on := 3, ground := Ground.phase }, { on := 4, ground := Ground.phase }, { on := 5, ground := Ground.phase }, { on := 6, ground := Ground.phase }, { on := 7, ground := Ground.phase }, { on := 8, ground := Ground.phase }, { on := 9, ground := Ground.phase }, { on := 10, ground := Ground.phase }, { on := 11, ground := Ground.phase }, { on := 12, ground := Ground.phase }, { on := 13, ground := Ground.phase }, { on := 14, ground := Ground.phase }, { on := 15, ground := Ground.phase }], guard := none }) (v := ?_) rfl (by kernel_rfl) (by kernel_rfl) (by kernel_rfl) (fun _ _ _ h => h) (Or.inl ⟨by rfl, ?_⟩) (by assumption) ?_
    rotate_left
    · (intro w hSw; (try dsimp only at hSw); go_simp; try with_reducible rfl)
    try simp only [Act.put, List.setIfInBounds_toArray, List.set_cons_zero, List.set_cons_succ]
    refine wpAnyH_done (by kernel_rfl) ?_ _
    refine NoPanic.normal ?_
    obtain ⟨wd, hwd⟩ : ∃ wd, wg = wd := ⟨_, rfl⟩
    have RBd : RB wd b A n c 0 0 0 := (HB.out).rb.heap (by rw [← hwd, hhg]; rfl)
    have GRd : w.grownBy wd (some b) := by rw [← hwd]; exact grown_below (((Below.refl _ w).drew).trans hbg) _
    rw [hwd]
    clear h3 h2' h0 hHeld hwd hhg hbg
    have h2 : wd.cell? ⟨b, 2, none⟩ = some (.int .i64 0) := RBd.c2
    have h3 := RBd.c3
    have hf2 := frozen_of_row wd b 2 _ 138 RBd
    have HRB := Lib.hid RBd
    have HGR := Lib.hid GRd
    clear RBd GRd
    go_wp2_with fail
    go_ret
    obtain ⟨e1, e2⟩ := HE.out
    subst e1
    subst e2
    exact ⟨⟨_, rfl⟩, (HRB.out).set2 4, grown_trans HGR.out (grown_set _ _ _ _)⟩
  · have HE : Hid (p' = 0 ∧ e' = 5) := Lib.hid (by have := HP.out; rw [if_neg h4] at this; cases this; exact ⟨rfl, rfl⟩)
    have h4' : n < 4 := by omega
    clear HP h4
    go_enter Try.func70, Try.ntmps70
    go_wp2_with fail
    refine wp_region_noPanic ?_
    refine wp_region_held_drew (S := (fun W => W.cell? ⟨b, 0, none⟩ = some (.slice A n c) ∧ W.cell? ⟨b, 2, none⟩ = some (.int .i64 0))) (by kernel_rfl) ?_ (fun hHeld => ?_)
    · exact ⟨h0, h2'⟩
    refine wpAnyH_take (i := 0) (oi := { dst := some 16, op := Op.move (Operand.tmp 1), type := 149, pos := "read.go:89", after := #[], guard := none }) (v := ?_) rfl (by kernel_rfl) (by kernel_rfl) (by kernel_rfl) (fun _ _ _ h => h) (Or.inl ⟨by rfl, ?_⟩) (by assumption) ?_
    rotate_left
    · (intro w hSw; (try dsimp only at hSw); go_simp; try with_reducible rfl)
    try simp only [Act.put, List.setIfInBounds_toArray, List.set_cons_zero, List.set_cons_succ]
    refine wpAnyH_take (i := 1) (oi := { dst := some 17, op := Op.move (Operand.tmp 0), type := 90, pos := "read.go:89", after := #[], guard := none }) (v := ?_) rfl (by kernel_rfl) (by kernel_rfl) (by kernel_rfl) (fun _ _ _ h => h) (Or.inl ⟨by rfl, ?_⟩) (by assumption) ?_
    rotate_left
    · (intro w hSw; (try dsimp only at hSw); go_simp; try with_reducible rfl)
    try simp only [Act.put, List.setIfInBounds_toArray, List.set_cons_zero, List.set_cons_succ]
    refine wpAnyH_take (i := 2) (oi := { dst := some 18, op := Op.nilCheck (Operand.tmp 17), type := 0, pos := "read.go:89", after := #[{ on := 1, ground := Ground.data }], guard := none }) (v := ?_) rfl (by kernel_rfl) (by kernel_rfl) (by kernel_rfl) (fun _ _ _ h => h) (Or.inl ⟨by rfl, ?_⟩) (by assumption) ?_
    rotate_left
    · (intro w hSw; (try dsimp only at hSw); go_simp; try with_reducible rfl)
    try simp only [Act.put, List.setIfInBounds_toArray, List.set_cons_zero, List.set_cons_succ]
    refine wpAnyH_take (i := 3) (oi := { dst := some 19, op := Op.fieldAddr 138 (Operand.tmp 18) 0, type := 0, pos := "read.go:89", after := #[{ on := 2, ground := Ground.data }], guard := none }) (v := ?_) rfl (by kernel_rfl) (by kernel_rfl) (by kernel_rfl) (fun _ _ _ h => h) (Or.inl ⟨by rfl, ?_⟩) (by assumption) ?_
    rotate_left
    · (intro w hSw; (try dsimp only at hSw); go_simp; try with_reducible rfl)
    try simp only [Act.put, List.setIfInBounds_toArray, List.set_cons_zero, List.set_cons_succ]
    refine wpAnyH_take (i := 4) (oi := { dst := some 20, op := Op.load 50 (Operand.tmp 19), type := 50, pos := "read.go:89", after := #[{ on := 3, ground := Ground.data }], guard := none }) (v := ?_) rfl (by kernel_rfl) (by kernel_rfl) (by kernel_rfl) (fun _ _ _ h => h) (Or.inl ⟨by rfl, ?_⟩) (by assumption) ?_
    rotate_left
    · (intro w hSw; (try dsimp only at hSw); go_simp; try with_reducible rfl)
    try simp only [Act.put, List.setIfInBounds_toArray, List.set_cons_zero, List.set_cons_succ]
    refine wpAnyH_take (i := 5) (oi := { dst := some 21, op := Op.move (Operand.tmp 0), type := 90, pos := "read.go:89", after := #[], guard := none }) (v := ?_) rfl (by kernel_rfl) (by kernel_rfl) (by kernel_rfl) (fun _ _ _ h => h) (Or.inl ⟨by rfl, ?_⟩) (by assumption) ?_
    rotate_left
    · (intro w hSw; (try dsimp only at hSw); go_simp; try with_reducible rfl)
    try simp only [Act.put, List.setIfInBounds_toArray, List.set_cons_zero, List.set_cons_succ]
    refine wpAnyH_take (i := 6) (oi := { dst := some 22, op := Op.nilCheck (Operand.tmp 21), type := 0, pos := "read.go:89", after := #[{ on := 5, ground := Ground.data }], guard := none }) (v := ?_) rfl (by kernel_rfl) (by kernel_rfl) (by kernel_rfl) (fun _ _ _ h => h) (Or.inl ⟨by rfl, ?_⟩) (by assumption) ?_
    rotate_left
    · (intro w hSw; (try dsimp only at hSw); go_simp; try with_reducible rfl)
    try simp only [Act.put, List.setIfInBounds_toArray, List.set_cons_zero, List.set_cons_succ]
    refine wpAnyH_take (i := 7) (oi := { dst := some 23, op := Op.fieldAddr 138 (Operand.tmp 22) 2, type := 0, pos := "read.go:89", after := #[{ on := 6, ground := Ground.data }], guard := none }) (v := ?_) rfl (by kernel_rfl) (by kernel_rfl) (by kernel_rfl) (fun _ _ _ h => h) (Or.inl ⟨by rfl, ?_⟩) (by assumption) ?_
    rotate_left
    · (intro w hSw; (try dsimp only at hSw); go_simp; try with_reducible rfl)
    try simp only [Act.put, List.setIfInBounds_toArray, List.set_cons_zero, List.set_cons_succ]
    refine wpAnyH_take (i := 8) (oi := { dst := some 24, op := Op.load 3 (Operand.tmp 23), type := 3, pos := "read.go:89", after := #[{ on := 7, ground := Ground.data }], guard := none }) (v := ?_) rfl (by kernel_rfl) (by kernel_rfl) (by kernel_rfl) (fun _ _ _ h => h) (Or.inl ⟨by rfl, ?_⟩) (by assumption) ?_
    rotate_left
    · (intro w hSw; (try dsimp only at hSw); go_simp; try with_reducible rfl)
    try simp only [Act.put, List.setIfInBounds_toArray, List.set_cons_zero, List.set_cons_succ]
    refine wpAnyH_ready (rs := [9]) (by kernel_rfl) (by simp) ?_
    refine AllReadyH.cons (o := { dst := some 25, op := Op.call { callee := Callee.value (Operand.tmp 16), args := #[Operand.tmp 20, Operand.tmp 24], argTypes := #[50, 3] }, type := 165, pos := "read.go:89", after := #[{ on := 0, ground := Ground.data }, { on := 4, ground := Ground.data }, { on := 8, ground := Ground.data }], guard := none }) rfl (fun K hK => ?_) AllReadyH.nil
    go_simp
    refine (Try.get4_no _ A n c h4').mono ?_
    rintro x2 w2 ⟨rfl, rfl⟩
    refine hK.out _ _ ?_ (fun hHeld => ?_)
    · assumption
    clear hK K
    try simp only [Act.put, List.setIfInBounds_toArray, List.set_cons_zero, List.set_cons_succ]
    refine wpAnyH_take (i := 10) (oi := { dst := some 15, op := Op.move (Operand.tmp 25), type := 165, pos := "read.go:89", after := #[{ on := 9, ground := Ground.data }], guard := none }) (v := ?_) rfl (by kernel_rfl) (by kernel_rfl) (by kernel_rfl) (fun _ _ _ h => h) (Or.inl ⟨by rfl, ?_⟩) (by assumption) ?_
    rotate_left
    · (intro w hSw; (try dsimp only at hSw); go_simp; try with_reducible rfl)
    try simp only [Act.put, List.setIfInBounds_toArray, List.set_cons_zero, List.set_cons_succ]
    refine wpAnyH_take (i := 11) (oi := { dst := some 26, op := Op.extract (Operand.tmp 15) 0, type := 119, pos := "read.go:89", after := #[{ on := 10, ground := Ground.data }], guard := none }) (v := ?_) rfl (by kernel_rfl) (by kernel_rfl) (by kernel_rfl) (fun _ _ _ h => h) (Or.inl ⟨by rfl, ?_⟩) (by assumption) ?_
    rotate_left
    · (intro w hSw; (try dsimp only at hSw); go_simp; try with_reducible rfl)
    try simp only [Act.put, List.setIfInBounds_toArray, List.set_cons_zero, List.set_cons_succ]
    refine wpAnyH_take (i := 12) (oi := { dst := some 27, op := Op.extract (Operand.tmp 15) 1, type := 3, pos := "read.go:89", after := #[{ on := 10, ground := Ground.data }, { on := 14, ground := Ground.gcOnly Departure.lateStores }], guard := none }) (v := ?_) rfl (by kernel_rfl) (by kernel_rfl) (by kernel_rfl) (fun _ _ _ h => h) (Or.inl ⟨by rfl, ?_⟩) (by assumption) ?_
    rotate_left
    · (intro w hSw; (try dsimp only at hSw); go_simp; try with_reducible rfl)
    try simp only [Act.put, List.setIfInBounds_toArray, List.set_cons_zero, List.set_cons_succ]
    refine wpAnyH_take (i := 13) (oi := { dst := some 28, op := Op.extract (Operand.tmp 15) 2, type := 51, pos := "read.go:89", after := #[{ on := 10, ground := Ground.data }, { on := 15, ground := Ground.gcOnly Departure.lateStores }], guard := none }) (v := ?_) rfl (by kernel_rfl) (by kernel_rfl) (by kernel_rfl) (fun _ _ _ h => h) (Or.inl ⟨by rfl, ?_⟩) (by assumption) ?_
    rotate_left
    · (intro w hSw; (try dsimp only at hSw); go_simp; try with_reducible rfl)
    try simp only [Act.put, List.setIfInBounds_toArray, List.set_cons_zero, List.set_cons_succ]
    refine wpAnyH_take (i := 14) (oi := { dst := some 6, op := Op.assign (Operand.tmp 26), type := 119, pos := "read.go:89", after := #[{ on := 11, ground := Ground.data }, { on := 9, ground := Ground.chain }, { on := 0, ground := Ground.phase }, { on := 1, ground := Ground.phase }, { on := 2, ground := Ground.phase }, { on := 3, ground := Ground.phase }, { on := 4, ground := Ground.phase }, { on := 5, ground := Ground.phase }, { on := 6, ground := Ground.phase }, { on := 7, ground := Ground.phase }, { on := 8, ground := Ground.phase }, { on := 9, ground := Ground.phase }, { on := 10, ground := Ground.phase }, { on := 11, ground := Ground.phase }, { on := 12, ground := Ground.textOnly Departure.lateStores }, { on := 13, ground := Ground.textOnly Departure.lateStores }], guard := none }) (v := ?_) rfl (by kernel_rfl) (by kernel_rfl) (by kernel_rfl) (fun _ _ _ h => h) (Or.inl ⟨by rfl, ?_⟩) (by assumption) ?_
    rotate_left
    · (intro w hSw; (try dsimp only at hSw); go_simp; try with_reducible rfl)
    try simp only [Act.put, List.setIfInBounds_toArray, List.set_cons_zero, List.set_cons_succ]
    refine wpAnyH_take (i := 15) (oi := { dst := some 7, op := Op.assign (Operand.tmp 27), type := 3, pos := "read.go:89", after := #[{ on := 12, ground := Ground.data }, { on := 14, ground := Ground.chain }, { on := 0, ground := Ground.phase }, { on := 1, ground := Ground.phase }, { on := 2, ground := Ground.phase }, { on := 3, ground := Ground.phase }, { on := 4, ground := Ground.phase }, { on := 5, ground := Ground.phase }, { on := 6, ground := Ground.phase }, { on := 7, ground := Ground.phase }, { on := 8, ground := Ground.phase }, { on := 9, ground := Ground.phase }, { on := 10, ground := Ground.phase }, { on := 11, ground := Ground.phase }, { on := 12, ground := Ground.phase }, { on := 13, ground := Ground.textOnly Departure.lateStores }, { on := 14, ground := Ground.phase }], guard := none }) (v := ?_) rfl (by kernel_rfl) (by kernel_rfl) (by kernel_rfl) (fun _ _ _ h => h) (Or.inl ⟨by rfl, ?_⟩) (by assumption) ?_
    rotate_left
    · (intro w hSw; (try dsimp only at hSw); go_simp; try with_reducible rfl)
    try simp only [Act.put, List.setIfInBounds_toArray, List.set_cons_zero, List.set_cons_succ]
    refine wpAnyH_take (i := 16) (oi := { dst := some 8, op := Op.assign (Operand.tmp 28), type := 51, pos := "read.go:89", after := #[{ on := 13, ground := Ground.data }, { on := 15, ground := Ground.chain }, { on := 0, ground := Ground.phase }, { on := 1, ground := Ground.phase }, { on := 2, ground := Ground.phase }, { on := 3, ground := Ground.phase }, { on := 4, ground := Ground.phase }, { on := 5, ground := Ground.phase }, { on := 6, ground := Ground.phase }, { on := 7, ground := Ground.phase }, { on := 8, ground := Ground.phase }, { on := 9, ground := Ground.phase }, { on := 10, ground := Ground.phase }, { on := 11, ground := Ground.phase }, { on := 12, ground := Ground.phase }, { on := 13, ground := Ground.phase }, { on := 14, ground := Ground.phase }, { on := 15, ground := Ground.phase }], guard := none }) (v := ?_) rfl (by kernel_rfl) (by kernel_rfl) (by kernel_rfl) (fun _ _ _ h => h) (Or.inl ⟨by rfl, ?_⟩) (by assumption) ?_
    rotate_left
    · (intro w hSw; (try dsimp only at hSw); go_simp; try with_reducible rfl)
    try simp only [Act.put, List.setIfInBounds_toArray, List.set_cons_zero, List.set_cons_succ]
    refine wpAnyH_done (by kernel_rfl) ?_ _
    refine NoPanic.normal ?_
    obtain ⟨wd, hwd⟩ : ∃ wd, w.drew = wd := ⟨_, rfl⟩
    have RBd : RB wd b A n c 0 0 0 := (HB.out).rb.heap (by rw [← hwd]; rfl)
    have GRd : w.grownBy wd (some b) := by rw [← hwd]; exact grown_drew _ _
    rw [hwd]
    clear h3 h2' h0 hHeld hwd
    have h3 := RBd.c3
    have hf3 := frozen_of_row wd b 3 _ 138 RBd
    have HRB := Lib.hid RBd
    have HGR := Lib.hid GRd
    clear RBd GRd
    go_wp2_with fail
    go_ret
    obtain ⟨e1, e2⟩ := HE.out
    subst e1
    subst e2
    exact ⟨⟨_, rfl⟩, (HRB.out).set3 5, grown_trans HGR.out (grown_set _ _ _ _)⟩
end Go.Proofs.Ytfblhcphbcghpaa
end

section
namespace Go.Proofs.Ytfblhcphbcghpaa
open Go.RowKit
set_option maxRecDepth 100000
theorem sizeOf_run {P : Program} {t : TypeId} {n : Nat} (w : World) (hq : (P.info? t).map (·.size) = some n) : (sizeOf t).run P w = .ok n w := by
  rcases hi : P.info? t with _ | i
  · rw [hi] at hq; simp at hq
  · rw [hi] at hq
    simp at hq
    simp [sizeOf, typeInfo, hi, hq]
theorem isAgg_run {P : Program} {t : TypeId} {fs : Array Field} (w : World) (hq : P.underlying t = some (.struct fs)) : (isAgg t).run P w = .ok true w := by
  simp [isAgg, run_underlying hq]
theorem results_cell_tmp {P : Program} {fn : Func} {c u : Tmp} {t : TypeId} (h : fn.results = #[.cell c t, .tmp u]) (tmps : Array Value) (w : World) (b e : Nat) (cs : Array Value) (fs : Array Field) (ht : tmps.getD c undef = .pointer (some ⟨b, 0, none⟩)) (hh : w.heap[b]? = some (.cells cs e (0, 0)))
    (hq : (P.info? t).map (·.size) = some cs.size) (hu : P.underlying t = some (.struct fs)) : (results fn tmps).run P w = .ok (.tuple #[.agg cs, tmps.getD u undef]) w := by
  have hl : (loadCells ⟨b, 0, none⟩ cs.size).run P w = .ok cs w := by
    have := run_loadCells_list (P := P) w ⟨b, 0, none⟩ cs.toList (fun j v hj => by
      have e : (⟨b, 0, none⟩ : Addr).add j = ⟨b, j, none⟩ := by unfold Addr.add; split <;> simp_all
      rw [e, cell_of_row w b j _ _ _ hh, ← hj]
      simp)
    simpa using this
  have ht' : tmps[c]?.getD undef = .pointer (some ⟨b, 0, none⟩) := by simpa using ht
  simp [results, h, ht', asAddr, loadVar, isAgg_run w hu, sizeOf_run w hq, hl]
theorem results_cell1 {P : Program} {fn : Func} {c : Tmp} {t : TypeId} (h : fn.results = #[.cell c t]) (tmps : Array Value) (w : World) (b e : Nat) (cs : Array Value) (fs : Array Field) (ht : tmps.getD c undef = .pointer (some ⟨b, 0, none⟩)) (hh : w.heap[b]? = some (.cells cs e (0, 0)))
    (hq : (P.info? t).map (·.size) = some cs.size) (hu : P.underlying t = some (.struct fs)) : (results fn tmps).run P w = .ok (.agg cs) w := by
  have hl : (loadCells ⟨b, 0, none⟩ cs.size).run P w = .ok cs w := by
    have := run_loadCells_list (P := P) w ⟨b, 0, none⟩ cs.toList (fun j v hj => by
      have e : (⟨b, 0, none⟩ : Addr).add j = ⟨b, j, none⟩ := by unfold Addr.add; split <;> simp_all
      rw [e, cell_of_row w b j _ _ _ hh, ← hj]
      simp)
    simpa using this
  have ht' : tmps[c]?.getD undef = .pointer (some ⟨b, 0, none⟩) := by simpa using ht
  simp [results, h, ht', asAddr, loadVar, isAgg_run w hu, sizeOf_run w hq, hl]
theorem sure_run {P : Program} (w : World) (a : Addr) : (Instr.sureAddr (.pointer (some a))).run P w = .ok a w := by simp [Instr.sureAddr]
theorem oper_store_at {P : Program} (w : World) {o : Oper} {a : Act} {K : Act → World → Prop} {Q : Exit → Act → World → Prop} (t : TypeId) (p v : Operand)
    (hop : o.op = Op.store t p v) (b e off : Nat) (cs cur new : Array Value) (hp : a.eval p = .pointer (some ⟨b, off, none⟩)) (hv : a.eval v = .agg cs) (hh : w.heap[b]? = some (.cells cur e (0, 0))) (hsz : off + cs.size ≤ cur.size)
    (hnew : (cur.toList.take off ++ cs.toList ++ cur.toList.drop (off + cs.size)).toArray = new)
    (hq : (P.info? t).map (·.size) = some cs.size) (h1 : ∀ u ∈ cs.toList, u.oneCell' = true) (hK : K (a.put o.dst undef) (w.setRow b new)) : Oper.wp P o a w K Q := by
  have hs := run_storeCells_at P b off e cs.toList 0 cur w hh (by simp; omega) h1
  have hc : (cur.toList.take (off + 0) ++ cs.toList ++ cur.toList.drop (off + 0 + cs.toList.length)).toArray = new := by simpa using hnew
  rw [hc] at hs
  have hz := sizeOf_run w hq
  unfold Oper.wp
  have hr : (Instr.storeAt t (Value.pointer (some ⟨b, off, none⟩)) (Value.agg cs)).run P w = .ok () (w.setRow b new) := by
    simp only [Instr.storeAt, storeVar, Sem.run_bind, sure_run, Result.andThen_ok, hz, Value.cells, ne_eq, not_true_eq_false, if_false, hs]
  simp [execOp, hop, hp, hv, hr, Oper.upon]
  exact hK
theorem setRow_heap' (w : World) (g : Nat) (cs cur : Array Value) (e : Nat) (h : w.heap[g]? = some (.cells cur e (0, 0))) : (w.setRow g cs).heap[g]? = some (.cells cs e (0, 0)) := by
  exact setRow_heap w g cur _ e _ h
theorem setRow_other (w : World) (g : Nat) (cs : Array Value) (k : Nat) (h : k ≠ g) : (w.setRow g cs).heap[k]? = w.heap[k]? := by
  unfold World.setRow
  simp [Array.getElem?_modify, Ne.symm h]
theorem Below.setRow {B : Nat} {a w : World} (h : Below B a w) {g : Nat} (hg : B ≤ g) (cs : Array Value) : Below B a (w.setRow g cs) :=
  ⟨h.os, h.tape, h.output, by have := h.size; simpa [World.setRow] using this, fun k hk => by rw [setRow_other w g cs k (by omega)]; exact h.block k hk⟩
theorem Try.may (x : Int) (w : World) : Calls Try.prog 50 #[.int .i64 x] w fun e w' => e = .returned (.bool (decide (0 ≤ x) && decide (x ≤ 1024))) ∧ w' = w := by
  by_cases h : 0 ≤ x
  · have h1 : decide (0 ≤ x) = true := decide_eq_true h
    obtain ⟨q, hq⟩ : ∃ q, decide (x ≤ 1024) = q := ⟨_, rfl⟩
    rw [h1, hq]
    clear h
    go_enter Try.func50, Try.ntmps50
    go_wp2_with fail
    go_ret
    exact ⟨rfl, rfl⟩
  · have h1 : decide (0 ≤ x) = false := decide_eq_false h
    rw [h1]
    clear h
    go_enter Try.func50, Try.ntmps50
    go_wp2_with fail
    go_ret
    exact ⟨rfl, rfl⟩
theorem Try.slot (e : Nat) (he : e < 18446744073709551616) (w : World) : Calls Try.prog 43 #[.int .u64 e] w fun x w' => x = .returned (.int .i64 ((e : Int) % 2)) ∧ w' = w := by
  have s1 : IntKind.i64.wrap ((e : Int) % 2) = (e : Int) % 2 := wrapi (by omega) (by omega)
  go_enter Try.func43, Try.ntmps43
  go_wp2_with fail
  go_ret
  exact ⟨rfl, rfl⟩
theorem DI.conv {w : World} {A : Option Addr} {n c : Nat} {l : List UInt8} (h : DI w A n c l) : (convert 50 9 (.slice A n c)).run Try.prog w = .ok (.string (strOf l)) w := by
  cases A with
  | none =>
    obtain rfl := h.nil
    obtain rfl : n = 0 := by simpa using h.len.symm
    exact str_sl0 w none c
  | some X =>
    refine str_arg (fun j u hu => h.srcX (Below.refl _ w) j u hu) n c h.len
theorem str_eq (a b : List UInt8) : ((strOf a).toList == (strOf b).toList) = decide (a = b) := by
  have hl : ∀ a : List UInt8, (strOf a).toList = a := fun a => ByteArray.toList_mk a
  rw [hl, hl]
  by_cases h : a = b
  · subst h; simp
  · simp [h]
theorem Try.equal (w : World) {A B : Option Addr} {n m c d : Nat} {l k : List UInt8} (h1 : DI w A n c l) (h2 : DI w B m d k) :
    Calls Try.prog 72 #[.slice A n c, .slice B m d] w fun x w' => x = .returned (.bool (decide (l = k))) ∧ w' = w := by
  have e1 := h1.conv
  have e2 := h2.conv
  have e3 := str_eq l k
  obtain ⟨q, hq⟩ : ∃ q, decide (l = k) = q := ⟨_, rfl⟩
  rw [hq] at e3 ⊢
  clear h1 h2 hq
  go_enter Try.func72, Try.ntmps72
  go_wp2_with fail
  go_ret
  exact ⟨rfl, rfl⟩
theorem size70 : (Try.prog.info? 70).map (·.size) = some 3 := by kernel_rfl
theorem st70 : Try.prog.underlying 70 = some (.struct (Try.prog.fieldsOf 70)) := by kernel_rfl
end Go.Proofs.Ytfblhcphbcghpaa
end

section
namespace Go.Proofs.Ytfblhcphbcghpaa
open Go.RowKit Go.FM
def vInt : Value → Int
  | .int _ q => q
  | _ => 0
theorem bitsU (a b : Nat) (ha : a < 4294967296) (hb : b < 4294967296) : bits .and .u32 (a : Int) (b : Int) = ((a &&& b : Nat) : Int) ∧ bits .or .u32 (a : Int) (b : Int) = ((a ||| b : Nat) : Int) ∧ bits .xor .u32 (a : Int) (b : Int) = ((a ^^^ b : Nat) : Int) := by
  have ha' : a % 2 ^ IntKind.u32.bits = a := Nat.mod_eq_of_lt ha
  have hb' : b % 2 ^ IntKind.u32.bits = b := Nat.mod_eq_of_lt hb
  have hk : ∀ n : Nat, n < 4294967296 → IntKind.u32.wrap (n : Int) = n := fun n h => by rw [IntKind.wrap_u32]; omega
  have h1 : a &&& b < 2 ^ 32 := Nat.and_lt_two_pow _ hb
  have h2 : a ||| b < 2 ^ 32 := Nat.or_lt_two_pow ha hb
  have h3 : a ^^^ b < 2 ^ 32 := Nat.xor_lt_two_pow ha hb
  refine ⟨?_, ?_, ?_⟩
  · simp only [bits, BitVec.ofInt_natCast, BitVec.toNat_and, BitVec.toNat_ofNat, ha', hb']
    exact hk _ h1
  · simp only [bits, BitVec.ofInt_natCast, BitVec.toNat_or, BitVec.toNat_ofNat, ha', hb']
    exact hk _ h2
  · simp only [bits, BitVec.ofInt_natCast, BitVec.toNat_xor, BitVec.toNat_ofNat, ha', hb']
    exact hk _ h3
theorem step_bits (x : Nat) (h : x < 4294967296) : bits .xor .u32 ((x : Int) / 2) (bits .and .u32 3988292384 (-bits .and .u32 (x : Int) 1 % 4294967296)) = (cstepN x : Nat) := by
  have e1 : bits .and .u32 (x : Int) 1 = ((x % 2 : Nat) : Int) := by
    have := (bitsU x 1 h (by decide)).1
    rw [Nat.and_one_is_mod] at this
    exact this
  rw [e1]
  have e2 : (x : Int) / 2 = ((x / 2 : Nat) : Int) := by omega
  rw [e2]
  unfold cstepN
  by_cases hx : x % 2 = 1
  · rw [hx, if_pos rfl]
    have e3 : -((1 : Nat) : Int) % 4294967296 = ((4294967295 : Nat) : Int) := by decide
    have e4 : (3988292384 : Int) = ((3988292384 : Nat) : Int) := rfl
    rw [e3, e4, (bitsU 3988292384 4294967295 (by decide) (by decide)).1]
    have e5 : (3988292384 &&& 4294967295 : Nat) = 3988292384 := by decide
    rw [e5, (bitsU (x / 2) 3988292384 (by omega) (by decide)).2.2]
    rfl
  · have h0 : x % 2 = 0 := by omega
    rw [h0, if_neg (by decide)]
    have e3 : -((0 : Nat) : Int) % 4294967296 = ((0 : Nat) : Int) := by decide
    have e4 : (3988292384 : Int) = ((3988292384 : Nat) : Int) := rfl
    rw [e3, e4, (bitsU 3988292384 0 (by decide) (by decide)).1]
    have e5 : (3988292384 &&& 0 : Nat) = 0 := by decide
    rw [e5, (bitsU (x / 2) 0 (by omega) (by decide)).2.2, Nat.xor_zero]
set_option maxHeartbeats 1000000 in
theorem Try.eight (s : Nat) (hs : s < 4294967296) (w : World) :
    Calls Try.prog 75 #[.int .u32 (s : Nat)] w fun e w' => e = .returned (.int .u32 (citerN 8 s : Nat)) ∧ w' = w := by
  go_enter Try.func75, Try.ntmps75
  go_wp2
  go_loop [0, 3] (fun t0 t3 => ∃ k : Nat, k ≤ 8 ∧ t3 = .int .i64 k ∧ t0 = .int .u32 (citerN k s : Nat)) (fun _ t3 => 8 - (vInt t3).toNat)
  case atStart => exact ⟨0, by omega, rfl, rfl⟩
  case round =>
    obtain ⟨k, hk, rfl, rfl⟩ := hrel
    have hlt := citerN_lt k s hs
    have hst := step_bits _ hlt
    by_cases h8 : k < 8
    · have HS : Hid (bits .xor .u32 ((citerN k s : Nat) / 2 : Int) (bits .and .u32 3988292384 (-bits .and .u32 ((citerN k s : Nat) : Int) 1 % 4294967296)) = (citerN (k + 1) s : Nat)) := Lib.hid (by rw [citer_succ]; exact hst)
      clear hst
      go_wp2
      go_round
      case rel => exact ⟨k + 1, by omega, by go_num, by rw [HS.out]⟩
      case measure => simp [vInt]; omega
    · obtain rfl : k = 8 := by omega
      clear hst
      go_wp2
      go_ret
      exact ⟨rfl, rfl⟩
theorem Try.eightZ (z : Int) (s : Nat) (hz : Hid (z = (s : Nat))) (hs : s < 4294967296) (w : World) :
    Calls Try.prog 75 #[.int .u32 z] w fun e w' => e = .returned (.int .u32 (citerN 8 s : Nat)) ∧ w' = w := by
  rw [hz.out]; exact Try.eight s hs w
theorem inv32 (s : Nat) (h : s < 4294967296) : bits .xor .u32 IntKind.u32.max (s : Int) = 4294967295 - (s : Int) := by
  have e : IntKind.u32.max = ((4294967295 : Nat) : Int) := rfl
  rw [e, (bitsU 4294967295 s (by decide) h).2.2]
  have key : 4294967295 ^^^ s = 4294967295 - s := by
    have e := congrArg BitVec.toNat (BitVec.allOnes_xor (x := BitVec.ofNat 32 s))
    rw [BitVec.toNat_xor, BitVec.toNat_not] at e
    simp only [BitVec.toNat_allOnes, BitVec.toNat_ofNat] at e
    rw [Nat.mod_eq_of_lt (show s < 2 ^ 32 from h)] at e
    exact e
  rw [key]; omega
set_option maxHeartbeats 2000000 in
theorem Try.sum : SumSpec Try.prog 52 := by
  intro A n m l hl hb hn w hc
  go_enter Try.func52, Try.ntmps52
  go_wp2
  refine wp_scope_jumps 0 (fun a' w' => w' = w ∧ ∃ (i : Nat) (u5 u6 u7 u8 u9 u10 u11 u12 u13 u14 u15 u16 u17 u18 u19 u20 : Value), a' = { tmps := #[.slice (some A) n m, undef, .int .u32 0, .int .u32 (sumAt l i : Nat), .int .i64 i, u5, u6, u7, u8, u9, u10, u11, u12, u13, u14, u15, u16, u17, u18, u19, u20], defers := [] } ∧ i ≤ n) (fun a' _ => n - (vInt (a'.tmps.getD 4 undef)).toNat) rfl ?_ ?_
  · go_wp2
    go_step3
    have hs0 : sumAt l 0 = 4294967295 := rfl
    by_cases hin : 0 < n
    · have hx := hc 0 hin
      have hA : A.add 0 = A := by cases A; rfl
      rw [hA] at hx
      clear hA
      have hxb := hb (l.getD 0 0) (by rw [List.getD_eq_getElem?_getD, List.getElem?_eq_getElem (by omega)]; exact List.getElem_mem _)
      have hsl := sumAt_lt hb 0
      have hss := sumAt_succ l 0 (by omega)
      have hz := (bitsU (sumAt l 0) (l.getD 0 0).toNat hsl (by omega)).2.2
      rw [Int.toNat_of_nonneg hxb.1, hs0] at hz
      rw [hs0] at hss
      have HZ : Hid (bits .xor .u32 4294967295 (l.getD 0 0) = ((4294967295 ^^^ (l.getD 0 0).toNat : Nat) : Int)) := Lib.hid hz
      have hlt : 4294967295 ^^^ (l.getD 0 0).toNat < 4294967296 := Nat.xor_lt_two_pow (n := 32) (by decide) (by omega)
      have HS : Hid (citerN 8 (4294967295 ^^^ (l.getD 0 0).toNat) = sumAt l 1) := Lib.hid hss.symm
      have hD : decide ((0 : Int) = n) = false := by simp; omega
      have hD2 : ((0 : Int) == n) = false := by simp; omega
      clear hc hss hz hs0 hsl
      generalize l.getD 0 0 = x at hx hxb HZ hlt HS
      go_wp2_with (go_at_call 75; refine (Try.eightZ _ _ HZ hlt _).mono ?_; rintro e w' ⟨rfl, rfl⟩)
      go_step3
      rw [HS.out]
      exact ⟨rfl, rfl, 1, _, _, _, _, _, _, _, _, _, _, _, _, _, _, _, _, ⟨rfl, by omega⟩⟩
    · obtain rfl : n = 0 := by omega
      obtain rfl : l = [] := List.eq_nil_of_length_eq_zero hl
      clear hc hs0
      go_wp2
      simp only [Exit.jump]
      go_ret
      exact ⟨rfl, rfl⟩
  · rintro a' w' ⟨rfl, i, u5, u6, u7, u8, u9, u10, u11, u12, u13, u14, u15, u16, u17, u18, u19, u20, rfl, hi⟩
    by_cases hin : i < n
    · have hx := hc i hin
      have hxb := hb (l.getD i 0) (by rw [List.getD_eq_getElem?_getD, List.getElem?_eq_getElem (by omega)]; exact List.getElem_mem _)
      have hsl := sumAt_lt hb i
      have hss := sumAt_succ l i (by omega)
      have hz := (bitsU (sumAt l i) (l.getD i 0).toNat hsl (by omega)).2.2
      rw [Int.toNat_of_nonneg hxb.1] at hz
      have HZ : Hid (bits .xor .u32 ((sumAt l i : Nat) : Int) (l.getD i 0) = ((sumAt l i ^^^ (l.getD i 0).toNat : Nat) : Int)) := Lib.hid hz
      have hlt : sumAt l i ^^^ (l.getD i 0).toNat < 4294967296 := Nat.xor_lt_two_pow (n := 32) hsl (by omega)
      have HS : Hid (citerN 8 (sumAt l i ^^^ (l.getD i 0).toNat) = sumAt l (i + 1)) := Lib.hid hss.symm
      have hD : decide ((i : Int) = n) = false := by simp; omega
      clear hc hss hz
      generalize l.getD i 0 = x at hx hxb HZ hlt HS
      go_wp2_with (go_at_call 75; refine (Try.eightZ _ _ HZ hlt _).mono ?_; rintro e w' ⟨rfl, rfl⟩)
      go_step3
      rw [HS.out]
      refine ⟨rfl, ⟨rfl, i + 1, _, _, _, _, _, _, _, _, _, _, _, _, _, _, _, _, ⟨rfl, by omega⟩⟩, ?_⟩
      simp [vInt]; omega
    · obtain rfl : i = n := by omega
      have hD : decide ((i : Int) = i) = true := by simp
      clear hc
      go_wp2
      simp only [Exit.jump]
      go_ret
      refine ⟨?_, rfl⟩
      have hs2 : sumAt l i = crcN 4294967295 l := by unfold sumAt; rw [← hl, List.take_length]
      show Ending.returned (Value.int .u32 (bits .xor .u32 IntKind.u32.max ((sumAt l i : Nat) : Int))) = _
      rw [inv32 _ (sumAt_lt hb i), hs2]
      rfl
end Go.Proofs.Ytfblhcphbcghpaa
end

section
namespace Go.Proofs.Ytfblhcphbcghpaa
open Go.RowKit Go.FM
set_option maxRecDepth 100000
def told (e a n : Nat) : List UInt8 := encN e ++ encN a ++ encN n
def restS (e a n : Nat) : List UInt8 := told e a n ++ List.replicate (60 - (told e a n).length) 0
def ivs (l : List UInt8) : List Int := l.map (fun x => (x.toNat : Int))
def sumS (l : List UInt8) : Nat := (sumI (ivs l)).toNat
def supB (e a n : Nat) : List UInt8 := le4 (sumS (restS e a n)) ++ restS e a n
theorem told_len (e a n : Nat) : (told e a n).length ≤ 30 := by
  have h1 := encF_len 10 e
  have h2 := encF_len 10 a
  have h3 := encF_len 10 n
  unfold told encN
  rw [List.length_append, List.length_append]
  omega
theorem restS_len (e a n : Nat) : (restS e a n).length = 60 := by
  have := told_len e a n
  unfold restS
  rw [List.length_append, List.length_replicate]
  omega
theorem supB_len (e a n : Nat) : (supB e a n).length = 64 := by
  unfold supB
  rw [List.length_append, restS_len]
  rfl
theorem ivs_bytes (l : List UInt8) : isBytes (ivs l) := fun x hx => by
  obtain ⟨y, _, rfl⟩ := List.mem_map.1 hx
  have := y.toNat_lt
  omega
theorem sumI_in (l : List UInt8) : 0 ≤ sumI (ivs l) ∧ sumI (ivs l) < 4294967296 := by
  have h := sumAt_lt (ivs_bytes l) (ivs l).length
  unfold sumAt at h
  rw [List.take_length] at h
  unfold sumI
  omega
theorem sumS_lt (l : List UInt8) : sumS l < 4294967296 := by
  have := sumI_in l
  unfold sumS
  omega
theorem sumS_eq (l : List UInt8) : sumI (ivs l) = (sumS l : Int) := by
  have := sumI_in l
  unfold sumS
  omega
theorem sum_by {f : Nat} (hf : SumSpec Try.prog f) (w : World) (X : Addr) (n c : Nat) (l : List UInt8) (hD : DI w (some X) n c l) (hn : n ≤ 60000) : Calls Try.prog f #[.slice (some X) n c] w fun e w' => e = .returned (.int .u32 (sumS l : Nat)) ∧ w' = w := by
  have hl := hD.len
  refine (hf X n c (ivs l) (by unfold ivs; rw [List.length_map, hl]) (ivs_bytes l) (by omega) w fun i hi => ?_).mono ?_
  · have hx : l[i]? = some (l[i]'(by omega)) := List.getElem?_eq_getElem (by omega)
    obtain ⟨Y, hY, hc⟩ := hD.at' i _ hx
    cases hY
    rw [hc]
    unfold ivs u8v
    rw [List.getD_eq_getElem?_getD, List.getElem?_map, hx]
    rfl
  · rintro e w' ⟨rfl, h⟩
    exact ⟨by rw [sumS_eq], h⟩
theorem di_nil (w : World) : DI w none 0 0 [] := ⟨rfl, Nat.le_refl _, Nat.zero_le _, fun j q hj => by simp at hj⟩
def okS (e : Nat) (a n : Int) : Prop := e ≠ 0 ∧ (0 ≤ a ∧ a ≤ 1024) ∧ 0 ≤ n ∧ n ≤ 1024
def SupP (w : World) (e : Nat) (a n : Int) (x : Ending) (w' : World) : Prop :=
  (okS e a n ∧ (∃ v, x = .returned (.tuple #[v, .int .i64 0]) ∧ OB w' w.heap.size v (supB e a.toNat n.toNat)) ∧ Below w.heap.size w w') ∨
  (¬ okS e a n ∧ x = .returned (.tuple #[.slice none 0 0, .int .i64 1]) ∧ Below w.heap.size w w')
theorem splice_rest (l : List UInt8) (m : Nat) (h : l.length ≤ m) : splice (List.replicate m (Value.int .u8 0)) 0 (l.map u8v) = (l ++ List.replicate (m - l.length) 0).map u8v := by
  unfold splice
  rw [List.take_zero, List.nil_append, List.length_map, Nat.zero_add, List.drop_replicate, List.map_append, List.map_replicate]
  rfl
theorem full_ob {w : World} {B g m : Nat} {l : List UInt8} (h : w.heap[g]? = some (.cells (l.map u8v).toArray 5 (0, 0))) (hB : B ≤ g) (hl : l.length = m) (hm : m ≤ 65536) : OB w B (.slice (some ⟨g, 0, none⟩) m m) l := by
  subst hl
  refine ⟨by simp, .inr ⟨g, l.length, _, rfl, hB, h, Nat.le_refl _, by unfold maxLen; omega, by simp, ?_⟩⟩
  rw [Nat.mul_one]
  exact List.take_of_length_le (by simp)
set_option maxHeartbeats 8000000 in
theorem Try.sput (w : World) (e : Nat) (a n : Int) (he : e < 18446744073709551616) (ha : -9223372036854775808 ≤ a ∧ a ≤ 9223372036854775807) (hn : -9223372036854775808 ≤ n ∧ n ≤ 9223372036854775807) :
    Calls Try.prog 18 #[.agg #[.int .u64 e, .int .i64 a, .int .i64 n]] w (SupP w e a n) := by
  by_cases h0 : e = 0
  · have HN : Hid (¬ okS e a n) := Lib.hid (fun h => h.1 h0)
    have BB := Lib.hid ((Below.refl _ w).alloc (Nat.le_refl _) (.cells #[.int .u64 0, .int .i64 a, .int .i64 n] 70))
    subst h0
    go_enter Try.func18, Try.ntmps18
    go_wp2_with fail
    go_ret2
    exact .inr ⟨HN.out, rfl, BB.out⟩
  · have g0 : ((e : Int) == 0) = false := by simpa using h0
    have g0' : decide ((e : Int) = 0) = false := decide_eq_false (by omega)
    have g0'' : decide (e = 0) = false := decide_eq_false h0
    have H0 := Lib.hid h0
    have BB := Lib.hid ((Below.refl _ w).alloc (Nat.le_refl _) (.cells #[.int .u64 e, .int .i64 a, .int .i64 n] 70))
    have VB := Lib.hid (heap_alloc_new w (.cells #[.int .u64 e, .int .i64 a, .int .i64 n] 70))
    by_cases h1 : 0 ≤ a ∧ a ≤ 1024
    · obtain ⟨a, rfl⟩ : ∃ a' : Nat, a = (a' : Int) := ⟨a.toNat, by omega⟩
      have m1 : (decide ((0 : Int) ≤ (a : Int)) && decide ((a : Int) ≤ 1024)) = true := by simp; omega
      by_cases h2 : 0 ≤ n ∧ n ≤ 1024
      · obtain ⟨n, rfl⟩ : ∃ n' : Nat, n = (n' : Int) := ⟨n.toNat, by omega⟩
        have m2 : (decide ((0 : Int) ≤ (n : Int)) && decide ((n : Int) ≤ 1024)) = true := by simp; omega
        have M1 := Lib.hid m1
        have M2 := Lib.hid m2
        have ha4 : a ≤ 1024 := by omega
        have hn4 : n ≤ 1024 := by omega
        have OK : Hid (okS e (a : Int) (n : Int)) := Lib.hid ⟨h0, h1, h2⟩
        have u1 : IntKind.u64.wrap (a : Int) = (a : Int) := wrapu (by omega) (by omega)
        have u2 : IntKind.u64.wrap (n : Int) = (n : Int) := wrapu (by omega) (by omega)
        obtain ⟨ii, hi0, hz0, hz1, hz2⟩ := info5
        clear h0 h1 h2 m1 m2 ha hn
        go_enter Try.func18, Try.ntmps18
        go_wp2_with fail
        refine (Try.may a _).mono ?_
        rintro x w1 ⟨rfl, hw1⟩
        rw [hw1, M1.out]
        clear hw1 w1
        go_wp2_with fail
        refine (Try.may n _).mono ?_
        rintro x w1 ⟨rfl, hw1⟩
        rw [hw1, M2.out]
        clear hw1 w1
        go_upto_region 3 with fail
        obtain ⟨wa, hwa⟩ : ∃ wa, w.alloc (.cells #[.int .u64 e, .int .i64 a, .int .i64 n] 70) = wa := ⟨_, rfl⟩
        obtain ⟨bx, hbx⟩ : ∃ bx, w.heap.size = bx := ⟨_, rfl⟩
        rw [hwa] at BB VB
        rw [hbx] at VB
        have V0 : wa.cell? ⟨bx, 0, none⟩ = some (.int .u64 e) := cell_of_row wa bx 0 _ 70 _ VB.out
        have V1 : wa.cell? ⟨bx, 1, none⟩ = some (.int .i64 a) := cell_of_row wa bx 1 _ 70 _ VB.out
        have V2 : wa.cell? ⟨bx, 2, none⟩ = some (.int .i64 n) := cell_of_row wa bx 2 _ 70 _ VB.out
        have W0 := Lib.hid V0
        have W1 := Lib.hid V1
        have W2 := Lib.hid V2
        have HU := Lib.hid he
        rw [hwa, hbx]
        have HBX := Lib.hid hbx
        have hnil : DI wa.drew none 0 0 [] := di_nil _
        have D1 := Lib.hid hnil
        have BA : Hid (Below wa.heap.size wa wa.drew) := Lib.hid (Below.refl _ wa).drew
        clear hwa hbx hnil
        refine wp_region_noPanic ?_
        refine wp_region_held_drew (S := (fun W => W.cell? ⟨bx, 0, none⟩ = some (.int .u64 e) ∧ W.cell? ⟨bx, 1, none⟩ = some (.int .i64 a) ∧ W.cell? ⟨bx, 2, none⟩ = some (.int .i64 n))) (by kernel_rfl) ?_ (fun hHeld => ?_)
        · exact ⟨V0, V1, V2⟩
        refine wpAnyH_take (i := 0) (oi := { dst := some 23, op := Op.fieldAddr 70 (Operand.tmp 1) 0, type := 0, pos := "super.go:32", after := #[], guard := none }) (v := ?_) rfl (by kernel_rfl) (by kernel_rfl) (by kernel_rfl) (fun _ _ _ h => h) (Or.inl ⟨by rfl, ?_⟩) (by assumption) ?_
        rotate_left
        · (intro w hSw; (try dsimp only at hSw); go_simp; try with_reducible rfl)
        try simp only [Act.put, List.setIfInBounds_toArray, List.set_cons_zero, List.set_cons_succ]
        refine wpAnyH_take (i := 1) (oi := { dst := some 24, op := Op.load 23 (Operand.tmp 23), type := 23, pos := "super.go:32", after := #[{ on := 0, ground := Ground.data }], guard := none }) (v := ?_) rfl (by kernel_rfl) (by kernel_rfl) (by kernel_rfl) (fun _ _ _ h => h) (Or.inl ⟨by rfl, ?_⟩) (by assumption) ?_
        rotate_left
        · (intro w hSw; (try dsimp only at hSw); go_simp; try with_reducible rfl)
        try simp only [Act.put, List.setIfInBounds_toArray, List.set_cons_zero, List.set_cons_succ]
        refine wpAnyH_take (i := 3) (oi := { dst := some 26, op := Op.fieldAddr 70 (Operand.tmp 1) 1, type := 0, pos := "super.go:32", after := #[], guard := none }) (v := ?_) rfl (by kernel_rfl) (by kernel_rfl) (by kernel_rfl) (fun _ _ _ h => h) (Or.inl ⟨by rfl, ?_⟩) (by assumption) ?_
        rotate_left
        · (intro w hSw; (try dsimp only at hSw); go_simp; try with_reducible rfl)
        try simp only [Act.put, List.setIfInBounds_toArray, List.set_cons_zero, List.set_cons_succ]
        refine wpAnyH_take (i := 4) (oi := { dst := some 27, op := Op.fieldAddr 60 (Operand.tmp 26) 0, type := 0, pos := "super.go:32", after := #[{ on := 3, ground := Ground.data }], guard := none }) (v := ?_) rfl (by kernel_rfl) (by kernel_rfl) (by kernel_rfl) (fun _ _ _ h => h) (Or.inl ⟨by rfl, ?_⟩) (by assumption) ?_
        rotate_left
        · (intro w hSw; (try dsimp only at hSw); go_simp; try with_reducible rfl)
        try simp only [Act.put, List.setIfInBounds_toArray, List.set_cons_zero, List.set_cons_succ]
        refine wpAnyH_take (i := 5) (oi := { dst := some 28, op := Op.load 3 (Operand.tmp 27), type := 3, pos := "super.go:32", after := #[{ on := 4, ground := Ground.data }], guard := none }) (v := ?_) rfl (by kernel_rfl) (by kernel_rfl) (by kernel_rfl) (fun _ _ _ h => h) (Or.inl ⟨by rfl, ?_⟩) (by assumption) ?_
        rotate_left
        · (intro w hSw; (try dsimp only at hSw); go_simp; try with_reducible rfl)
        try simp only [Act.put, List.setIfInBounds_toArray, List.set_cons_zero, List.set_cons_succ]
        refine wpAnyH_take (i := 6) (oi := { dst := some 29, op := Op.convert 3 23 (Operand.tmp 28), type := 23, pos := "super.go:32", after := #[{ on := 5, ground := Ground.data }], guard := none }) (v := ?_) rfl (by kernel_rfl) (by kernel_rfl) (by kernel_rfl) (fun _ _ _ h => h) (Or.inl ⟨by rfl, ?_⟩) (by assumption) ?_
        rotate_left
        · (intro w hSw; (try dsimp only at hSw); go_simp; try with_reducible rfl)
        try simp only [Act.put, List.setIfInBounds_toArray, List.set_cons_zero, List.set_cons_succ]
        refine wpAnyH_take (i := 8) (oi := { dst := some 31, op := Op.fieldAddr 70 (Operand.tmp 1) 1, type := 0, pos := "super.go:32", after := #[], guard := none }) (v := ?_) rfl (by kernel_rfl) (by kernel_rfl) (by kernel_rfl) (fun _ _ _ h => h) (Or.inl ⟨by rfl, ?_⟩) (by assumption) ?_
        rotate_left
        · (intro w hSw; (try dsimp only at hSw); go_simp; try with_reducible rfl)
        try simp only [Act.put, List.setIfInBounds_toArray, List.set_cons_zero, List.set_cons_succ]
        refine wpAnyH_take (i := 9) (oi := { dst := some 32, op := Op.fieldAddr 60 (Operand.tmp 31) 1, type := 0, pos := "super.go:32", after := #[{ on := 8, ground := Ground.data }], guard := none }) (v := ?_) rfl (by kernel_rfl) (by kernel_rfl) (by kernel_rfl) (fun _ _ _ h => h) (Or.inl ⟨by rfl, ?_⟩) (by assumption) ?_
        rotate_left
        · (intro w hSw; (try dsimp only at hSw); go_simp; try with_reducible rfl)
        try simp only [Act.put, List.setIfInBounds_toArray, List.set_cons_zero, List.set_cons_succ]
        refine wpAnyH_take (i := 10) (oi := { dst := some 33, op := Op.load 3 (Operand.tmp 32), type := 3, pos := "super.go:32", after := #[{ on := 9, ground := Ground.data }], guard := none }) (v := ?_) rfl (by kernel_rfl) (by kernel_rfl) (by kernel_rfl) (fun _ _ _ h => h) (Or.inl ⟨by rfl, ?_⟩) (by assumption) ?_
        rotate_left
        · (intro w hSw; (try dsimp only at hSw); go_simp; try with_reducible rfl)
        try simp only [Act.put, List.setIfInBounds_toArray, List.set_cons_zero, List.set_cons_succ]
        refine wpAnyH_take (i := 11) (oi := { dst := some 34, op := Op.convert 3 23 (Operand.tmp 33), type := 23, pos := "super.go:32", after := #[{ on := 10, ground := Ground.data }], guard := none }) (v := ?_) rfl (by kernel_rfl) (by kernel_rfl) (by kernel_rfl) (fun _ _ _ h => h) (Or.inl ⟨by rfl, ?_⟩) (by assumption) ?_
        rotate_left
        · (intro w hSw; (try dsimp only at hSw); go_simp; try with_reducible rfl)
        try simp only [Act.put, List.setIfInBounds_toArray, List.set_cons_zero, List.set_cons_succ]
        refine wpAnyH_ready (rs := [2]) (by kernel_rfl) (by simp) ?_
        refine AllReadyH.cons (o := { dst := some 25, op := Op.call { callee := Callee.value (Operand.func 24), args := #[Operand.const (Value.slice none 0 0), Operand.tmp 24], argTypes := #[50, 23] }, type := 50, pos := "super.go:32", after := #[{ on := 1, ground := Ground.data }], guard := none }) rfl (fun K hK => ?_) AllReadyH.nil
        go_simp
        refine (Try.put _ D1.out (by omega) e HU.out).mono ?_
        rintro x1 w1 ⟨v1, rfl, ho1, hb1⟩
        obtain ⟨A1, c1, hv1, hd1⟩ := ho1.di
        subst hv1
        have BW1 := Lib.hid ((BA.out).trans (hb1.mono (BA.out).size))
        obtain ⟨L1, hL1⟩ : ∃ L, [] ++ encN e = L := ⟨_, rfl⟩
        rw [hL1] at hd1
        rw [hL1]
        obtain ⟨n1, hn1⟩ : ∃ n1, L1.length = n1 := ⟨_, rfl⟩
        rw [hn1] at hd1
        rw [hn1]
        have hl1 : n1 ≤ 10 := by
          rw [← hn1, ← hL1, List.length_append]
          have := encF_len 10 e
          unfold encN
          simp; omega
        have HL1 := Lib.hid hL1
        have D2 := Lib.hid hd1
        clear ho1 hd1 hb1 hL1
        refine hK.out _ _ ?_ (fun hHeld => ?_)
        · exact ⟨cellW W0.out BW1.out, cellW W1.out BW1.out, cellW W2.out BW1.out⟩
        clear hK K
        try simp only [Act.put, List.setIfInBounds_toArray, List.set_cons_zero, List.set_cons_succ]
        refine wpAnyH_ready (rs := [7]) (by kernel_rfl) (by simp) ?_
        refine AllReadyH.cons (o := { dst := some 30, op := Op.call { callee := Callee.value (Operand.func 24), args := #[Operand.tmp 25, Operand.tmp 29], argTypes := #[50, 23] }, type := 50, pos := "super.go:32", after := #[{ on := 2, ground := Ground.data }, { on := 6, ground := Ground.data }, { on := 2, ground := Ground.chain }], guard := none }) rfl (fun K hK => ?_) AllReadyH.nil
        go_simp
        refine (Try.put _ D2.out (by omega) a (by omega)).mono ?_
        rintro x2 w2 ⟨v2, rfl, ho2, hb2⟩
        obtain ⟨A2, c2, hv2, hd2⟩ := ho2.di
        subst hv2
        have BW2 := Lib.hid ((BW1.out).trans (hb2.mono (BW1.out).size))
        obtain ⟨L2, hL2⟩ : ∃ L, L1 ++ encN a = L := ⟨_, rfl⟩
        rw [hL2] at hd2
        rw [hL2]
        obtain ⟨n2, hn2⟩ : ∃ n2, L2.length = n2 := ⟨_, rfl⟩
        rw [hn2] at hd2
        rw [hn2]
        have hl2 : n2 ≤ 20 := by
          rw [← hn2, ← hL2, List.length_append]
          have := encF_len 10 a
          unfold encN
          omega
        have HL2 := Lib.hid hL2
        have D3 := Lib.hid hd2
        clear ho2 hd2 hb2 hL2
        refine hK.out _ _ ?_ (fun hHeld => ?_)
        · exact ⟨cellW W0.out BW2.out, cellW W1.out BW2.out, cellW W2.out BW2.out⟩
        clear hK K
        try simp only [Act.put, List.setIfInBounds_toArray, List.set_cons_zero, List.set_cons_succ]
        refine wpAnyH_ready (rs := [12]) (by kernel_rfl) (by simp) ?_
        refine AllReadyH.cons (o := { dst := some 35, op := Op.call { callee := Callee.value (Operand.func 24), args := #[Operand.tmp 30, Operand.tmp 34], argTypes := #[50, 23] }, type := 50, pos := "super.go:32", after := #[{ on := 7, ground := Ground.data }, { on := 11, ground := Ground.data }, { on := 7, ground := Ground.chain }], guard := none }) rfl (fun K hK => ?_) AllReadyH.nil
        go_simp
        refine (Try.put _ D3.out (by omega) n (by omega)).mono ?_
        rintro x3 w3 ⟨v3, rfl, ho3, hb3⟩
        obtain ⟨A3, c3, hv3, hd3⟩ := ho3.di
        subst hv3
        have BW3 := Lib.hid ((BW2.out).trans (hb3.mono (BW2.out).size))
        obtain ⟨L3, hL3⟩ : ∃ L, L2 ++ encN n = L := ⟨_, rfl⟩
        rw [hL3] at hd3
        rw [hL3]
        obtain ⟨n3, hn3⟩ : ∃ n3, L3.length = n3 := ⟨_, rfl⟩
        rw [hn3] at hd3
        rw [hn3]
        have hl3 : n3 ≤ 30 := by
          rw [← hn3, ← hL3, List.length_append]
          have := encF_len 10 n
          unfold encN
          omega
        have HL3 := Lib.hid hL3
        have D4 := Lib.hid hd3
        clear ho3 hd3 hb3 hL3
        refine hK.out _ _ ?_ (fun hHeld => ?_)
        · exact ⟨cellW W0.out BW3.out, cellW W1.out BW3.out, cellW W2.out BW3.out⟩
        clear hK K
        try simp only [Act.put, List.setIfInBounds_toArray, List.set_cons_zero, List.set_cons_succ]
        refine wpAnyH_take (i := 13) (oi := { dst := some 4, op := Op.assign (Operand.tmp 35), type := 50, pos := "super.go:32", after := #[{ on := 12, ground := Ground.data }, { on := 12, ground := Ground.chain }, { on := 0, ground := Ground.phase }, { on := 1, ground := Ground.phase }, { on := 2, ground := Ground.phase }, { on := 3, ground := Ground.phase }, { on := 4, ground := Ground.phase }, { on := 5, ground := Ground.phase }, { on := 6, ground := Ground.phase }, { on := 7, ground := Ground.phase }, { on := 8, ground := Ground.phase }, { on := 9, ground := Ground.phase }, { on := 10, ground := Ground.phase }, { on := 11, ground := Ground.phase }, { on := 12, ground := Ground.phase }], guard := none }) (v := ?_) rfl (by kernel_rfl) (by kernel_rfl) (by kernel_rfl) (fun _ _ _ h => h) (Or.inl ⟨by rfl, ?_⟩) (by assumption) ?_
        rotate_left
        · (intro w hSw; (try dsimp only at hSw); go_simp; try with_reducible rfl)
        try simp only [Act.put, List.setIfInBounds_toArray, List.set_cons_zero, List.set_cons_succ]
        refine wpAnyH_done (by kernel_rfl) ?_ _
        refine NoPanic.normal ?_
        have HT : Hid (told e a n = L3) := Lib.hid (by rw [← HL3.out, ← HL2.out, ← HL1.out]; unfold told; rw [List.nil_append])
        have HR : Hid (restS e a n = L3 ++ List.replicate (60 - L3.length) 0) := Lib.hid (by unfold restS; rw [HT.out])
        have hL30 : n3 ≤ 30 := hl3
        obtain ⟨m, hm1, hm2⟩ : ∃ m : Nat, m ≤ 60 ∧ 60 ≤ m := ⟨60, Nat.le_refl _, Nat.le_refl _⟩
        have hln3 := (D4.out).len
        have B3 := Lib.hid ((BB.out).trans ((BW3.out).mono (BB.out).size))
        have HP := Lib.hid ((D4.out).src ((Below.refl _ w3).alloc (Nat.le_refl _) (.cells (List.replicate m (.int .u8 0)).toArray 5)))
        have HM1 : Hid ((L3.map u8v).length = Nat.min n3 m) := Lib.hid (by rw [List.length_map, hln3]; exact (Nat.min_eq_left (by omega)).symm)
        have HM2 : Hid (0 + (L3.map u8v).length ≤ (List.replicate m (Value.int .u8 0)).length) := Lib.hid (by rw [List.length_map, List.length_replicate]; omega)
        obtain ⟨cs, hcs⟩ : ∃ cs, L3.map u8v = cs := ⟨_, rfl⟩
        have HCS := Lib.hid hcs
        have HONE : Hid (∀ u ∈ cs, u.oneCell' = true) := Lib.hid (by rw [← hcs]; exact u8v_one _)
        rw [hcs] at HP HM1 HM2
        have HLN3 := Lib.hid hln3
        clear hcs hln3 D1 D2 D3 BW1 BW2 BA hHeld W0 W1 W2 V0 V1 V2 VB
        go_wp2_with (first
          | (at_make; refine wpList_make_lc _ rfl _ _ 50 rfl 5 ii (.int .u8 0) Try.underlying50 hi0 hz0 hz1 hz2 rfl _ _ _ _ m m rfl rfl (by omega) (by omega) (by omega) (by omega) ?_)
          | (refine wpList_copy_splice rfl (.tmp 37) (.tmp 38) 50 50 rfl 5 Try.underlying50 size5 _ _ m m n3 c3 rfl rfl w3.heap.size 0 (List.replicate m (.int .u8 0)) 5 (heap_alloc_new w3 _) cs HM1.out (fun h => ⟨rfl, HP.out h⟩) HM2.out HONE.out w3.heap.size w3 ((Below.refl _ w3).alloc (Nat.le_refl _) _) (Nat.le_refl _) ?_))
        intro w5 hg5 hb5
        have hg6 := hg5.out
        rw [← HCS.out, splice_rest L3 m (by rw [HLN3.out]; omega), show m = 60 by omega, ← HR.out] at hg6
        obtain ⟨g, hg⟩ : ∃ g, w3.heap.size = g := ⟨_, rfl⟩
        have ho5 := full_ob (B := g) hg6 (by omega) ((restS_len e a n).trans (show 60 = m by omega)) (by omega)
        rw [hg] at hg6 ho5
        obtain ⟨A5, c5, hv5, hd5⟩ := ho5.di
        rw [(restS_len e a n).trans (show 60 = m by omega)] at hv5 hd5
        cases hv5
        rw [hg]
        have D5 := Lib.hid hd5
        have B5 := Lib.hid ((B3.out).trans (hb5.mono (B3.out).size))
        clear hg5 hg6 ho5 hb5 hg HP HM1 HM2 hd5
        obtain ⟨RS, hRS⟩ : ∃ RS, restS e a n = RS := ⟨_, rfl⟩
        rw [hRS] at D5
        have HRS := Lib.hid hRS
        have hSl := sumS_lt RS
        obtain ⟨s, hs⟩ : ∃ s, sumS RS = s := ⟨_, rfl⟩
        rw [hs] at hSl
        have HS := Lib.hid hs
        clear hRS hs
        go_wp2_with fail
        refine (sum_by Try.sum w5 ⟨g, 0, none⟩ m m RS D5.out (by omega)).mono ?_
        rintro x w6 ⟨rfl, hw6⟩
        rw [hw6, HS.out]
        clear hw6 w6
        go_wp2_with fail
        refine (Try.put4 w5 (di_nil w5) (by omega) s hSl).mono ?_
        rintro x w6 ⟨v6, rfl, ho6, hb6⟩
        have D6 := Lib.hid ((D5.out).below hb6)
        have B6 := Lib.hid ((B5.out).trans (hb6.mono (B5.out).size))
        have hbs := hb6.size
        have O6 : Hid (w6.ownsRow w5.heap.size 5 1 v6 4 ((le4 s).map u8v)) := Lib.hid ho6
        have S6 := Lib.hid ((D6.out).srcX (Below.refl _ w6))
        have HRL : Hid ((RS.map u8v).length = m * 1) := Lib.hid (by rw [List.length_map, (D6.out).len, Nat.mul_one])
        have H51 := Lib.hid (u8v_one RS)
        obtain ⟨rv, hrv⟩ : ∃ rv, RS.map u8v = rv := ⟨_, rfl⟩
        obtain ⟨l4, hl4⟩ : ∃ l4, (le4 s).map u8v = l4 := ⟨_, rfl⟩
        rw [hrv] at S6 HRL H51
        rw [hl4] at O6
        have HRV := Lib.hid hrv
        have HL4 := Lib.hid hl4
        have HB5 := Lib.hid (B5.out).size
        clear ho6 hb6 hrv hl4
        go_wp2_with (at_builtin; refine wpList_append_own _ rfl (.tmp 42) (.tmp 43) 50 rfl w5.heap.size 5 ii (.int .u8 0) 1 1 Try.underlying50 hi0 hz0 hz1 hz2 rfl (by decide) _ _ _ rfl (O6.out) _ _ _ rv rfl HRL.out S6.out H51.out (by unfold maxLen; omega) (by omega) hbs ?_)
        intro v7 w7 hown7 hg7 hne7
        have B7 := Lib.hid ((B6.out).grown hg7 (B6.out).size (fun k hk => by have := ((O6.out).lt k hk).1; have := HB5.out; omega))
        have O7 : Hid (OB w7 w.heap.size v7 (supB e a n)) := Lib.hid (by
          have e1 : (supB e a n).length = 4 + m := (supB_len e a n).trans (by omega)
          unfold OB
          rw [e1]
          unfold supB
          rw [List.map_append, HRS.out, HS.out, HL4.out, HRV.out]
          exact ⟨hown7.1, by
            rcases hown7.2 with q | ⟨g, cap, cur, h1, h2, h3⟩
            · exact .inl q
            · exact .inr ⟨g, cap, cur, h1, by have := HB5.out; omega, h3⟩⟩)
        clear hown7 hg7 hne7
        go_wp2_with fail
        go_ret2
        exact .inl ⟨OK.out, ⟨_, rfl, by rw [Int.toNat_natCast, Int.toNat_natCast]; exact O7.out⟩, B7.out⟩
      · have m2 : (decide ((0 : Int) ≤ n) && decide (n ≤ 1024)) = false := by simp; omega
        have M1 := Lib.hid m1
        have M2 := Lib.hid m2
        have HN : Hid (¬ okS e a n) := Lib.hid (fun h => h2 h.2.2)
        clear h1 h2 m1 m2
        go_enter Try.func18, Try.ntmps18
        go_wp2_with fail
        refine (Try.may a _).mono ?_
        rintro x w1 ⟨rfl, hw1⟩
        rw [hw1, M1.out]
        clear hw1 w1
        go_wp2_with fail
        refine (Try.may n _).mono ?_
        rintro x w1 ⟨rfl, hw1⟩
        rw [hw1, M2.out]
        clear hw1 w1
        go_wp2_with fail
        go_ret2
        exact .inr ⟨HN.out, rfl, BB.out⟩
    · have m1 : (decide ((0 : Int) ≤ a) && decide (a ≤ 1024)) = false := by simp; omega
      have M1 := Lib.hid m1
      have HN : Hid (¬ okS e a n) := Lib.hid (fun h => h1 h.2.1)
      clear h1 m1
      go_enter Try.func18, Try.ntmps18
      go_wp2_with fail
      refine (Try.may a _).mono ?_
      rintro x w1 ⟨rfl, hw1⟩
      rw [hw1, M1.out]
      clear hw1 w1
      go_wp2_with fail
      go_ret2
      exact .inr ⟨HN.out, rfl, BB.out⟩
end Go.Proofs.Ytfblhcphbcghpaa
end

section
namespace Go.Proofs.Ytfblhcphbcghpaa
open Go.RowKit Go.FM
set_option maxRecDepth 100000
theorem RdIn.other {W w w' : World} {b : Nat} {A : Option Addr} {n c : Nat} {l : List UInt8} {f : Int} {p : Nat} {e : Int} (h : RdIn W w b A n c l f p e) (k : w'.heap[b]? = w.heap[b]?) (hb : Below W.heap.size W w') : RdIn W w' b A n c l f p e :=
  ⟨h.rb.eq k, h.di, hb, h.box, h.hn, h.hp⟩
def q0 (l : List UInt8) : Nat × Int := if 4 ≤ l.length then (4, 0) else (0, 5)
def q1 (l : List UInt8) : Int × Nat × Int := Proofs.rnum l (q0 l).1 (q0 l).2
def q2 (l : List UInt8) : Int × Nat × Int := Proofs.rnum l (q1 l).2.1 (q1 l).2.2
def q3 (l : List UInt8) : Int × Nat × Int := Proofs.rnum l (q2 l).2.1 (q2 l).2.2
open Classical in
noncomputable def supG (l : List UInt8) : Option (Nat × Nat × Nat) :=
  if (q3 l).2.2 = 0 ∧ okS (q1 l).1.toNat (q2 l).1 (q3 l).1 ∧ supB (q1 l).1.toNat (q2 l).1.toNat (q3 l).1.toNat = l then some ((q1 l).1.toNat, (q2 l).1.toNat, (q3 l).1.toNat) else none
def GetP (w : World) (l : List UInt8) (x : Ending) (w' : World) : Prop :=
  Below w.heap.size w w' ∧ ((∃ e a n : Nat, supG l = some (e, a, n) ∧ e < 18446744073709551616 ∧ x = .returned (.tuple #[.agg #[.int .u64 e, .int .i64 a, .int .i64 n], .int .i64 0])) ∨
    (supG l = none ∧ x = .returned (.tuple #[.agg #[.int .u64 0, .int .i64 0, .int .i64 0], .int .i64 12])))
theorem supG_no {l : List UInt8} (h : ¬ ((q3 l).2.2 = 0 ∧ okS (q1 l).1.toNat (q2 l).1 (q3 l).1 ∧ supB (q1 l).1.toNat (q2 l).1.toNat (q3 l).1.toNat = l)) : supG l = none := by
  unfold supG; rw [if_neg h]
theorem supG_ok {l : List UInt8} (h : (q3 l).2.2 = 0 ∧ okS (q1 l).1.toNat (q2 l).1 (q3 l).1 ∧ supB (q1 l).1.toNat (q2 l).1.toNat (q3 l).1.toNat = l) : supG l = some ((q1 l).1.toNat, (q2 l).1.toNat, (q3 l).1.toNat) := by
  unfold supG; rw [if_pos h]
def zero3 : Array Value := #[.int .u64 0, .int .i64 0, .int .i64 0]
theorem wpList_store_at {P : Program} (w : World) {ops : Array Oper} {rest : List Oper} {o : Oper} {a : Act} {Q : Exit → Act → World → Prop} (hg : o.guard = none) (t : TypeId) (p v : Operand)
    (hop : o.op = Op.store t p v) (b e off : Nat) (cs cur new : Array Value) (hp : a.eval p = .pointer (some ⟨b, off, none⟩)) (hv : a.eval v = .agg cs) (hh : w.heap[b]? = some (.cells cur e (0, 0))) (hsz : off + cs.size ≤ cur.size)
    (hnew : (cur.toList.take off ++ cs.toList ++ cur.toList.drop (off + cs.size)).toArray = new)
    (hq : (P.info? t).map (·.size) = some cs.size) (h1 : ∀ u ∈ cs.toList, u.oneCell' = true) (K : wpList P ops Q rest (a.put o.dst undef) (w.setRow b new)) : wpList P ops Q (o :: rest) a w := by
  refine wpList_plain hg fun K' hK' => ?_
  have hs := run_storeCells_at P b off e cs.toList 0 cur w hh (by simp; omega) h1
  have hc : (cur.toList.take (off + 0) ++ cs.toList ++ cur.toList.drop (off + 0 + cs.toList.length)).toArray = new := by simpa using hnew
  rw [hc] at hs
  have hz := sizeOf_run w hq
  unfold Oper.wp
  have hr : (Instr.storeAt t (Value.pointer (some ⟨b, off, none⟩)) (Value.agg cs)).run P w = .ok () (w.setRow b new) := by
    simp only [Instr.storeAt, storeVar, Sem.run_bind, sure_run, Result.andThen_ok, hz, Value.cells, ne_eq, not_true_eq_false, if_false, hs]
  simp [execOp, hop, hp, hv, hr, Oper.upon]
  exact hK' _ _ K
theorem wpList_load_row {P : Program} (w : World) {ops : Array Oper} {rest : List Oper} {o : Oper} {a : Act} {Q : Exit → Act → World → Prop} (hg : o.guard = none) (t : TypeId) (p : Operand)
    (hop : o.op = Op.load t p) (b e : Nat) (cs : Array Value) (fs : Array Field) (hp : a.eval p = .pointer (some ⟨b, 0, none⟩)) (hh : w.heap[b]? = some (.cells cs e (0, 0)))
    (hq : (P.info? t).map (·.size) = some cs.size) (hu : P.underlying t = some (.struct fs)) (K : wpList P ops Q rest (a.put o.dst (.agg cs)) w) : wpList P ops Q (o :: rest) a w := by
  refine wpList_plain hg fun K' hK' => ?_
  have hl : (loadCells ⟨b, 0, none⟩ cs.size).run P w = .ok cs w := by
    have := run_loadCells_list (P := P) w ⟨b, 0, none⟩ cs.toList (fun j v hj => by
      have e : (⟨b, 0, none⟩ : Addr).add j = ⟨b, j, none⟩ := by unfold Addr.add; split <;> simp_all
      rw [e, cell_of_row w b j _ _ _ hh, ← hj]
      simp)
    simpa using this
  have hr : (Instr.loadAt t (Value.pointer (some ⟨b, 0, none⟩))).run P w = .ok (.agg cs) w := by
    simp only [Instr.loadAt, loadVar, Sem.run_bind, sure_run, Result.andThen_ok, isAgg_run w hu, if_true, sizeOf_run w hq, hl, Sem.run_pure]
  unfold Oper.wp
  simp [execOp, hop, hp, hr, Oper.upon]
  exact hK' _ _ K
theorem one3 (e a n : Int) : ∀ u ∈ (#[Value.int .u64 e, .int .i64 a, .int .i64 n] : Array Value).toList, u.oneCell' = true := by
  intro u hu
  simp at hu
  rcases hu with rfl | rfl | rfl <;> rfl
set_option maxHeartbeats 8000000 in
theorem Try.sget (w : World) {A : Option Addr} {n c : Nat} {l : List UInt8} (hD : DI w A n c l) (hn : n ≤ 60000) : Calls Try.prog 42 #[.slice A n c] w (GetP w l) := by
  have hln := hD.len
  have HD := Lib.hid (hD.below ((Below.refl _ w).alloc (Nat.le_refl _) (.cells #[.int .u64 0, .int .i64 0, .int .i64 0] 70)))
  have VZ := Lib.hid (heap_alloc_new w (.cells #[.int .u64 0, .int .i64 0, .int .i64 0] 70))
  have BZ := Lib.hid ((Below.refl _ w).alloc (Nat.le_refl _) (.cells #[.int .u64 0, .int .i64 0, .int .i64 0] 70))
  have hi1 : (q0 l).1 ≤ l.length := by unfold q0; split <;> simp <;> omega
  have h1 := rnum_in l (q0 l).1 (q0 l).2 hi1
  have h2 := rnum_in l (q1 l).2.1 (q1 l).2.2 h1.2.2
  have h3 := rnum_in l (q2 l).2.1 (q2 l).2.2 h2.2.2
  obtain ⟨⟨p0, e0⟩, hq0⟩ : ∃ q, q0 l = q := ⟨_, rfl⟩
  obtain ⟨⟨u1, p1, e1⟩, hq1⟩ : ∃ q, q1 l = q := ⟨_, rfl⟩
  obtain ⟨⟨u2, p2, e2⟩, hq2⟩ : ∃ q, q2 l = q := ⟨_, rfl⟩
  obtain ⟨⟨u3, p3, e3⟩, hq3⟩ : ∃ q, q3 l = q := ⟨_, rfl⟩
  have R1 : Hid (Proofs.rnum l p0 e0 = (u1, p1, e1)) := Lib.hid (by have := hq1; unfold q1 at this; rwa [hq0] at this)
  have R2 : Hid (Proofs.rnum l p1 e1 = (u2, p2, e2)) := Lib.hid (by have := hq2; unfold q2 at this; rwa [hq1] at this)
  have R3 : Hid (Proofs.rnum l p2 e2 = (u3, p3, e3)) := Lib.hid (by have := hq3; unfold q3 at this; rwa [hq2] at this)
  rw [show Proofs.rnum l (q0 l).1 (q0 l).2 = (u1, p1, e1) from hq1] at h1
  rw [show Proofs.rnum l (q1 l).2.1 (q1 l).2.2 = (u2, p2, e2) from hq2] at h2
  rw [show Proofs.rnum l (q2 l).2.1 (q2 l).2.2 = (u3, p3, e3) from hq3] at h3
  dsimp only at h1 h2 h3
  rw [hq0] at hi1
  dsimp only at hi1
  have HQ0 : Hid ((if 4 ≤ n then ((4 : Nat), (0 : Int)) else (0, 5)) = (p0, e0)) := Lib.hid (by rw [← hq0]; unfold q0; rw [hln])
  have HQ1 := Lib.hid hq1
  have HQ2 := Lib.hid hq2
  have HQ3 := Lib.hid hq3
  obtain ⟨u1, rfl⟩ : ∃ k : Nat, u1 = (k : Int) := ⟨u1.toNat, by omega⟩
  obtain ⟨u2, rfl⟩ : ∃ k : Nat, u2 = (k : Int) := ⟨u2.toNat, by omega⟩
  obtain ⟨u3, rfl⟩ : ∃ k : Nat, u3 = (k : Int) := ⟨u3.toNat, by omega⟩
  have hp0 : p0 ≤ n := by omega
  have hp1 : p1 ≤ n := by omega
  have hp2 : p2 ≤ n := by omega
  have hp3 : p3 ≤ n := by omega
  have hu1 : u1 < 18446744073709551616 := by omega
  have hu2 : u2 < 18446744073709551616 := by omega
  have hu3 : u3 < 18446744073709551616 := by omega
  obtain ⟨wz, hwz⟩ : ∃ wz, w.alloc (.cells #[.int .u64 0, .int .i64 0, .int .i64 0] 70) = wz := ⟨_, rfl⟩
  obtain ⟨bz, hbz⟩ : ∃ bz, w.heap.size = bz := ⟨_, rfl⟩
  rw [hwz] at HD VZ BZ
  rw [hbz] at VZ
  have HBZ := Lib.hid hbz
  have hzl : bz < wz.heap.size := (Array.getElem?_eq_some_iff.1 VZ.out).1
  have HZL := Lib.hid hzl
  clear hq0 hq1 hq2 hq3 h1 h2 h3 hi1 hD hln hzl
  go_enter Try.func42, Try.ntmps42
  go_upto_region 1 with fail
  clear hwz hbz
  go_wp2_with fail
  refine (Try.rnew wz A n c 0 0 hn (by rw [if_pos]; omega)).mono ?_
  rintro x w1 ⟨rb, rfl, hrb, hR1, hb1⟩
  have I1 : Hid (RdIn wz w1 rb A n c l 0 0 0) := Lib.hid ⟨hR1, HD.out, hb1, hrb, hn, Nat.zero_le _⟩
  have HNE : Hid (bz ≠ rb) := Lib.hid (by have := HZL.out; omega)
  have Z1 := Lib.hid ((hb1.block bz HZL.out).trans VZ.out)
  clear hrb hR1 hb1
  go_wp2_with fail
  refine (Try.rof32 I1.out p0 e0 HQ0.out).mono ?_
  rintro x w2 ⟨⟨v32, rfl⟩, hR2⟩
  have I2 := Lib.hid ((I1.out).next hR2 hp0)
  have Z2 := Lib.hid ((hR2.2.block bz (by have := (I1.out).bel.size; have := HZL.out; omega) (by intro h; cases h; exact HNE.out rfl)).trans Z1.out)
  clear hR2 Z1 I1
  go_wp2_with fail
  refine (Try.rnum I2.out).mono ?_
  rintro x w3 ⟨rfl, hR3⟩
  rw [R1.out] at hR3 ⊢
  dsimp only at hR3 ⊢
  have I3 := Lib.hid ((I2.out).next hR3 hp1)
  have Z3 := Lib.hid ((hR3.2.block bz (by have := (I2.out).bel.size; have := HZL.out; omega) (by intro h; cases h; exact HNE.out rfl)).trans Z2.out)
  clear hR3 Z2 I2
  go_upto_region 4 with fail
  obtain ⟨w4, hw4⟩ : ∃ w4, w3.alloc (.cells #[.int .u64 u1, .int .i64 0, .int .i64 0] 70) = w4 := ⟨_, rfl⟩
  obtain ⟨b5, hb5⟩ : ∃ b5, w3.heap.size = b5 := ⟨_, rfl⟩
  have hrl := (I3.out).rb.lt
  have hbel := (I3.out).bel.size
  have V4 : Hid (w4.heap[b5]? = some (.cells #[.int .u64 u1, .int .i64 0, .int .i64 0] 70 (0, 0))) := Lib.hid (by rw [← hw4, ← hb5]; exact heap_alloc_new w3 _)
  have I4 : Hid (RdIn wz w4 rb A n c l 0 p1 e1) := Lib.hid ((I3.out).other (by rw [← hw4]; exact Below.heap_alloc w3 _ rb hrl) (by rw [← hw4]; exact (I3.out).bel.alloc hbel _))
  have Z4 : Hid (w4.heap[bz]? = some (.cells #[.int .u64 0, .int .i64 0, .int .i64 0] 70 (0, 0))) := Lib.hid ((show w4.heap[bz]? = w3.heap[bz]? by rw [← hw4]; exact Below.heap_alloc w3 _ bz (by have := HZL.out; omega)).trans Z3.out)
  have HN5 : Hid (b5 ≠ rb) := Lib.hid (by omega)
  have HN6 : Hid (b5 ≠ bz) := Lib.hid (by have := HZL.out; omega)
  have HW5 : Hid (wz.heap.size ≤ b5) := Lib.hid (by omega)
  have HL5 : Hid (b5 < w4.heap.size) := Lib.hid (Array.getElem?_eq_some_iff.1 V4.out).1
  have HL6 : Hid (bz < w4.heap.size) := Lib.hid (Array.getElem?_eq_some_iff.1 Z4.out).1
  rw [hw4, hb5]
  clear hw4 hb5 hrl hbel I3 Z3
  obtain ⟨x2, hx2⟩ : ∃ x, IntKind.i64.wrap (u2 : Int) = x := ⟨_, rfl⟩
  obtain ⟨x3, hx3⟩ : ∃ x, IntKind.i64.wrap (u3 : Int) = x := ⟨_, rfl⟩
  have hxi2 : -9223372036854775808 ≤ x2 ∧ x2 ≤ 9223372036854775807 := by rw [← hx2, IntKind.wrap_i64]; omega
  have hxi3 : -9223372036854775808 ≤ x3 ∧ x3 ≤ 9223372036854775807 := by rw [← hx3, IntKind.wrap_i64]; omega
  have HX2 := Lib.hid hx2
  have HX3 := Lib.hid hx3
  go_wp2_with fail
  refine (Try.rnum I4.out).mono ?_
  rintro x w5 ⟨rfl, hR5⟩
  rw [R2.out] at hR5 ⊢
  dsimp only at hR5 ⊢
  have I5 := Lib.hid ((I4.out).next hR5 hp2)
  have Z5 := Lib.hid ((hR5.2.block bz HL6.out (by intro h; cases h; exact HNE.out rfl)).trans Z4.out)
  have V5 := Lib.hid ((hR5.2.block b5 HL5.out (by intro h; cases h; exact HN5.out rfl)).trans V4.out)
  have hsz5 := hR5.2.size
  have HL5b : Hid (b5 < w5.heap.size) := Lib.hid (by have := HL5.out; omega)
  have HL6b : Hid (bz < w5.heap.size) := Lib.hid (by have := HL6.out; omega)
  clear hR5 Z4 V4 I4 hsz5 HL5 HL6
  go_wp2_with fail
  refine (Try.rnum I5.out).mono ?_
  rintro x w6 ⟨rfl, hR6⟩
  rw [R3.out] at hR6 ⊢
  dsimp only at hR6 ⊢
  have I6 := Lib.hid ((I5.out).next hR6 hp3)
  have Z6 := Lib.hid ((hR6.2.block bz HL6b.out (by intro h; cases h; exact HNE.out rfl)).trans Z5.out)
  have V6 := Lib.hid ((hR6.2.block b5 HL5b.out (by intro h; cases h; exact HN5.out rfl)).trans V5.out)
  clear hR6 Z5 V5 I5 HL5b HL6b
  have cV1 : w6.cell? ⟨b5, 1, none⟩ = some (.int .i64 0) := cell_of_row w6 b5 1 _ 70 _ V6.out
  have cV2 : w6.cell? ⟨b5, 2, none⟩ = some (.int .i64 0) := cell_of_row w6 b5 2 _ 70 _ V6.out
  have fV1 := frozen_of_row w6 b5 1 _ 70 V6.out
  have fV2 := frozen_of_row w6 b5 2 _ 70 V6.out
  go_upto_region 5 with fail
  obtain ⟨w7, hw7⟩ : ∃ w7, (w6.setCell ⟨b5, 1, none⟩ (.int .i64 x2)).setCell ⟨b5, 2, none⟩ (.int .i64 x3) = w7 := ⟨_, rfl⟩
  have V7 : Hid (w7.heap[b5]? = some (.cells #[.int .u64 u1, .int .i64 x2, .int .i64 x3] 70 (0, 0))) := Lib.hid (by
    rw [← hw7]
    exact heap_setCell_same _ b5 2 _ 70 _ (heap_setCell_same w6 b5 1 _ 70 _ V6.out))
  have hbl : ∀ k, k ≠ b5 → w7.heap[k]? = w6.heap[k]? := fun k hk => by
    rw [← hw7, Below.heap_setCell _ _ _ k hk, Below.heap_setCell _ _ _ k hk]
  have hB7 : Below wz.heap.size wz w7 := by
    rw [← hw7]
    exact ((I6.out).bel.setCell (p := ⟨b5, 1, none⟩) HW5.out _).setCell (p := ⟨b5, 2, none⟩) HW5.out _
  have I7 := Lib.hid ((I6.out).other (hbl rb (Ne.symm HN5.out)) hB7)
  have Z7 := Lib.hid ((hbl bz (Ne.symm HN6.out)).trans Z6.out)
  have B7 := Lib.hid hB7
  rw [hw7]
  clear hw7 hbl hB7 cV1 cV2 fV1 fV2 I6 Z6 V6 hx2 hx3
  go_wp2_with fail
  refine (Try.rerr (I7.out).rb).mono ?_
  rintro x w8 ⟨rfl, hw8⟩
  rw [hw8]
  clear hw8 w8
  by_cases he : e3 = 0
  · subst he
    go_wp2_with (refine wpList_load_row _ rfl 70 (.tmp 5) rfl b5 70 #[.int .u64 u1, .int .i64 x2, .int .i64 x3] _ rfl (V7.out) size70 st70 ?_)
    refine (Try.sput w7 u1 x2 x3 hu1 hxi2 hxi3).mono ?_
    rintro x w8 hS
    rcases hS with ⟨hok, ⟨v8, rfl, ho8⟩, hb8⟩ | ⟨hno, rfl, hb8⟩
    · obtain ⟨A8, c8, hv8, hd8⟩ := ho8.di
      rw [supB_len] at hv8 hd8
      subst hv8
      have hw2 : x2 = (u2 : Int) := by have := HX2.out; unfold okS at hok; rw [IntKind.wrap_i64] at this; omega
      have hw3 : x3 = (u3 : Int) := by have := HX3.out; unfold okS at hok; rw [IntKind.wrap_i64] at this; omega
      have HOK := Lib.hid hok
      have HW2 := Lib.hid hw2
      have HW3 := Lib.hid hw3
      have D8 := Lib.hid hd8
      have Z8 := Lib.hid ((hb8.block bz (Array.getElem?_eq_some_iff.1 Z7.out).1).trans Z7.out)
      have V8 := Lib.hid ((hb8.block b5 (Array.getElem?_eq_some_iff.1 V7.out).1).trans V7.out)
      have B8 := Lib.hid ((B7.out).trans (hb8.mono (B7.out).size))
      have DB := Lib.hid ((HD.out).below B8.out)
      clear hok hw2 hw3 hd8 ho8 hb8
      go_wp2_with fail
      refine (Try.equal w8 D8.out DB.out).mono ?_
      rintro x w9 ⟨rfl, hw9⟩
      rw [hw9]
      clear hw9 w9
      obtain ⟨T, hT⟩ : ∃ T, decide (supB u1 x2.toNat x3.toNat = l) = T := ⟨_, rfl⟩
      have HT := Lib.hid hT
      rw [hT]
      clear hT
      cases T
      · have HNG : Hid (¬ ((q3 l).2.2 = 0 ∧ okS (q1 l).1.toNat (q2 l).1 (q3 l).1 ∧ supB (q1 l).1.toNat (q2 l).1.toNat (q3 l).1.toNat = l)) := Lib.hid (fun h => by
          rw [HQ1.out, HQ2.out, HQ3.out] at h
          dsimp only at h
          rw [Int.toNat_natCast] at h
          have h2 := of_decide_eq_false HT.out
          rw [HW2.out, HW3.out] at h2
          exact h2 h.2.2)
        go_wp2_with (refine wpList_store_at _ rfl 70 (.tmp 2) (.tmp 42) rfl bz 70 0 #[.int .u64 0, .int .i64 0, .int .i64 0] #[.int .u64 0, .int .i64 0, .int .i64 0] #[.int .u64 0, .int .i64 0, .int .i64 0] rfl rfl (Z8.out) (show 0 + 3 ≤ 3 by omega) rfl size70 (one3 0 0 0) ?_)
        refine bodyPost_ret (results_cell_tmp rfl _ _ bz 70 #[.int .u64 0, .int .i64 0, .int .i64 0] _ rfl (setRow_heap' _ bz _ _ 70 Z8.out) size70 st70) rfl ?_
        exact ⟨(BZ.out).trans (Below.setRow ((B8.out).mono (BZ.out).size) (Nat.le_of_eq HBZ.out) _), .inr ⟨supG_no HNG.out, rfl⟩⟩
      · have HG : Hid (supG l = some (u1, u2, u3)) := Lib.hid (by
          have := supG_ok (l := l) (by
            rw [HQ1.out, HQ2.out, HQ3.out]
            dsimp only
            rw [Int.toNat_natCast]
            have h2 := of_decide_eq_true HT.out
            have h3 := HOK.out
            rw [HW2.out, HW3.out] at h2 h3
            exact ⟨rfl, h3, h2⟩)
          rw [HQ1.out, HQ2.out, HQ3.out] at this
          dsimp only at this
          rw [Int.toNat_natCast, Int.toNat_natCast, Int.toNat_natCast] at this
          exact this)
        go_wp2_with (first | (refine wpList_load_row _ rfl 70 (.tmp 5) rfl b5 70 #[.int .u64 u1, .int .i64 x2, .int .i64 x3] _ rfl (V8.out) size70 st70 ?_) | (refine wpList_store_at _ rfl 70 (.tmp 2) (.tmp 43) rfl bz 70 0 #[.int .u64 u1, .int .i64 x2, .int .i64 x3] #[.int .u64 0, .int .i64 0, .int .i64 0] #[.int .u64 u1, .int .i64 x2, .int .i64 x3] rfl rfl (Z8.out) (show 0 + 3 ≤ 3 by omega) rfl size70 (one3 u1 x2 x3) ?_))
        refine bodyPost_ret (results_cell_tmp rfl _ _ bz 70 #[.int .u64 u1, .int .i64 x2, .int .i64 x3] _ rfl (setRow_heap' _ bz _ _ 70 Z8.out) size70 st70) rfl ?_
        refine ⟨(BZ.out).trans (Below.setRow ((B8.out).mono (BZ.out).size) (Nat.le_of_eq HBZ.out) _), .inl ⟨u1, u2, u3, HG.out, hu1, ?_⟩⟩
        rw [HW2.out, HW3.out]
        rfl
    · have HNG : Hid (¬ ((q3 l).2.2 = 0 ∧ okS (q1 l).1.toNat (q2 l).1 (q3 l).1 ∧ supB (q1 l).1.toNat (q2 l).1.toNat (q3 l).1.toNat = l)) := Lib.hid (fun h => by
        rw [HQ1.out, HQ2.out, HQ3.out] at h
        dsimp only at h
        rw [Int.toNat_natCast] at h
        have h2 := h.2.1
        have e2 := HX2.out
        have e3 := HX3.out
        rw [IntKind.wrap_i64] at e2 e3
        apply hno
        unfold okS at h2 ⊢
        omega)
      have Z8 := Lib.hid ((hb8.block bz (Array.getElem?_eq_some_iff.1 Z7.out).1).trans Z7.out)
      have B8 := Lib.hid ((B7.out).trans (hb8.mono (B7.out).size))
      clear hno hb8
      go_wp2_with (refine wpList_store_at _ rfl 70 (.tmp 2) (.tmp 42) rfl bz 70 0 #[.int .u64 0, .int .i64 0, .int .i64 0] #[.int .u64 0, .int .i64 0, .int .i64 0] #[.int .u64 0, .int .i64 0, .int .i64 0] rfl rfl (Z8.out) (show 0 + 3 ≤ 3 by omega) rfl size70 (one3 0 0 0) ?_)
      refine bodyPost_ret (results_cell_tmp rfl _ _ bz 70 #[.int .u64 0, .int .i64 0, .int .i64 0] _ rfl (setRow_heap' _ bz _ _ 70 Z8.out) size70 st70) rfl ?_
      exact ⟨(BZ.out).trans (Below.setRow ((B8.out).mono (BZ.out).size) (Nat.le_of_eq HBZ.out) _), .inr ⟨supG_no HNG.out, rfl⟩⟩
  · have HNG : Hid (¬ ((q3 l).2.2 = 0 ∧ okS (q1 l).1.toNat (q2 l).1 (q3 l).1 ∧ supB (q1 l).1.toNat (q2 l).1.toNat (q3 l).1.toNat = l)) := Lib.hid (fun h => by
      rw [HQ3.out] at h
      exact he h.1)
    have k1 : (e3 == 0) = false := by simpa using he
    have k2 : decide (e3 = 0) = false := by simpa using he
    clear he
    go_wp2_with (refine wpList_store_at _ rfl 70 (.tmp 2) (.tmp 28) rfl bz 70 0 #[.int .u64 0, .int .i64 0, .int .i64 0] #[.int .u64 0, .int .i64 0, .int .i64 0] #[.int .u64 0, .int .i64 0, .int .i64 0] rfl rfl (Z7.out) (show 0 + 3 ≤ 3 by omega) rfl size70 (one3 0 0 0) ?_)
    refine bodyPost_ret (results_cell_tmp rfl _ _ bz 70 #[.int .u64 0, .int .i64 0, .int .i64 0] _ rfl (setRow_heap' _ bz _ _ 70 Z7.out) size70 st70) rfl ?_
    exact ⟨(BZ.out).trans (Below.setRow ((B7.out).mono (BZ.out).size) (Nat.le_of_eq HBZ.out) _), .inr ⟨supG_no HNG.out, rfl⟩⟩
end Go.Proofs.Ytfblhcphbcghpaa
end

section
namespace Go.Proofs.Ytfblhcphbcghpaa
open Go.RowKit Go.FM
theorem rnum_ok {l : List UInt8} {a k : Nat} {u : Int} (h : getN l a = (u, k, 0)) : Proofs.rnum l a 0 = (u, a + k, 0) := by
  unfold Proofs.rnum; rw [h]; simp
theorem pow128 (k : Nat) : 2 ^ (7 * k) = 128 ^ k := by rw [Nat.pow_mul]
theorem p128_le {k : Nat} (h : k ≤ 9) : 128 ^ k ≤ 9223372036854775808 := by
  have : 128 ^ k ≤ 128 ^ 9 := Nat.pow_le_pow_right (by decide) h
  have e : (128 : Nat) ^ 9 = 9223372036854775808 := by decide
  omega
theorem getF_put (l : List UInt8) (p : Nat) : ∀ (f k u a : Nat) (r : List UInt8), f + k = 10 → l.drop (p + k) = encF f u ++ r → u * 128 ^ k < 18446744073709551616 → a < 128 ^ k → (0 < k → 0 < u) →
    getF l p f k (a : Int) = (((a + u * 128 ^ k : Nat) : Int), k + (encF f u).length, 0)
  | 0, k, u, a, r, hf, hd, hu, ha, h0 => by
    exfalso
    have hk : k = 10 := by omega
    subst hk
    have e : (128 : Nat) ^ 10 = 1180591620717411303424 := by decide
    rw [e] at hu
    have := h0 (by omega)
    omega
  | f + 1, k, u, a, r, hf, hd, hu, ha, h0 => by
    have hk9 : k ≤ 9 := by omega
    have hp := p128_le hk9
    have ha64 : a < 18446744073709551616 := by omega
    have ha2 : a < 2 ^ (7 * k) := by rw [pow128]; exact ha
    have hpos : 0 < 128 ^ k := Nat.pow_pos (by decide)
    have h9 : k = 9 → u < 2 := by
      intro h
      subst h
      have e : (128 : Nat) ^ 9 = 9223372036854775808 := by decide
      rw [e] at hu
      omega
    have hget : ∀ x (t : List UInt8), l.drop (p + k) = x :: t → l[p + k]? = some x := by
      intro x t h
      have := congrArg (fun z => z[0]?) h
      simpa using this
    by_cases hs : u < 128
    · rw [encF_last f u hs] at hd
      have hx := hget _ _ hd
      have hc : (UInt8.ofNat u).toNat = u := by rw [UInt8.toNat_ofNat']; omega
      have hg := gadd_sum k u a ha2 ha64 (by rw [Nat.mod_eq_of_lt hs, pow128]; exact hu)
      rw [Nat.mod_eq_of_lt hs, pow128] at hg
      rw [getF, hx]
      simp only
      rw [hc, if_neg (by rintro (⟨h1, h2⟩ | ⟨h1, h2⟩)
                         · have := h9 h1; omega
                         · have := h0 h1; omega), if_pos hs, hg, encF_last f u hs]
      simp
    · rw [encF_more f u hs] at hd
      have hx := hget _ _ hd
      have hk8 : k ≤ 8 := by
        by_cases h : k = 9
        · have := h9 h; omega
        · omega
      have hc : (UInt8.ofNat (u % 128 + 128)).toNat = u % 128 + 128 := by rw [UInt8.toNat_ofNat']; omega
      have hm : (u % 128 + 128) % 128 = u % 128 := by omega
      have hle : u % 128 * 128 ^ k ≤ u * 128 ^ k := Nat.mul_le_mul_right _ (Nat.mod_le u 128)
      have hg := gadd_sum k (u % 128 + 128) a ha2 ha64 (by rw [hm, pow128]; omega)
      rw [hm, pow128] at hg
      have hsplit : u / 128 * 128 ^ (k + 1) + u % 128 * 128 ^ k = u * 128 ^ k := by
        rw [Nat.pow_succ, Nat.mul_comm (128 ^ k) 128, ← Nat.mul_assoc, ← Nat.add_mul]
        congr 1
        omega
      have ih := getF_put l p f (k + 1) (u / 128) (a + u % 128 * 128 ^ k) r (by omega) (by
        have := congrArg List.tail hd
        rw [List.tail_drop] at this
        exact this) (by omega) (by
        rw [Nat.pow_succ]
        have h1 : u % 128 * 128 ^ k ≤ 127 * 128 ^ k := Nat.mul_le_mul_right _ (by omega)
        omega) (by omega)
      rw [getF, hx]
      simp only
      rw [hc, if_neg (by rintro (⟨h1, h2⟩ | ⟨h1, h2⟩) <;> omega), if_neg (by omega), hg, ih, encF_more f u hs]
      have e1 : a + u % 128 * 128 ^ k + u / 128 * 128 ^ (k + 1) = a + u * 128 ^ k := by omega
      rw [e1]
      simp
      omega
theorem getN_put {l : List UInt8} {p u : Nat} {r : List UInt8} (h : l.drop p = encN u ++ r) (hu : u < 18446744073709551616) : getN l p = ((u : Int), (encN u).length, 0) := by
  have := getF_put l p 10 0 u 0 r rfl (by rw [Nat.add_zero]; exact h) (by simpa using hu) (by decide) (by omega)
  simpa [getN, encN] using this
end Go.Proofs.Ytfblhcphbcghpaa
end

section
namespace Go.Proofs.Ytfblhcphbcghpaa
open Go.RowKit
set_option maxRecDepth 100000
theorem Try.rleft {w : World} {b : Nat} {A : Option Addr} {n c : Nat} {f : Int} {p : Nat} {e : Int} (h : RB w b A n c f p e) (hp : p ≤ n) (hn : n ≤ 60000) :
    Calls Try.prog 38 #[.pointer (some ⟨b, 0, none⟩)] w fun x w' => x = .returned (.int .i64 (if e = 0 then (n : Int) - p else 0)) ∧ w.heap = w'.heap ∧ Below w.heap.size w w' := by
  have h3 := h.c3
  have h0 := h.c0
  have h2 := h.c2
  by_cases he : e = 0
  · subst he
    have s2 : IntKind.i64.wrap ((n : Int) - p) = (n : Int) - p := by rw [IntKind.wrap_i64]; omega
    go_enter Try.func38, Try.ntmps38
    go_wp2_with fail
    refine wp_region_noPanic ?_
    refine wp_region_held_drew (S := (fun W => W.cell? ⟨b, 0, none⟩ = some (.slice A n c) ∧ W.cell? ⟨b, 2, none⟩ = some (.int .i64 p))) (by kernel_rfl) ?_ (fun hHeld => ?_)
    · exact ⟨h0, h2⟩
    refine wpAnyH_take (i := 0) (oi := { dst := some 8, op := Op.move (Operand.tmp 0), type := 90, pos := "read.go:41", after := #[], guard := none }) (v := ?_) rfl (by kernel_rfl) (by kernel_rfl) (by kernel_rfl) (fun _ _ _ h => h) (Or.inl ⟨by rfl, ?_⟩) (by assumption) ?_
    rotate_left
    · (intro w hSw; (try dsimp only at hSw); go_simp; try with_reducible rfl)
    try simp only [Act.put, List.setIfInBounds_toArray, List.set_cons_zero, List.set_cons_succ]
    refine wpAnyH_take (i := 1) (oi := { dst := some 9, op := Op.nilCheck (Operand.tmp 8), type := 0, pos := "read.go:41", after := #[{ on := 0, ground := Ground.data }], guard := none }) (v := ?_) rfl (by kernel_rfl) (by kernel_rfl) (by kernel_rfl) (fun _ _ _ h => h) (Or.inl ⟨by rfl, ?_⟩) (by assumption) ?_
    rotate_left
    · (intro w hSw; (try dsimp only at hSw); go_simp; try with_reducible rfl)
    try simp only [Act.put, List.setIfInBounds_toArray, List.set_cons_zero, List.set_cons_succ]
    refine wpAnyH_take (i := 2) (oi := { dst := some 10, op := Op.fieldAddr 138 (Operand.tmp 9) 0, type := 0, pos := "read.go:41", after := #[{ on := 1, ground := Ground.data }], guard := none }) (v := ?_) rfl (by kernel_rfl) (by kernel_rfl) (by kernel_rfl) (fun _ _ _ h => h) (Or.inl ⟨by rfl, ?_⟩) (by assumption) ?_
    rotate_left
    · (intro w hSw; (try dsimp only at hSw); go_simp; try with_reducible rfl)
    try simp only [Act.put, List.setIfInBounds_toArray, List.set_cons_zero, List.set_cons_succ]
    refine wpAnyH_take (i := 3) (oi := { dst := some 11, op := Op.load 50 (Operand.tmp 10), type := 50, pos := "read.go:41", after := #[{ on := 2, ground := Ground.data }], guard := none }) (v := ?_) rfl (by kernel_rfl) (by kernel_rfl) (by kernel_rfl) (fun _ _ _ h => h) (Or.inl ⟨by rfl, ?_⟩) (by assumption) ?_
    rotate_left
    · (intro w hSw; (try dsimp only at hSw); go_simp; try with_reducible rfl)
    try simp only [Act.put, List.setIfInBounds_toArray, List.set_cons_zero, List.set_cons_succ]
    refine wpAnyH_take (i := 4) (oi := { dst := some 12, op := Op.call { callee := Callee.builtin Builtin.len, args := #[Operand.tmp 11], argTypes := #[50] }, type := 3, pos := "read.go:41", after := #[{ on := 3, ground := Ground.data }], guard := none }) (v := ?_) rfl (by kernel_rfl) (by kernel_rfl) (by kernel_rfl) (fun _ _ _ h => h) (Or.inl ⟨by rfl, ?_⟩) (by assumption) ?_
    rotate_left
    · (intro w hSw; (try dsimp only at hSw); go_simp; try with_reducible rfl)
    try simp only [Act.put, List.setIfInBounds_toArray, List.set_cons_zero, List.set_cons_succ]
    refine wpAnyH_take (i := 5) (oi := { dst := some 13, op := Op.move (Operand.tmp 0), type := 90, pos := "read.go:41", after := #[], guard := none }) (v := ?_) rfl (by kernel_rfl) (by kernel_rfl) (by kernel_rfl) (fun _ _ _ h => h) (Or.inl ⟨by rfl, ?_⟩) (by assumption) ?_
    rotate_left
    · (intro w hSw; (try dsimp only at hSw); go_simp; try with_reducible rfl)
    try simp only [Act.put, List.setIfInBounds_toArray, List.set_cons_zero, List.set_cons_succ]
    refine wpAnyH_take (i := 6) (oi := { dst := some 14, op := Op.nilCheck (Operand.tmp 13), type := 0, pos := "read.go:41", after := #[{ on := 5, ground := Ground.data }], guard := none }) (v := ?_) rfl (by kernel_rfl) (by kernel_rfl) (by kernel_rfl) (fun _ _ _ h => h) (Or.inl ⟨by rfl, ?_⟩) (by assumption) ?_
    rotate_left
    · (intro w hSw; (try dsimp only at hSw); go_simp; try with_reducible rfl)
    try simp only [Act.put, List.setIfInBounds_toArray, List.set_cons_zero, List.set_cons_succ]
    refine wpAnyH_take (i := 7) (oi := { dst := some 15, op := Op.fieldAddr 138 (Operand.tmp 14) 2, type := 0, pos := "read.go:41", after := #[{ on := 6, ground := Ground.data }], guard := none }) (v := ?_) rfl (by kernel_rfl) (by kernel_rfl) (by kernel_rfl) (fun _ _ _ h => h) (Or.inl ⟨by rfl, ?_⟩) (by assumption) ?_
    rotate_left
    · (intro w hSw; (try dsimp only at hSw); go_simp; try with_reducible rfl)
    try simp only [Act.put, List.setIfInBounds_toArray, List.set_cons_zero, List.set_cons_succ]
    refine wpAnyH_take (i := 8) (oi := { dst := some 16, op := Op.load 3 (Operand.tmp 15), type := 3, pos := "read.go:41", after := #[{ on := 7, ground := Ground.data }], guard := none }) (v := ?_) rfl (by kernel_rfl) (by kernel_rfl) (by kernel_rfl) (fun _ _ _ h => h) (Or.inl ⟨by rfl, ?_⟩) (by assumption) ?_
    rotate_left
    · (intro w hSw; (try dsimp only at hSw); go_simp; try with_reducible rfl)
    try simp only [Act.put, List.setIfInBounds_toArray, List.set_cons_zero, List.set_cons_succ]
    refine wpAnyH_take (i := 9) (oi := { dst := some 17, op := Op.binOp BinOp.sub 3 (Operand.tmp 12) (Operand.tmp 16) 3, type := 3, pos := "read.go:41", after := #[{ on := 4, ground := Ground.data }, { on := 8, ground := Ground.data }], guard := none }) (v := ?_) rfl (by kernel_rfl) (by kernel_rfl) (by kernel_rfl) (fun _ _ _ h => h) (Or.inl ⟨by rfl, ?_⟩) (by assumption) ?_
    rotate_left
    · (intro w hSw; (try dsimp only at hSw); go_simp; try with_reducible rfl)
    try simp only [Act.put, List.setIfInBounds_toArray, List.set_cons_zero, List.set_cons_succ]
    refine wpAnyH_take (i := 10) (oi := { dst := some 2, op := Op.assign (Operand.tmp 17), type := 3, pos := "read.go:41", after := #[{ on := 9, ground := Ground.data }, { on := 0, ground := Ground.phase }, { on := 1, ground := Ground.phase }, { on := 2, ground := Ground.phase }, { on := 3, ground := Ground.phase }, { on := 4, ground := Ground.phase }, { on := 5, ground := Ground.phase }, { on := 6, ground := Ground.phase }, { on := 7, ground := Ground.phase }, { on := 8, ground := Ground.phase }, { on := 9, ground := Ground.phase }], guard := none }) (v := ?_) rfl (by kernel_rfl) (by kernel_rfl) (by kernel_rfl) (fun _ _ _ h => h) (Or.inl ⟨by rfl, ?_⟩) (by assumption) ?_
    rotate_left
    · (intro w hSw; (try dsimp only at hSw); go_simp; try with_reducible rfl)
    try simp only [Act.put, List.setIfInBounds_toArray, List.set_cons_zero, List.set_cons_succ]
    refine wpAnyH_done (by kernel_rfl) ?_ _
    refine NoPanic.normal ?_
    go_wp2_with fail
    go_ret
    exact ⟨rfl, rfl, (Below.refl _ _).drew⟩
  · have g := dec_ne he
    have g' : (e == 0) = false := by simpa using he
    go_enter Try.func38, Try.ntmps38
    go_wp2_with fail
    go_ret
    exact ⟨rfl, rfl, Below.refl _ _⟩
theorem Try.rread {w : World} {b : Nat} {A : Option Addr} {n c : Nat} {f : Nat} {p : Nat} {e : Int} (h : RB w b A n c f p e) (hp : p ≤ 60000) (hf : f ≤ 60000) :
    Calls Try.prog 66 #[.pointer (some ⟨b, 0, none⟩)] w fun x w' => x = .returned (.int .i64 ((p : Int) - f)) ∧ w.heap = w'.heap ∧ Below w.heap.size w w' := by
  have h1 := h.c1
  have h2 := h.c2
  have s2 : IntKind.i64.wrap ((p : Int) - f) = (p : Int) - f := by rw [IntKind.wrap_i64]; omega
  go_enter Try.func66, Try.ntmps66
  go_wp2_with fail
  refine wp_region_noPanic ?_
  refine wp_region_held_drew (S := (fun W => W.cell? ⟨b, 1, none⟩ = some (.int .i64 f) ∧ W.cell? ⟨b, 2, none⟩ = some (.int .i64 p))) (by kernel_rfl) ?_ (fun hHeld => ?_)
  · exact ⟨h1, h2⟩
  refine wpAnyH_take (i := 0) (oi := { dst := some 3, op := Op.move (Operand.tmp 0), type := 90, pos := "read.go:33", after := #[], guard := none }) (v := ?_) rfl (by kernel_rfl) (by kernel_rfl) (by kernel_rfl) (fun _ _ _ h => h) (Or.inl ⟨by rfl, ?_⟩) (by assumption) ?_
  rotate_left
  · (intro w hSw; (try dsimp only at hSw); go_simp; try with_reducible rfl)
  try simp only [Act.put, List.setIfInBounds_toArray, List.set_cons_zero, List.set_cons_succ]
  refine wpAnyH_take (i := 1) (oi := { dst := some 4, op := Op.nilCheck (Operand.tmp 3), type := 0, pos := "read.go:33", after := #[{ on := 0, ground := Ground.data }], guard := none }) (v := ?_) rfl (by kernel_rfl) (by kernel_rfl) (by kernel_rfl) (fun _ _ _ h => h) (Or.inl ⟨by rfl, ?_⟩) (by assumption) ?_
  rotate_left
  · (intro w hSw; (try dsimp only at hSw); go_simp; try with_reducible rfl)
  try simp only [Act.put, List.setIfInBounds_toArray, List.set_cons_zero, List.set_cons_succ]
  refine wpAnyH_take (i := 2) (oi := { dst := some 5, op := Op.fieldAddr 138 (Operand.tmp 4) 2, type := 0, pos := "read.go:33", after := #[{ on := 1, ground := Ground.data }], guard := none }) (v := ?_) rfl (by kernel_rfl) (by kernel_rfl) (by kernel_rfl) (fun _ _ _ h => h) (Or.inl ⟨by rfl, ?_⟩) (by assumption) ?_
  rotate_left
  · (intro w hSw; (try dsimp only at hSw); go_simp; try with_reducible rfl)
  try simp only [Act.put, List.setIfInBounds_toArray, List.set_cons_zero, List.set_cons_succ]
  refine wpAnyH_take (i := 3) (oi := { dst := some 6, op := Op.load 3 (Operand.tmp 5), type := 3, pos := "read.go:33", after := #[{ on := 2, ground := Ground.data }], guard := none }) (v := ?_) rfl (by kernel_rfl) (by kernel_rfl) (by kernel_rfl) (fun _ _ _ h => h) (Or.inl ⟨by rfl, ?_⟩) (by assumption) ?_
  rotate_left
  · (intro w hSw; (try dsimp only at hSw); go_simp; try with_reducible rfl)
  try simp only [Act.put, List.setIfInBounds_toArray, List.set_cons_zero, List.set_cons_succ]
  refine wpAnyH_take (i := 4) (oi := { dst := some 7, op := Op.move (Operand.tmp 0), type := 90, pos := "read.go:33", after := #[], guard := none }) (v := ?_) rfl (by kernel_rfl) (by kernel_rfl) (by kernel_rfl) (fun _ _ _ h => h) (Or.inl ⟨by rfl, ?_⟩) (by assumption) ?_
  rotate_left
  · (intro w hSw; (try dsimp only at hSw); go_simp; try with_reducible rfl)
  try simp only [Act.put, List.setIfInBounds_toArray, List.set_cons_zero, List.set_cons_succ]
  refine wpAnyH_take (i := 5) (oi := { dst := some 8, op := Op.nilCheck (Operand.tmp 7), type := 0, pos := "read.go:33", after := #[{ on := 4, ground := Ground.data }], guard := none }) (v := ?_) rfl (by kernel_rfl) (by kernel_rfl) (by kernel_rfl) (fun _ _ _ h => h) (Or.inl ⟨by rfl, ?_⟩) (by assumption) ?_
  rotate_left
  · (intro w hSw; (try dsimp only at hSw); go_simp; try with_reducible rfl)
  try simp only [Act.put, List.setIfInBounds_toArray, List.set_cons_zero, List.set_cons_succ]
  refine wpAnyH_take (i := 6) (oi := { dst := some 9, op := Op.fieldAddr 138 (Operand.tmp 8) 1, type := 0, pos := "read.go:33", after := #[{ on := 5, ground := Ground.data }], guard := none }) (v := ?_) rfl (by kernel_rfl) (by kernel_rfl) (by kernel_rfl) (fun _ _ _ h => h) (Or.inl ⟨by rfl, ?_⟩) (by assumption) ?_
  rotate_left
  · (intro w hSw; (try dsimp only at hSw); go_simp; try with_reducible rfl)
  try simp only [Act.put, List.setIfInBounds_toArray, List.set_cons_zero, List.set_cons_succ]
  refine wpAnyH_take (i := 7) (oi := { dst := some 10, op := Op.load 3 (Operand.tmp 9), type := 3, pos := "read.go:33", after := #[{ on := 6, ground := Ground.data }], guard := none }) (v := ?_) rfl (by kernel_rfl) (by kernel_rfl) (by kernel_rfl) (fun _ _ _ h => h) (Or.inl ⟨by rfl, ?_⟩) (by assumption) ?_
  rotate_left
  · (intro w hSw; (try dsimp only at hSw); go_simp; try with_reducible rfl)
  try simp only [Act.put, List.setIfInBounds_toArray, List.set_cons_zero, List.set_cons_succ]
  refine wpAnyH_take (i := 8) (oi := { dst := some 11, op := Op.binOp BinOp.sub 3 (Operand.tmp 6) (Operand.tmp 10) 3, type := 3, pos := "read.go:33", after := #[{ on := 3, ground := Ground.data }, { on := 7, ground := Ground.data }], guard := none }) (v := ?_) rfl (by kernel_rfl) (by kernel_rfl) (by kernel_rfl) (fun _ _ _ h => h) (Or.inl ⟨by rfl, ?_⟩) (by assumption) ?_
  rotate_left
  · (intro w hSw; (try dsimp only at hSw); go_simp; try with_reducible rfl)
  try simp only [Act.put, List.setIfInBounds_toArray, List.set_cons_zero, List.set_cons_succ]
  refine wpAnyH_take (i := 9) (oi := { dst := some 2, op := Op.assign (Operand.tmp 11), type := 3, pos := "read.go:33", after := #[{ on := 8, ground := Ground.data }, { on := 0, ground := Ground.phase }, { on := 1, ground := Ground.phase }, { on := 2, ground := Ground.phase }, { on := 3, ground := Ground.phase }, { on := 4, ground := Ground.phase }, { on := 5, ground := Ground.phase }, { on := 6, ground := Ground.phase }, { on := 7, ground := Ground.phase }, { on := 8, ground := Ground.phase }], guard := none }) (v := ?_) rfl (by kernel_rfl) (by kernel_rfl) (by kernel_rfl) (fun _ _ _ h => h) (Or.inl ⟨by rfl, ?_⟩) (by assumption) ?_
  rotate_left
  · (intro w hSw; (try dsimp only at hSw); go_simp; try with_reducible rfl)
  try simp only [Act.put, List.setIfInBounds_toArray, List.set_cons_zero, List.set_cons_succ]
  refine wpAnyH_done (by kernel_rfl) ?_ _
  refine NoPanic.normal ?_
  go_wp2_with fail
  go_ret
  exact ⟨rfl, rfl, (Below.refl _ _).drew⟩
theorem Try.rfail {w : World} {b : Nat} {A : Option Addr} {n c : Nat} {f p e : Int} (h : RB w b A n c f p e) (x : Int) :
    Calls Try.prog 63 #[.pointer (some ⟨b, 0, none⟩), .int .i64 x] w fun y w' => y = .returned (.tuple #[]) ∧ Rd w b A n c f p (if e = 0 then x else e) w' := by
  have h3 := h.c3
  have hf3 := frozen_of_row w b 3 _ 138 h
  have HB := Lib.hid h
  obtain ⟨q, hq⟩ : ∃ q, (if e = 0 then x else e) = q := ⟨_, rfl⟩
  rw [hq]
  have HQ := Lib.hid hq
  by_cases he : e = 0
  · subst he
    clear hq h
    go_enter Try.func63, Try.ntmps63
    go_wp2_with fail
    go_end0
    have := HQ.out
    simp at this
    subst this
    exact ⟨rfl, (HB.out).set3 x, grown_set _ _ _ _⟩
  · have g := dec_ne he
    have g' : (e == 0) = false := by simpa using he
    have HE := Lib.hid he
    clear hq h he
    go_enter Try.func63, Try.ntmps63
    go_wp2_with fail
    go_end0
    have := HQ.out
    rw [if_neg HE.out] at this
    subst this
    exact ⟨rfl, HB.out, grown_refl _ _⟩
theorem Try.rneed {w : World} {b : Nat} {A : Option Addr} {n c : Nat} {f p e : Int} (h : RB w b A n c f p e) (ok : Bool) (x q : Int) (hq : (if ok = false ∧ e = 0 then x else e) = q) :
    Calls Try.prog 32 #[.pointer (some ⟨b, 0, none⟩), .bool ok, .int .i64 x] w fun y w' => y = .returned (.tuple #[]) ∧ Rd w b A n c f p q w' := by
  have HB := Lib.hid h
  have HQ := Lib.hid hq
  clear h hq
  cases ok
  · go_enter Try.func32, Try.ntmps32
    go_wp2_with fail
    refine (Try.rfail HB.out x).mono ?_
    rintro y w' ⟨rfl, hR⟩
    have HR := Lib.hid hR
    clear hR
    go_wp2_with fail
    go_end0
    have := HQ.out
    have := HR.out
    simp_all
  · go_enter Try.func32, Try.ntmps32
    go_wp2_with fail
    go_end0
    have := HQ.out
    simp at this
    subst this
    exact ⟨rfl, HB.out, grown_refl _ _⟩
end Go.Proofs.Ytfblhcphbcghpaa
end

section
namespace Go.Proofs.Ytfblhcphbcghpaa
open Go.RowKit
set_option maxRecDepth 100000
theorem Rd.trans {w w1 w2 : World} {b : Nat} {A : Option Addr} {n c : Nat} {f p p' e e' : Int} (h : Rd w b A n c f p e w1) (k : Rd w1 b A n c f p' e' w2) : Rd w b A n c f p' e' w2 := ⟨k.1, grown_trans h.2 k.2⟩
theorem Try.leftI {W w : World} {b : Nat} {A : Option Addr} {n c : Nat} {l : List UInt8} {f : Int} {p : Nat} {e : Int} (h : RdIn W w b A n c l f p e) (q : Int) (hq : (if e = 0 then (n : Int) - p else 0) = q) :
    Calls Try.prog 38 #[.pointer (some ⟨b, 0, none⟩)] w fun y w' => y = .returned (.int .i64 q) ∧ Rd w b A n c f p e w' := by
  refine (Try.rleft h.rb h.hp h.hn).mono ?_
  rintro y w' ⟨rfl, k1, k2⟩
  exact ⟨by rw [hq], h.rb.heap k1, grown_below k2 _⟩
theorem Try.need_no {w : World} {b : Nat} {A : Option Addr} {n c : Nat} {f p e : Int} (h : RB w b A n c f p e) (he : Hid (e ≠ 0)) (ok : Bool) (x : Int) :
    Calls Try.prog 32 #[.pointer (some ⟨b, 0, none⟩), .bool ok, .int .i64 x] w fun y w' => y = .returned (.tuple #[]) ∧ Rd w b A n c f p e w' :=
  Try.rneed h ok x e (by rw [if_neg]; exact fun k => he.out k.2)
set_option maxHeartbeats 4000000 in
theorem Try.byteI {W w : World} {b : Nat} {A : Option Addr} {n c : Nat} {l : List UInt8} {f : Int} {p : Nat} {e : Int} (h : RdIn W w b A n c l f p e) :
    Calls Try.prog 65 #[.pointer (some ⟨b, 0, none⟩)] w fun y w' => y = .returned (.int .u8 (rbyte l p e).1) ∧ Rd w b A n c f (rbyte l p e).2.1 (rbyte l p e).2.2 w' := by
  obtain ⟨R, hR⟩ : ∃ R, rbyte l p e = R := ⟨_, rfl⟩
  rw [hR]
  have HB := Lib.hid h
  have HQ := Lib.hid hR
  have hnn := h.hn
  have hpn := h.hp
  have hln := h.di.len
  clear h hR
  by_cases he : e = 0
  · subst he
    by_cases hlt : p < n
    · obtain ⟨x, hx⟩ : ∃ x, l[p]? = some x := ⟨_, List.getElem?_eq_getElem (by omega)⟩
      have HE : Hid (R = ((x.toNat : Int), p + 1, 0)) := Lib.hid (by have := HQ.out; unfold Go.Proofs.rbyte at this; rw [if_pos rfl, hx] at this; exact this.symm)
      obtain ⟨X, hX, hcell⟩ := (HB.out).di.at' _ _ hx
      subst hX
      unfold u8v at hcell
      have HC := Lib.hid hcell
      obtain ⟨y, hy⟩ : ∃ y, x.toNat = y := ⟨_, rfl⟩
      have hy2 : y < 256 := by rw [← hy]; exact x.toNat_lt
      rw [hy] at HC HE
      have g1 : decide ((0 : Int) < (n : Int) - p) = true := by simp; omega
      have s1 : IntKind.i64.wrap ((p : Int) + 1) = ((p + 1 : Nat) : Int) := by rw [wrapi (by omega) (by omega)]; omega
      have s2 : IntKind.i64.wrap (((p + 1 : Nat) : Int) - 1) = (p : Int) := by rw [wrapi (by omega) (by omega)]; omega
      clear hx hy hcell
      go_enter Try.func65, Try.ntmps65
      go_wp2_with fail
      refine (Try.leftI HB.out ((n : Int) - p) (by rw [if_pos rfl])).mono ?_
      rintro y1 w1 ⟨rfl, r1⟩
      have R1 := Lib.hid r1
      clear r1
      go_wp2_with fail
      refine (Try.rneed (R1.out).1 true 5 0 (by simp)).mono ?_
      rintro y2 w2 ⟨rfl, r2⟩
      have R2 := Lib.hid ((R1.out).trans r2)
      have h3 := r2.1.c3
      have h2 := r2.1.c2
      have hf2 := frozen_of_row w2 b 2 _ 138 r2.1
      clear r2 R1
      go_upto_region 5 with fail
      obtain ⟨wd, hwd⟩ : ∃ wd, w2.setCell ⟨b, 2, none⟩ (.int .i64 ((p : Int) + 1)) = wd := ⟨_, rfl⟩
      have R3 : Hid (Rd w b (some X) n c f (p + 1) 0 wd) := Lib.hid (by rw [← hwd]; exact ⟨(R2.out).1.set2 (p + 1), grown_trans (R2.out).2 (grown_set _ _ _ _)⟩)
      have hd0 := (R3.out).1.c0
      have hd2 : wd.cell? ⟨b, 2, none⟩ = some (.int .i64 ((p : Int) + 1)) := (R3.out).1.c2
      have hd5 : wd.cell? (X.add p) = some (.int .u8 (y : Int)) := cellW HC.out ((HB.out).bel.grown (R3.out).2 (HB.out).bel.size (fun k hk => by cases hk; exact (HB.out).box))
      have s3 : IntKind.i64.wrap ((p : Int) + 1 - 1) = (p : Int) := by rw [wrapi (by omega) (by omega)]; omega
      have s4 : IntKind.i64.wrap (p : Int) = (p : Int) := wrapi (by omega) (by omega)
      have hlc := (HB.out).di.le
      rw [hwd]
      clear hwd h2 h3 hf2 R2
      refine wp_region_noPanic ?_
      refine wp_region_held_drew (S := (fun W => W.cell? ⟨b, 0, none⟩ = some (.slice (some X) n c) ∧ W.cell? ⟨b, 2, none⟩ = some (.int .i64 ((p : Int) + 1)) ∧ W.cell? (X.add p) = some (.int .u8 (y : Int)))) (by kernel_rfl) ?_ (fun hHeld => ?_)
      · exact ⟨hd0, hd2, hd5⟩
      refine wpAnyH_take (i := 0) (oi := { dst := some 20, op := Op.move (Operand.tmp 0), type := 90, pos := "read.go:65", after := #[], guard := none }) (v := ?_) rfl (by kernel_rfl) (by kernel_rfl) (by kernel_rfl) (fun _ _ _ h => h) (Or.inl ⟨by rfl, ?_⟩) (by assumption) ?_
      rotate_left
      · (intro w hSw; (try dsimp only at hSw); go_simp; try with_reducible rfl)
      try simp only [Act.put, List.setIfInBounds_toArray, List.set_cons_zero, List.set_cons_succ]
      refine wpAnyH_take (i := 1) (oi := { dst := some 21, op := Op.nilCheck (Operand.tmp 20), type := 0, pos := "read.go:65", after := #[{ on := 0, ground := Ground.data }], guard := none }) (v := ?_) rfl (by kernel_rfl) (by kernel_rfl) (by kernel_rfl) (fun _ _ _ h => h) (Or.inl ⟨by rfl, ?_⟩) (by assumption) ?_
      rotate_left
      · (intro w hSw; (try dsimp only at hSw); go_simp; try with_reducible rfl)
      try simp only [Act.put, List.setIfInBounds_toArray, List.set_cons_zero, List.set_cons_succ]
      refine wpAnyH_take (i := 2) (oi := { dst := some 22, op := Op.fieldAddr 138 (Operand.tmp 21) 0, type := 0, pos := "read.go:65", after := #[{ on := 1, ground := Ground.data }], guard := none }) (v := ?_) rfl (by kernel_rfl) (by kernel_rfl) (by kernel_rfl) (fun _ _ _ h => h) (Or.inl ⟨by rfl, ?_⟩) (by assumption) ?_
      rotate_left
      · (intro w hSw; (try dsimp only at hSw); go_simp; try with_reducible rfl)
      try simp only [Act.put, List.setIfInBounds_toArray, List.set_cons_zero, List.set_cons_succ]
      refine wpAnyH_take (i := 3) (oi := { dst := some 23, op := Op.load 50 (Operand.tmp 22), type := 50, pos := "read.go:65", after := #[{ on := 2, ground := Ground.data }], guard := none }) (v := ?_) rfl (by kernel_rfl) (by kernel_rfl) (by kernel_rfl) (fun _ _ _ h => h) (Or.inl ⟨by rfl, ?_⟩) (by assumption) ?_
      rotate_left
      · (intro w hSw; (try dsimp only at hSw); go_simp; try with_reducible rfl)
      try simp only [Act.put, List.setIfInBounds_toArray, List.set_cons_zero, List.set_cons_succ]
      refine wpAnyH_take (i := 4) (oi := { dst := some 24, op := Op.move (Operand.tmp 0), type := 90, pos := "read.go:65", after := #[], guard := none }) (v := ?_) rfl (by kernel_rfl) (by kernel_rfl) (by kernel_rfl) (fun _ _ _ h => h) (Or.inl ⟨by rfl, ?_⟩) (by assumption) ?_
      rotate_left
      · (intro w hSw; (try dsimp only at hSw); go_simp; try with_reducible rfl)
      try simp only [Act.put, List.setIfInBounds_toArray, List.set_cons_zero, List.set_cons_succ]
      refine wpAnyH_take (i := 5) (oi := { dst := some 25, op := Op.nilCheck (Operand.tmp 24), type := 0, pos := "read.go:65", after := #[{ on := 4, ground := Ground.data }], guard := none }) (v := ?_) rfl (by kernel_rfl) (by kernel_rfl) (by kernel_rfl) (fun _ _ _ h => h) (Or.inl ⟨by rfl, ?_⟩) (by assumption) ?_
      rotate_left
      · (intro w hSw; (try dsimp only at hSw); go_simp; try with_reducible rfl)
      try simp only [Act.put, List.setIfInBounds_toArray, List.set_cons_zero, List.set_cons_succ]
      refine wpAnyH_take (i := 6) (oi := { dst := some 26, op := Op.fieldAddr 138 (Operand.tmp 25) 2, type := 0, pos := "read.go:65", after := #[{ on := 5, ground := Ground.data }], guard := none }) (v := ?_) rfl (by kernel_rfl) (by kernel_rfl) (by kernel_rfl) (fun _ _ _ h => h) (Or.inl ⟨by rfl, ?_⟩) (by assumption) ?_
      rotate_left
      · (intro w hSw; (try dsimp only at hSw); go_simp; try with_reducible rfl)
      try simp only [Act.put, List.setIfInBounds_toArray, List.set_cons_zero, List.set_cons_succ]
      refine wpAnyH_take (i := 7) (oi := { dst := some 27, op := Op.load 3 (Operand.tmp 26), type := 3, pos := "read.go:65", after := #[{ on := 6, ground := Ground.data }], guard := none }) (v := ?_) rfl (by kernel_rfl) (by kernel_rfl) (by kernel_rfl) (fun _ _ _ h => h) (Or.inl ⟨by rfl, ?_⟩) (by assumption) ?_
      rotate_left
      · (intro w hSw; (try dsimp only at hSw); go_simp; try with_reducible rfl)
      try simp only [Act.put, List.setIfInBounds_toArray, List.set_cons_zero, List.set_cons_succ]
      refine wpAnyH_take (i := 8) (oi := { dst := some 28, op := Op.binOp BinOp.sub 3 (Operand.tmp 27) (Operand.const (Value.int IntKind.i64 1)) 3, type := 3, pos := "read.go:65", after := #[{ on := 7, ground := Ground.data }], guard := none }) (v := ?_) rfl (by kernel_rfl) (by kernel_rfl) (by kernel_rfl) (fun _ _ _ h => h) (Or.inl ⟨by rfl, ?_⟩) (by assumption) ?_
      rotate_left
      · (intro w hSw; (try dsimp only at hSw); go_simp; try with_reducible rfl)
      try simp only [Act.put, List.setIfInBounds_toArray, List.set_cons_zero, List.set_cons_succ]
      refine wpAnyH_take (i := 9) (oi := { dst := some 29, op := Op.indexAddr 50 (Operand.tmp 23) (Operand.tmp 28), type := 0, pos := "read.go:65", after := #[{ on := 3, ground := Ground.data }, { on := 8, ground := Ground.data }], guard := none }) (v := ?_) rfl (by kernel_rfl) (by kernel_rfl) (by kernel_rfl) (fun _ _ _ h => h) (Or.inl ⟨by rfl, ?_⟩) (by assumption) ?_
      rotate_left
      · (intro w hSw; (try dsimp only at hSw); go_simp; try with_reducible rfl)
      try simp only [Act.put, List.setIfInBounds_toArray, List.set_cons_zero, List.set_cons_succ]
      refine wpAnyH_take (i := 10) (oi := { dst := some 30, op := Op.load 5 (Operand.tmp 29), type := 5, pos := "read.go:65", after := #[{ on := 9, ground := Ground.data }], guard := none }) (v := ?_) rfl (by kernel_rfl) (by kernel_rfl) (by kernel_rfl) (fun _ _ _ h => h) (Or.inl ⟨by rfl, ?_⟩) (by assumption) ?_
      rotate_left
      · (intro w hSw; (try dsimp only at hSw); go_simp; try with_reducible rfl)
      try simp only [Act.put, List.setIfInBounds_toArray, List.set_cons_zero, List.set_cons_succ]
      refine wpAnyH_take (i := 11) (oi := { dst := some 2, op := Op.assign (Operand.tmp 30), type := 5, pos := "read.go:65", after := #[{ on := 10, ground := Ground.data }, { on := 0, ground := Ground.phase }, { on := 1, ground := Ground.phase }, { on := 2, ground := Ground.phase }, { on := 3, ground := Ground.phase }, { on := 4, ground := Ground.phase }, { on := 5, ground := Ground.phase }, { on := 6, ground := Ground.phase }, { on := 7, ground := Ground.phase }, { on := 8, ground := Ground.phase }, { on := 9, ground := Ground.phase }, { on := 10, ground := Ground.phase }], guard := none }) (v := ?_) rfl (by kernel_rfl) (by kernel_rfl) (by kernel_rfl) (fun _ _ _ h => h) (Or.inl ⟨by rfl, ?_⟩) (by assumption) ?_
      rotate_left
      · (intro w hSw; (try dsimp only at hSw); go_simp; try with_reducible rfl)
      try simp only [Act.put, List.setIfInBounds_toArray, List.set_cons_zero, List.set_cons_succ]
      refine wpAnyH_done (by kernel_rfl) ?_ _
      refine NoPanic.normal ?_
      go_wp2_with fail
      go_ret
      have := HE.out
      subst this
      exact ⟨rfl, (R3.out).1.heap rfl, grown_trans (R3.out).2 (grown_drew _ _)⟩
    · have hx : l[p]? = none := List.getElem?_eq_none (by omega)
      have HE : Hid (R = (0, p, 5)) := Lib.hid (by have := HQ.out; unfold Go.Proofs.rbyte at this; rw [if_pos rfl, hx] at this; exact this.symm)
      have g1 : decide ((0 : Int) < (n : Int) - p) = false := by simp; omega
      clear hx
      go_enter Try.func65, Try.ntmps65
      go_wp2_with fail
      refine (Try.leftI HB.out ((n : Int) - p) (by rw [if_pos rfl])).mono ?_
      rintro y1 w1 ⟨rfl, r1⟩
      have R1 := Lib.hid r1
      clear r1
      go_wp2_with fail
      refine (Try.rneed (R1.out).1 false 5 5 (by simp)).mono ?_
      rintro y2 w2 ⟨rfl, r2⟩
      have R2 := Lib.hid ((R1.out).trans r2)
      have h3 := r2.1.c3
      clear r2 R1
      go_wp2_with fail
      go_ret
      have := HE.out
      subst this
      exact ⟨rfl, R2.out⟩
  · have g := dec_ne he
    have g' : (e == 0) = false := by simpa using he
    have HE : Hid (R = (0, p, e)) := Lib.hid (by have := HQ.out; unfold Go.Proofs.rbyte at this; rw [if_neg he] at this; exact this.symm)
    have HL := Lib.hid (show (if e = 0 then (n : Int) - p else 0) = 0 by rw [if_neg he])
    have HN := Lib.hid he
    clear he
    go_enter Try.func65, Try.ntmps65
    go_wp2_with fail
    refine (Try.leftI HB.out 0 HL.out).mono ?_
    rintro y1 w1 ⟨rfl, r1⟩
    have R1 := Lib.hid r1
    clear r1
    go_wp2_with fail
    refine (Try.need_no (R1.out).1 HN false 5).mono ?_
    rintro y2 w2 ⟨rfl, r2⟩
    have R2 := Lib.hid ((R1.out).trans r2)
    have h3 := r2.1.c3
    clear r2 R1
    go_wp2_with fail
    go_ret
    have := HE.out
    subst this
    exact ⟨rfl, R2.out⟩
end Go.Proofs.Ytfblhcphbcghpaa
end

section
namespace Go.Proofs.Ytfblhcphbcghpaa
open Go.RowKit
set_option maxRecDepth 100000
theorem RdIn.cells {W w w' : World} {b : Nat} {A : Option Addr} {n c : Nat} {l : List UInt8} {f : Int} {p : Nat} {e : Int} (h : RdIn W w b A n c l f p e) (hg : w.grownBy w' (some b)) : Below W.heap.size W w' :=
  h.bel.grown hg h.bel.size (fun k hk => by cases hk; exact h.box)
set_option maxHeartbeats 4000000 in
theorem Try.textI {W w : World} {b : Nat} {A : Option Addr} {n c : Nat} {l : List UInt8} {f : Int} {p : Nat} {e : Int} (h : RdIn W w b A n c l f p e) (U : Nat) (hU : U < 18446744073709551616) :
    Calls Try.prog 64 #[.pointer (some ⟨b, 0, none⟩), .int .u64 U] w fun y w' => y = .returned (.string (strOf (rtext l p e U).1)) ∧ Rd w b A n c f (rtext l p e U).2.1 (rtext l p e U).2.2 w' := by
  obtain ⟨R, hR⟩ : ∃ R, rtext l p e U = R := ⟨_, rfl⟩
  rw [hR]
  have HB := Lib.hid h
  have HQ := Lib.hid hR
  have hnn := h.hn
  have hpn := h.hp
  have hln := h.di.len
  have hlc := h.di.le
  clear h hR
  by_cases he : e = 0
  · subst he
    have w1 : IntKind.u64.wrap ((n : Int) - p) = (n : Int) - p := wrapu (by omega) (by omega)
    by_cases hlt : (U : Int) ≤ (n : Int) - p
    · have HE : Hid (R = ((l.drop p).take U, p + U, 0)) := Lib.hid (by have := HQ.out; unfold rtext at this; rw [if_pos rfl, if_pos (by rw [hln]; exact hlt), Int.toNat_natCast] at this; exact this.symm)
      have g1 : decide ((U : Int) ≤ (n : Int) - p) = true := by simp; omega
      have w2 : IntKind.i64.wrap (U : Int) = (U : Int) := wrapi (by omega) (by omega)
      have s1 : IntKind.i64.wrap ((p : Int) + U) = ((p + U : Nat) : Int) := by rw [wrapi (by omega) (by omega)]; omega
      have s1' : IntKind.i64.wrap ((p : Int) + U) = (p : Int) + U := by rw [wrapi (by omega) (by omega)]
      have s4 : IntKind.i64.wrap (p : Int) = (p : Int) := wrapi (by omega) (by omega)
      have s3 : IntKind.i64.wrap ((p : Int) + U - U) = (p : Int) := by rw [wrapi (by omega) (by omega)]; omega
      go_enter Try.func64, Try.ntmps64
      go_wp2_with fail
      refine (Try.leftI HB.out ((n : Int) - p) (by rw [if_pos rfl])).mono ?_
      rintro y1 w1 ⟨rfl, r1⟩
      have R1 := Lib.hid r1
      clear r1
      go_wp2_with fail
      refine (Try.rneed (R1.out).1 true 5 0 (by simp)).mono ?_
      rintro y2 w2 ⟨rfl, r2⟩
      have R2 := Lib.hid ((R1.out).trans r2)
      have h3 := r2.1.c3
      have h2 := r2.1.c2
      have hf2 := frozen_of_row w2 b 2 _ 138 r2.1
      clear r2 R1
      go_upto_region 5 with fail
      obtain ⟨wd, hwd⟩ : ∃ wd, w2.setCell ⟨b, 2, none⟩ (.int .i64 ((p : Int) + U)) = wd := ⟨_, rfl⟩
      have R3 : Hid (Rd w b A n c f (p + U) 0 wd) := Lib.hid (by rw [← hwd]; exact ⟨(R2.out).1.set2 (p + U), grown_trans (R2.out).2 (grown_set _ _ _ _)⟩)
      have hd0 := (R3.out).1.c0
      have hd2 : wd.cell? ⟨b, 2, none⟩ = some (.int .i64 ((p : Int) + U)) := (R3.out).1.c2
      have BD := Lib.hid ((HB.out).cells (R3.out).2)
      rw [hwd]
      clear hwd h2 h3 hf2 R2 HQ
      by_cases hU0 : U = 0
      · subst hU0
        clear g1 w2 s1 s1' s3
        have hd2' : wd.cell? ⟨b, 2, none⟩ = some (.int .i64 (p : Int)) := by rw [hd2]; simp
        have w0 : IntKind.i64.wrap 0 = 0 := by decide
        have s5 : IntKind.i64.wrap ((p : Int) - 0) = (p : Int) := by rw [wrapi (by omega) (by omega)]; omega
        have hpc : p ≤ c := by omega
        clear hd2
        refine wp_region_noPanic ?_
        refine wp_region_held_drew (S := (fun W => W.cell? ⟨b, 0, none⟩ = some (.slice A n c) ∧ W.cell? ⟨b, 2, none⟩ = some (.int .i64 (p : Int)) ∧ ∀ (B : Option Addr) (m : Nat), (convert 50 9 (.slice B 0 m)).run Try.prog W = .ok (.string (strOf [])) W)) (by kernel_rfl) ?_ (fun hHeld => ?_)
        · exact ⟨hd0, hd2', fun B m => str_sl0 _ B m⟩
        refine wpAnyH_take (i := 0) (oi := { dst := some 26, op := Op.move (Operand.tmp 0), type := 90, pos := "read.go:75", after := #[], guard := none }) (v := ?_) rfl (by kernel_rfl) (by kernel_rfl) (by kernel_rfl) (fun _ _ _ h => h) (Or.inl ⟨by rfl, ?_⟩) (by assumption) ?_
        rotate_left
        · (intro w hSw; (try dsimp only at hSw); go_simp; try with_reducible rfl)
        try simp only [Act.put, List.setIfInBounds_toArray, List.set_cons_zero, List.set_cons_succ]
        refine wpAnyH_take (i := 1) (oi := { dst := some 27, op := Op.nilCheck (Operand.tmp 26), type := 0, pos := "read.go:75", after := #[{ on := 0, ground := Ground.data }], guard := none }) (v := ?_) rfl (by kernel_rfl) (by kernel_rfl) (by kernel_rfl) (fun _ _ _ h => h) (Or.inl ⟨by rfl, ?_⟩) (by assumption) ?_
        rotate_left
        · (intro w hSw; (try dsimp only at hSw); go_simp; try with_reducible rfl)
        try simp only [Act.put, List.setIfInBounds_toArray, List.set_cons_zero, List.set_cons_succ]
        refine wpAnyH_take (i := 2) (oi := { dst := some 28, op := Op.fieldAddr 138 (Operand.tmp 27) 0, type := 0, pos := "read.go:75", after := #[{ on := 1, ground := Ground.data }], guard := none }) (v := ?_) rfl (by kernel_rfl) (by kernel_rfl) (by kernel_rfl) (fun _ _ _ h => h) (Or.inl ⟨by rfl, ?_⟩) (by assumption) ?_
        rotate_left
        · (intro w hSw; (try dsimp only at hSw); go_simp; try with_reducible rfl)
        try simp only [Act.put, List.setIfInBounds_toArray, List.set_cons_zero, List.set_cons_succ]
        refine wpAnyH_take (i := 3) (oi := { dst := some 29, op := Op.load 50 (Operand.tmp 28), type := 50, pos := "read.go:75", after := #[{ on := 2, ground := Ground.data }], guard := none }) (v := ?_) rfl (by kernel_rfl) (by kernel_rfl) (by kernel_rfl) (fun _ _ _ h => h) (Or.inl ⟨by rfl, ?_⟩) (by assumption) ?_
        rotate_left
        · (intro w hSw; (try dsimp only at hSw); go_simp; try with_reducible rfl)
        try simp only [Act.put, List.setIfInBounds_toArray, List.set_cons_zero, List.set_cons_succ]
        refine wpAnyH_take (i := 4) (oi := { dst := some 30, op := Op.move (Operand.tmp 0), type := 90, pos := "read.go:75", after := #[], guard := none }) (v := ?_) rfl (by kernel_rfl) (by kernel_rfl) (by kernel_rfl) (fun _ _ _ h => h) (Or.inl ⟨by rfl, ?_⟩) (by assumption) ?_
        rotate_left
        · (intro w hSw; (try dsimp only at hSw); go_simp; try with_reducible rfl)
        try simp only [Act.put, List.setIfInBounds_toArray, List.set_cons_zero, List.set_cons_succ]
        refine wpAnyH_take (i := 5) (oi := { dst := some 31, op := Op.nilCheck (Operand.tmp 30), type := 0, pos := "read.go:75", after := #[{ on := 4, ground := Ground.data }], guard := none }) (v := ?_) rfl (by kernel_rfl) (by kernel_rfl) (by kernel_rfl) (fun _ _ _ h => h) (Or.inl ⟨by rfl, ?_⟩) (by assumption) ?_
        rotate_left
        · (intro w hSw; (try dsimp only at hSw); go_simp; try with_reducible rfl)
        try simp only [Act.put, List.setIfInBounds_toArray, List.set_cons_zero, List.set_cons_succ]
        refine wpAnyH_take (i := 6) (oi := { dst := some 32, op := Op.fieldAddr 138 (Operand.tmp 31) 2, type := 0, pos := "read.go:75", after := #[{ on := 5, ground := Ground.data }], guard := none }) (v := ?_) rfl (by kernel_rfl) (by kernel_rfl) (by kernel_rfl) (fun _ _ _ h => h) (Or.inl ⟨by rfl, ?_⟩) (by assumption) ?_
        rotate_left
        · (intro w hSw; (try dsimp only at hSw); go_simp; try with_reducible rfl)
        try simp only [Act.put, List.setIfInBounds_toArray, List.set_cons_zero, List.set_cons_succ]
        refine wpAnyH_take (i := 7) (oi := { dst := some 33, op := Op.load 3 (Operand.tmp 32), type := 3, pos := "read.go:75", after := #[{ on := 6, ground := Ground.data }], guard := none }) (v := ?_) rfl (by kernel_rfl) (by kernel_rfl) (by kernel_rfl) (fun _ _ _ h => h) (Or.inl ⟨by rfl, ?_⟩) (by assumption) ?_
        rotate_left
        · (intro w hSw; (try dsimp only at hSw); go_simp; try with_reducible rfl)
        try simp only [Act.put, List.setIfInBounds_toArray, List.set_cons_zero, List.set_cons_succ]
        refine wpAnyH_take (i := 8) (oi := { dst := some 34, op := Op.move (Operand.tmp 1), type := 23, pos := "read.go:75", after := #[], guard := none }) (v := ?_) rfl (by kernel_rfl) (by kernel_rfl) (by kernel_rfl) (fun _ _ _ h => h) (Or.inl ⟨by rfl, ?_⟩) (by assumption) ?_
        rotate_left
        · (intro w hSw; (try dsimp only at hSw); go_simp; try with_reducible rfl)
        try simp only [Act.put, List.setIfInBounds_toArray, List.set_cons_zero, List.set_cons_succ]
        refine wpAnyH_take (i := 9) (oi := { dst := some 35, op := Op.convert 23 3 (Operand.tmp 34), type := 3, pos := "read.go:75", after := #[{ on := 8, ground := Ground.data }], guard := none }) (v := ?_) rfl (by kernel_rfl) (by kernel_rfl) (by kernel_rfl) (fun _ _ _ h => h) (Or.inl ⟨by rfl, ?_⟩) (by assumption) ?_
        rotate_left
        · (intro w hSw; (try dsimp only at hSw); go_simp; try with_reducible rfl)
        try simp only [Act.put, List.setIfInBounds_toArray, List.set_cons_zero, List.set_cons_succ]
        refine wpAnyH_take (i := 10) (oi := { dst := some 36, op := Op.binOp BinOp.sub 3 (Operand.tmp 33) (Operand.tmp 35) 3, type := 3, pos := "read.go:75", after := #[{ on := 7, ground := Ground.data }, { on := 9, ground := Ground.data }], guard := none }) (v := ?_) rfl (by kernel_rfl) (by kernel_rfl) (by kernel_rfl) (fun _ _ _ h => h) (Or.inl ⟨by rfl, ?_⟩) (by assumption) ?_
        rotate_left
        · (intro w hSw; (try dsimp only at hSw); go_simp; try with_reducible rfl)
        try simp only [Act.put, List.setIfInBounds_toArray, List.set_cons_zero, List.set_cons_succ]
        refine wpAnyH_take (i := 11) (oi := { dst := some 37, op := Op.move (Operand.tmp 0), type := 90, pos := "read.go:75", after := #[], guard := none }) (v := ?_) rfl (by kernel_rfl) (by kernel_rfl) (by kernel_rfl) (fun _ _ _ h => h) (Or.inl ⟨by rfl, ?_⟩) (by assumption) ?_
        rotate_left
        · (intro w hSw; (try dsimp only at hSw); go_simp; try with_reducible rfl)
        try simp only [Act.put, List.setIfInBounds_toArray, List.set_cons_zero, List.set_cons_succ]
        refine wpAnyH_take (i := 12) (oi := { dst := some 38, op := Op.nilCheck (Operand.tmp 37), type := 0, pos := "read.go:75", after := #[{ on := 11, ground := Ground.data }], guard := none }) (v := ?_) rfl (by kernel_rfl) (by kernel_rfl) (by kernel_rfl) (fun _ _ _ h => h) (Or.inl ⟨by rfl, ?_⟩) (by assumption) ?_
        rotate_left
        · (intro w hSw; (try dsimp only at hSw); go_simp; try with_reducible rfl)
        try simp only [Act.put, List.setIfInBounds_toArray, List.set_cons_zero, List.set_cons_succ]
        refine wpAnyH_take (i := 13) (oi := { dst := some 39, op := Op.fieldAddr 138 (Operand.tmp 38) 2, type := 0, pos := "read.go:75", after := #[{ on := 12, ground := Ground.data }], guard := none }) (v := ?_) rfl (by kernel_rfl) (by kernel_rfl) (by kernel_rfl) (fun _ _ _ h => h) (Or.inl ⟨by rfl, ?_⟩) (by assumption) ?_
        rotate_left
        · (intro w hSw; (try dsimp only at hSw); go_simp; try with_reducible rfl)
        try simp only [Act.put, List.setIfInBounds_toArray, List.set_cons_zero, List.set_cons_succ]
        refine wpAnyH_take (i := 14) (oi := { dst := some 40, op := Op.load 3 (Operand.tmp 39), type := 3, pos := "read.go:75", after := #[{ on := 13, ground := Ground.data }], guard := none }) (v := ?_) rfl (by kernel_rfl) (by kernel_rfl) (by kernel_rfl) (fun _ _ _ h => h) (Or.inl ⟨by rfl, ?_⟩) (by assumption) ?_
        rotate_left
        · (intro w hSw; (try dsimp only at hSw); go_simp; try with_reducible rfl)
        try simp only [Act.put, List.setIfInBounds_toArray, List.set_cons_zero, List.set_cons_succ]
        refine wpAnyH_take (i := 15) (oi := { dst := some 41, op := Op.slice 50 (Operand.tmp 29) (some (Operand.tmp 36)) (some (Operand.tmp 40)) none, type := 50, pos := "read.go:75", after := #[{ on := 3, ground := Ground.data }, { on := 10, ground := Ground.data }, { on := 14, ground := Ground.data }], guard := none }) (v := ?_) rfl (by kernel_rfl) (by kernel_rfl) (by kernel_rfl) (fun _ _ _ h => h) (Or.inl ⟨by rfl, ?_⟩) (by assumption) ?_
        rotate_left
        · (intro w hSw; (try dsimp only at hSw); go_simp; try with_reducible rfl)
        try simp only [Act.put, List.setIfInBounds_toArray, List.set_cons_zero, List.set_cons_succ]
        refine wpAnyH_take (i := 16) (oi := { dst := some 42, op := Op.convert 50 9 (Operand.tmp 41), type := 9, pos := "read.go:75", after := #[{ on := 15, ground := Ground.data }], guard := none }) (v := ?_) rfl (by kernel_rfl) (by kernel_rfl) (by kernel_rfl) (fun _ _ _ h => h) (Or.inl ⟨by rfl, ?_⟩) (by assumption) ?_
        rotate_left
        · (intro w hSw; (try dsimp only at hSw); go_simp; try with_reducible rfl)
        try simp only [Act.put, List.setIfInBounds_toArray, List.set_cons_zero, List.set_cons_succ]
        refine wpAnyH_take (i := 17) (oi := { dst := some 4, op := Op.assign (Operand.tmp 42), type := 9, pos := "read.go:75", after := #[{ on := 16, ground := Ground.data }, { on := 0, ground := Ground.phase }, { on := 1, ground := Ground.phase }, { on := 2, ground := Ground.phase }, { on := 3, ground := Ground.phase }, { on := 4, ground := Ground.phase }, { on := 5, ground := Ground.phase }, { on := 6, ground := Ground.phase }, { on := 7, ground := Ground.phase }, { on := 8, ground := Ground.phase }, { on := 9, ground := Ground.phase }, { on := 10, ground := Ground.phase }, { on := 11, ground := Ground.phase }, { on := 12, ground := Ground.phase }, { on := 13, ground := Ground.phase }, { on := 14, ground := Ground.phase }, { on := 15, ground := Ground.phase }, { on := 16, ground := Ground.phase }], guard := none }) (v := ?_) rfl (by kernel_rfl) (by kernel_rfl) (by kernel_rfl) (fun _ _ _ h => h) (Or.inl ⟨by rfl, ?_⟩) (by assumption) ?_
        rotate_left
        · (intro w hSw; (try dsimp only at hSw); go_simp; try with_reducible rfl)
        try simp only [Act.put, List.setIfInBounds_toArray, List.set_cons_zero, List.set_cons_succ]
        refine wpAnyH_done (by kernel_rfl) ?_ _
        refine NoPanic.normal ?_
        generalize (if c = p then A else Option.map (fun x => x.add p) A) = V
        go_wp2_with fail
        go_ret
        have := HE.out
        subst this
        exact ⟨rfl, (R3.out).1.heap rfl, grown_trans (R3.out).2 (grown_drew _ _)⟩
      · have hp0 : ¬ c = p := by omega
        have hq1 : (0 : Int) ≤ (p : Int) + U := by omega
        have hq2 : (p : Int) + U ≤ c := by omega
        have hq3 : ((p : Int) + U).toNat = p + U := by omega
        obtain ⟨X, hX, _⟩ := (HB.out).di.at' p (l[p]'(by omega)) (List.getElem?_eq_getElem (by omega))
        subst hX
        have hstr : ∀ W' : World, Below W.heap.size W W' → ∀ m : Nat, (convert 50 9 (.slice (some (X.add p)) U m)).run Try.prog W' = .ok (.string (strOf ((l.drop p).take U))) W' := fun W' hW' m => by
          refine str_arg (fun j u hu => ?_) U m (by rw [List.length_take, List.length_drop]; omega)
          rw [List.getElem?_map] at hu
          obtain ⟨x, hx, rfl⟩ := Option.map_eq_some_iff.1 hu
          rw [List.getElem?_take] at hx
          split at hx
          · rw [List.getElem?_drop] at hx
            obtain ⟨X', e, hc⟩ := (HB.out).di.at' _ _ hx
            cases e
            rw [addr_add]
            exact cellW hc hW'
          · cases hx
        refine wp_region_noPanic ?_
        refine wp_region_held_drew (S := (fun W => W.cell? ⟨b, 0, none⟩ = some (.slice (some X) n c) ∧ W.cell? ⟨b, 2, none⟩ = some (.int .i64 ((p : Int) + U)) ∧ ∀ (m : Nat), (convert 50 9 (.slice (some (X.add p)) U m)).run Try.prog W = .ok (.string (strOf ((l.drop p).take U))) W)) (by kernel_rfl) ?_ (fun hHeld => ?_)
        · exact ⟨hd0, hd2, hstr _ (BD.out).drew⟩
        refine wpAnyH_take (i := 0) (oi := { dst := some 26, op := Op.move (Operand.tmp 0), type := 90, pos := "read.go:75", after := #[], guard := none }) (v := ?_) rfl (by kernel_rfl) (by kernel_rfl) (by kernel_rfl) (fun _ _ _ h => h) (Or.inl ⟨by rfl, ?_⟩) (by assumption) ?_
        rotate_left
        · (intro w hSw; (try dsimp only at hSw); go_simp; try with_reducible rfl)
        try simp only [Act.put, List.setIfInBounds_toArray, List.set_cons_zero, List.set_cons_succ]
        refine wpAnyH_take (i := 1) (oi := { dst := some 27, op := Op.nilCheck (Operand.tmp 26), type := 0, pos := "read.go:75", after := #[{ on := 0, ground := Ground.data }], guard := none }) (v := ?_) rfl (by kernel_rfl) (by kernel_rfl) (by kernel_rfl) (fun _ _ _ h => h) (Or.inl ⟨by rfl, ?_⟩) (by assumption) ?_
        rotate_left
        · (intro w hSw; (try dsimp only at hSw); go_simp; try with_reducible rfl)
        try simp only [Act.put, List.setIfInBounds_toArray, List.set_cons_zero, List.set_cons_succ]
        refine wpAnyH_take (i := 2) (oi := { dst := some 28, op := Op.fieldAddr 138 (Operand.tmp 27) 0, type := 0, pos := "read.go:75", after := #[{ on := 1, ground := Ground.data }], guard := none }) (v := ?_) rfl (by kernel_rfl) (by kernel_rfl) (by kernel_rfl) (fun _ _ _ h => h) (Or.inl ⟨by rfl, ?_⟩) (by assumption) ?_
        rotate_left
        · (intro w hSw; (try dsimp only at hSw); go_simp; try with_reducible rfl)
        try simp only [Act.put, List.setIfInBounds_toArray, List.set_cons_zero, List.set_cons_succ]
        refine wpAnyH_take (i := 3) (oi := { dst := some 29, op := Op.load 50 (Operand.tmp 28), type := 50, pos := "read.go:75", after := #[{ on := 2, ground := Ground.data }], guard := none }) (v := ?_) rfl (by kernel_rfl) (by kernel_rfl) (by kernel_rfl) (fun _ _ _ h => h) (Or.inl ⟨by rfl, ?_⟩) (by assumption) ?_
        rotate_left
        · (intro w hSw; (try dsimp only at hSw); go_simp; try with_reducible rfl)
        try simp only [Act.put, List.setIfInBounds_toArray, List.set_cons_zero, List.set_cons_succ]
        refine wpAnyH_take (i := 4) (oi := { dst := some 30, op := Op.move (Operand.tmp 0), type := 90, pos := "read.go:75", after := #[], guard := none }) (v := ?_) rfl (by kernel_rfl) (by kernel_rfl) (by kernel_rfl) (fun _ _ _ h => h) (Or.inl ⟨by rfl, ?_⟩) (by assumption) ?_
        rotate_left
        · (intro w hSw; (try dsimp only at hSw); go_simp; try with_reducible rfl)
        try simp only [Act.put, List.setIfInBounds_toArray, List.set_cons_zero, List.set_cons_succ]
        refine wpAnyH_take (i := 5) (oi := { dst := some 31, op := Op.nilCheck (Operand.tmp 30), type := 0, pos := "read.go:75", after := #[{ on := 4, ground := Ground.data }], guard := none }) (v := ?_) rfl (by kernel_rfl) (by kernel_rfl) (by kernel_rfl) (fun _ _ _ h => h) (Or.inl ⟨by rfl, ?_⟩) (by assumption) ?_
        rotate_left
        · (intro w hSw; (try dsimp only at hSw); go_simp; try with_reducible rfl)
        try simp only [Act.put, List.setIfInBounds_toArray, List.set_cons_zero, List.set_cons_succ]
        refine wpAnyH_take (i := 6) (oi := { dst := some 32, op := Op.fieldAddr 138 (Operand.tmp 31) 2, type := 0, pos := "read.go:75", after := #[{ on := 5, ground := Ground.data }], guard := none }) (v := ?_) rfl (by kernel_rfl) (by kernel_rfl) (by kernel_rfl) (fun _ _ _ h => h) (Or.inl ⟨by rfl, ?_⟩) (by assumption) ?_
        rotate_left
        · (intro w hSw; (try dsimp only at hSw); go_simp; try with_reducible rfl)
        try simp only [Act.put, List.setIfInBounds_toArray, List.set_cons_zero, List.set_cons_succ]
        refine wpAnyH_take (i := 7) (oi := { dst := some 33, op := Op.load 3 (Operand.tmp 32), type := 3, pos := "read.go:75", after := #[{ on := 6, ground := Ground.data }], guard := none }) (v := ?_) rfl (by kernel_rfl) (by kernel_rfl) (by kernel_rfl) (fun _ _ _ h => h) (Or.inl ⟨by rfl, ?_⟩) (by assumption) ?_
        rotate_left
        · (intro w hSw; (try dsimp only at hSw); go_simp; try with_reducible rfl)
        try simp only [Act.put, List.setIfInBounds_toArray, List.set_cons_zero, List.set_cons_succ]
        refine wpAnyH_take (i := 8) (oi := { dst := some 34, op := Op.move (Operand.tmp 1), type := 23, pos := "read.go:75", after := #[], guard := none }) (v := ?_) rfl (by kernel_rfl) (by kernel_rfl) (by kernel_rfl) (fun _ _ _ h => h) (Or.inl ⟨by rfl, ?_⟩) (by assumption) ?_
        rotate_left
        · (intro w hSw; (try dsimp only at hSw); go_simp; try with_reducible rfl)
        try simp only [Act.put, List.setIfInBounds_toArray, List.set_cons_zero, List.set_cons_succ]
        refine wpAnyH_take (i := 9) (oi := { dst := some 35, op := Op.convert 23 3 (Operand.tmp 34), type := 3, pos := "read.go:75", after := #[{ on := 8, ground := Ground.data }], guard := none }) (v := ?_) rfl (by kernel_rfl) (by kernel_rfl) (by kernel_rfl) (fun _ _ _ h => h) (Or.inl ⟨by rfl, ?_⟩) (by assumption) ?_
        rotate_left
        · (intro w hSw; (try dsimp only at hSw); go_simp; try with_reducible rfl)
        try simp only [Act.put, List.setIfInBounds_toArray, List.set_cons_zero, List.set_cons_succ]
        refine wpAnyH_take (i := 10) (oi := { dst := some 36, op := Op.binOp BinOp.sub 3 (Operand.tmp 33) (Operand.tmp 35) 3, type := 3, pos := "read.go:75", after := #[{ on := 7, ground := Ground.data }, { on := 9, ground := Ground.data }], guard := none }) (v := ?_) rfl (by kernel_rfl) (by kernel_rfl) (by kernel_rfl) (fun _ _ _ h => h) (Or.inl ⟨by rfl, ?_⟩) (by assumption) ?_
        rotate_left
        · (intro w hSw; (try dsimp only at hSw); go_simp; try with_reducible rfl)
        try simp only [Act.put, List.setIfInBounds_toArray, List.set_cons_zero, List.set_cons_succ]
        refine wpAnyH_take (i := 11) (oi := { dst := some 37, op := Op.move (Operand.tmp 0), type := 90, pos := "read.go:75", after := #[], guard := none }) (v := ?_) rfl (by kernel_rfl) (by kernel_rfl) (by kernel_rfl) (fun _ _ _ h => h) (Or.inl ⟨by rfl, ?_⟩) (by assumption) ?_
        rotate_left
        · (intro w hSw; (try dsimp only at hSw); go_simp; try with_reducible rfl)
        try simp only [Act.put, List.setIfInBounds_toArray, List.set_cons_zero, List.set_cons_succ]
        refine wpAnyH_take (i := 12) (oi := { dst := some 38, op := Op.nilCheck (Operand.tmp 37), type := 0, pos := "read.go:75", after := #[{ on := 11, ground := Ground.data }], guard := none }) (v := ?_) rfl (by kernel_rfl) (by kernel_rfl) (by kernel_rfl) (fun _ _ _ h => h) (Or.inl ⟨by rfl, ?_⟩) (by assumption) ?_
        rotate_left
        · (intro w hSw; (try dsimp only at hSw); go_simp; try with_reducible rfl)
        try simp only [Act.put, List.setIfInBounds_toArray, List.set_cons_zero, List.set_cons_succ]
        refine wpAnyH_take (i := 13) (oi := { dst := some 39, op := Op.fieldAddr 138 (Operand.tmp 38) 2, type := 0, pos := "read.go:75", after := #[{ on := 12, ground := Ground.data }], guard := none }) (v := ?_) rfl (by kernel_rfl) (by kernel_rfl) (by kernel_rfl) (fun _ _ _ h => h) (Or.inl ⟨by rfl, ?_⟩) (by assumption) ?_
        rotate_left
        · (intro w hSw; (try dsimp only at hSw); go_simp; try with_reducible rfl)
        try simp only [Act.put, List.setIfInBounds_toArray, List.set_cons_zero, List.set_cons_succ]
        refine wpAnyH_take (i := 14) (oi := { dst := some 40, op := Op.load 3 (Operand.tmp 39), type := 3, pos := "read.go:75", after := #[{ on := 13, ground := Ground.data }], guard := none }) (v := ?_) rfl (by kernel_rfl) (by kernel_rfl) (by kernel_rfl) (fun _ _ _ h => h) (Or.inl ⟨by rfl, ?_⟩) (by assumption) ?_
        rotate_left
        · (intro w hSw; (try dsimp only at hSw); go_simp; try with_reducible rfl)
        try simp only [Act.put, List.setIfInBounds_toArray, List.set_cons_zero, List.set_cons_succ]
        refine wpAnyH_take (i := 15) (oi := { dst := some 41, op := Op.slice 50 (Operand.tmp 29) (some (Operand.tmp 36)) (some (Operand.tmp 40)) none, type := 50, pos := "read.go:75", after := #[{ on := 3, ground := Ground.data }, { on := 10, ground := Ground.data }, { on := 14, ground := Ground.data }], guard := none }) (v := ?_) rfl (by kernel_rfl) (by kernel_rfl) (by kernel_rfl) (fun _ _ _ h => h) (Or.inl ⟨by rfl, ?_⟩) (by assumption) ?_
        rotate_left
        · (intro w hSw; (try dsimp only at hSw); go_simp; try with_reducible rfl)
        try simp only [Act.put, List.setIfInBounds_toArray, List.set_cons_zero, List.set_cons_succ]
        refine wpAnyH_take (i := 16) (oi := { dst := some 42, op := Op.convert 50 9 (Operand.tmp 41), type := 9, pos := "read.go:75", after := #[{ on := 15, ground := Ground.data }], guard := none }) (v := ?_) rfl (by kernel_rfl) (by kernel_rfl) (by kernel_rfl) (fun _ _ _ h => h) (Or.inl ⟨by rfl, ?_⟩) (by assumption) ?_
        rotate_left
        · (intro w hSw; (try dsimp only at hSw); go_simp; try with_reducible rfl)
        try simp only [Act.put, List.setIfInBounds_toArray, List.set_cons_zero, List.set_cons_succ]
        refine wpAnyH_take (i := 17) (oi := { dst := some 4, op := Op.assign (Operand.tmp 42), type := 9, pos := "read.go:75", after := #[{ on := 16, ground := Ground.data }, { on := 0, ground := Ground.phase }, { on := 1, ground := Ground.phase }, { on := 2, ground := Ground.phase }, { on := 3, ground := Ground.phase }, { on := 4, ground := Ground.phase }, { on := 5, ground := Ground.phase }, { on := 6, ground := Ground.phase }, { on := 7, ground := Ground.phase }, { on := 8, ground := Ground.phase }, { on := 9, ground := Ground.phase }, { on := 10, ground := Ground.phase }, { on := 11, ground := Ground.phase }, { on := 12, ground := Ground.phase }, { on := 13, ground := Ground.phase }, { on := 14, ground := Ground.phase }, { on := 15, ground := Ground.phase }, { on := 16, ground := Ground.phase }], guard := none }) (v := ?_) rfl (by kernel_rfl) (by kernel_rfl) (by kernel_rfl) (fun _ _ _ h => h) (Or.inl ⟨by rfl, ?_⟩) (by assumption) ?_
        rotate_left
        · (intro w hSw; (try dsimp only at hSw); go_simp; try with_reducible rfl)
        try simp only [Act.put, List.setIfInBounds_toArray, List.set_cons_zero, List.set_cons_succ]
        refine wpAnyH_done (by kernel_rfl) ?_ _
        refine NoPanic.normal ?_
        go_wp2_with fail
        go_ret
        have := HE.out
        subst this
        exact ⟨rfl, (R3.out).1.heap rfl, grown_trans (R3.out).2 (grown_drew _ _)⟩
    · have HE : Hid (R = ([], p, 5)) := Lib.hid (by have := HQ.out; unfold rtext at this; rw [if_pos rfl, if_neg (by rw [hln]; exact hlt)] at this; exact this.symm)
      have g1 : decide ((U : Int) ≤ (n : Int) - p) = false := by simp; omega
      go_enter Try.func64, Try.ntmps64
      go_wp2_with fail
      refine (Try.leftI HB.out ((n : Int) - p) (by rw [if_pos rfl])).mono ?_
      rintro y1 w1 ⟨rfl, r1⟩
      have R1 := Lib.hid r1
      clear r1
      go_wp2_with fail
      refine (Try.rneed (R1.out).1 false 5 5 (by simp)).mono ?_
      rintro y2 w2 ⟨rfl, r2⟩
      have R2 := Lib.hid ((R1.out).trans r2)
      have h3 := r2.1.c3
      clear r2 R1
      go_wp2_with fail
      go_ret
      have := HE.out
      subst this
      exact ⟨rfl, R2.out⟩
  · have g := dec_ne he
    have g' : (e == 0) = false := by simpa using he
    have HE : Hid (R = ([], p, e)) := Lib.hid (by have := HQ.out; unfold rtext at this; rw [if_neg he] at this; exact this.symm)
    have HL := Lib.hid (show (if e = 0 then (n : Int) - p else 0) = 0 by rw [if_neg he])
    have HN := Lib.hid he
    obtain ⟨ok, hok⟩ : ∃ ok, decide ((U : Int) ≤ 0) = ok := ⟨_, rfl⟩
    have hok' : decide (U = 0) = ok := by rw [← hok]; simp
    clear he
    go_enter Try.func64, Try.ntmps64
    go_wp2_with fail
    refine (Try.leftI HB.out 0 HL.out).mono ?_
    rintro y1 w1 ⟨rfl, r1⟩
    have R1 := Lib.hid r1
    clear r1
    go_wp2_with fail
    refine (Try.need_no (R1.out).1 HN ok 5).mono ?_
    rintro y2 w2 ⟨rfl, r2⟩
    have R2 := Lib.hid ((R1.out).trans r2)
    have h3 := r2.1.c3
    clear r2 R1
    go_wp2_with fail
    go_ret
    have := HE.out
    subst this
    exact ⟨rfl, R2.out⟩
end Go.Proofs.Ytfblhcphbcghpaa
end

section
namespace Go.Proofs.Ytfblhcphbcghpaa
open Go.RowKit
set_option maxRecDepth 100000
theorem isName_eq (s : List UInt8) : isName s = true ↔ 1 ≤ s.length ∧ s.length ≤ 8 ∧ ∀ c ∈ s, 97 ≤ c.toNat ∧ c.toNat ≤ 122 := by
  simp [isName, and_assoc]
set_option maxHeartbeats 2000000 in
theorem Try.isName1 (w : World) (s : List UInt8) (hs : s.length ≤ 60000) :
    Calls Try.prog 57 #[.string (strOf s)] w fun x w' => x = .returned (.bool (isName s)) ∧ w' = w := by
  obtain ⟨R, hR⟩ : ∃ R, isName s = R := ⟨_, rfl⟩
  rw [hR]
  have HR := Lib.hid hR
  have hz := strOf_size s
  clear hR
  by_cases h1 : s.length < 1
  · have g1 : decide ((s.length : Int) < 1) = true := decide_eq_true (by omega)
    have g1' : decide (s.length < 1) = true := decide_eq_true (by omega)
    have HE : Hid (R = false) := Lib.hid (by rw [← HR.out]; apply Bool.eq_false_iff.2; intro h; have := ((isName_eq s).1 h).1; omega)
    clear h1
    go_enter Try.func57, Try.ntmps57
    go_wp2_with fail
    go_ret
    have := HE.out
    subst this
    exact ⟨rfl, rfl⟩
  · have g1 : decide ((s.length : Int) < 1) = false := decide_eq_false (by omega)
    have g1' : decide (s.length < 1) = false := decide_eq_false (by omega)
    by_cases h2 : 8 < s.length
    · have g2 : decide ((8 : Int) < (s.length : Int)) = true := decide_eq_true (by omega)
      have g2' : decide (8 < s.length) = true := decide_eq_true (by omega)
      have HE : Hid (R = false) := Lib.hid (by rw [← HR.out]; apply Bool.eq_false_iff.2; intro h; have := ((isName_eq s).1 h).2.1; omega)
      clear h1 h2
      go_enter Try.func57, Try.ntmps57
      go_wp2_with fail
      go_ret
      have := HE.out
      subst this
      exact ⟨rfl, rfl⟩
    · have g2 : decide ((8 : Int) < (s.length : Int)) = false := decide_eq_false (by omega)
      have g2' : decide (8 < s.length) = false := decide_eq_false (by omega)
      have HL := Lib.hid h1
      have HL2 := Lib.hid h2
      clear h1 h2
      go_enter Try.func57, Try.ntmps57
      go_wp2_with fail
      go_loop [3, 14] (fun tt t => ∃ i : Nat, i ≤ s.length ∧ t = .int .i64 i ∧ ∀ j x, j < i → s[j]? = some x → 97 ≤ x.toNat ∧ x.toNat ≤ 122) (fun _ t => s.length - (intOf t).toNat)
      case atStart => exact ⟨0, Nat.zero_le _, rfl, fun j x hj => absurd hj (Nat.not_lt_zero _)⟩
      case round =>
        obtain ⟨i, hi, rfl, hj⟩ := hrel
        have HJ := Lib.hid hj
        clear hj
        by_cases hlt : i < s.length
        · have hD : decide ((i : Int) < (s.length : Int)) = true := decide_eq_true (by omega)
          have hD' : decide (i < s.length) = true := decide_eq_true (by omega)
          obtain ⟨x, hx⟩ : ∃ x, s[i]? = some x := ⟨_, List.getElem?_eq_getElem hlt⟩
          have HX := Lib.hid hx
          have hsx : s[i] = x := by
            rw [List.getElem?_eq_getElem hlt] at hx; exact Option.some.inj hx
          obtain ⟨y, hy⟩ : ∃ y, x.toNat = y := ⟨_, rfl⟩
          have hsi : i < (strOf s).size := by rw [strOf_size]; exact hlt
          have hidx : (strOf s)[i]'hsi = x := by rw [← hsx]; rfl
          by_cases hl : y < 97
          · have c1 : decide ((y : Int) < 97) = true := decide_eq_true (by omega)
            have c1' : decide (y < 97) = true := decide_eq_true (by omega)
            have HE : Hid (R = false) := Lib.hid (by
              rw [← HR.out]
              apply Bool.eq_false_iff.2
              intro h
              have := ((isName_eq s).1 h).2.2 x (by rw [← hsx]; exact List.getElem_mem _)
              omega)
            clear hx hsx
            try clear hl
            try clear hh
            go_wp2_with fail
            go_ret
            have := HE.out
            subst this
            exact ⟨rfl, rfl⟩
          · have c1 : decide ((y : Int) < 97) = false := decide_eq_false (by omega)
            have c1' : decide (y < 97) = false := decide_eq_false (by omega)
            by_cases hh : 122 < y
            · have c2 : decide ((122 : Int) < y) = true := decide_eq_true (by omega)
              have c2' : decide (122 < y) = true := decide_eq_true (by omega)
              have HE : Hid (R = false) := Lib.hid (by
                rw [← HR.out]
                apply Bool.eq_false_iff.2
                intro h
                have := ((isName_eq s).1 h).2.2 x (by rw [← hsx]; exact List.getElem_mem _)
                omega)
              clear hx hsx
              try clear hl
              try clear hh
              go_wp2_with fail
              go_ret
              have := HE.out
              subst this
              exact ⟨rfl, rfl⟩
            · have c2 : decide ((122 : Int) < y) = false := decide_eq_false (by omega)
              have c2' : decide (122 < y) = false := decide_eq_false (by omega)
              have HN : Hid (∀ j x, j < i + 1 → s[j]? = some x → 97 ≤ x.toNat ∧ x.toNat ≤ 122) := Lib.hid (by
                intro j z hj hz
                by_cases hji : j = i
                · subst hji
                  rw [hx] at hz
                  cases hz
                  omega
                · exact HJ.out j z (by omega) hz)
              clear hx hsx hl hh
              go_wp2_with fail
              exact ⟨⟨i + 1, by omega, rfl, HN.out⟩, by simp [intOf]; omega⟩
        · obtain rfl : i = s.length := by omega
          have hD : decide ((s.length : Int) < (s.length : Int)) = false := by simp
          have hD' : decide (s.length < s.length) = false := by simp
          have HE : Hid (R = true) := Lib.hid (by
            rw [← HR.out]
            refine (isName_eq s).2 ⟨by have := HL.out; omega, by have := HL2.out; omega, fun c hc => ?_⟩
            obtain ⟨j, hj, hjc⟩ := List.mem_iff_getElem.1 hc
            exact HJ.out j c hj (by rw [List.getElem?_eq_getElem hj, hjc]))
          go_wp2_with fail
          go_ret
          have := HE.out
          subst this
          exact ⟨rfl, rfl⟩
end Go.Proofs.Ytfblhcphbcghpaa
end

section
namespace Go.Proofs.Ytfblhcphbcghpaa
open Go.RowKit
set_option maxRecDepth 100000
structure CR (w : World) (A : Option Addr) (n c : Nat) (cs : List (List UInt8 × Int)) : Prop where
  len : cs.length = n
  le : n ≤ c
  max : c ≤ maxLen
  at' : ∀ j q, cs[j]? = some q → ∃ b, A = some ⟨b, 0, none⟩ ∧ w.cell? ⟨b, j * 2, none⟩ = some (.string (strOf q.1)) ∧ w.cell? ⟨b, j * 2 + 1, none⟩ = some (.int .i64 q.2)
theorem CR.below {w w' : World} {A : Option Addr} {n c : Nat} {cs : List (List UInt8 × Int)} (h : CR w A n c cs) (hb : Below w.heap.size w w') : CR w' A n c cs :=
  ⟨h.len, h.le, h.max, fun j q hj => by obtain ⟨X, e, h1, h2⟩ := h.at' j q hj; exact ⟨X, e, cellW h1 hb, cellW h2 hb⟩⟩
theorem CR.take {w : World} {A : Option Addr} {n c : Nat} {cs : List (List UInt8 × Int)} (h : CR w A n c cs) (i : Nat) (hi : i ≤ n) : CR w A i c (cs.take i) :=
  ⟨by rw [List.length_take, h.len]; omega, by have := h.le; omega, h.max, fun j q hj => by
    rw [List.getElem?_take] at hj
    split at hj
    · exact h.at' j q hj
    · cases hj⟩
theorem mem_fst {cs : List (List UInt8 × Int)} {nm : List UInt8} : nm ∈ cs.map Prod.fst ↔ ∃ (j : Nat) (q : List UInt8 × Int), cs[j]? = some q ∧ q.1 = nm := by
  constructor
  · intro h
    obtain ⟨q, hq, e⟩ := List.mem_map.1 h
    obtain ⟨j, hj, e2⟩ := List.mem_iff_getElem.1 hq
    exact ⟨j, q, by rw [List.getElem?_eq_getElem hj, e2], e⟩
  · rintro ⟨j, q, hq, rfl⟩
    exact List.mem_map.2 ⟨q, List.mem_of_getElem? hq, rfl⟩
def FindP (nm : List UInt8) (cs : List (List UInt8 × Int)) (x : Ending) : Prop := ∃ k : Int, x = .returned (.tuple #[.int .i64 k, .bool (decide (nm ∈ cs.map Prod.fst))])
set_option maxHeartbeats 4000000 in
theorem Try.find (w : World) (A : Option Addr) (n c : Nat) (cs : List (List UInt8 × Int)) (hC : CR w A n c cs) (hn : n ≤ 60000) (nm : List UInt8) :
    Calls Try.prog 58 #[.slice A n c, .string (strOf nm)] w fun x w' => FindP nm cs x ∧ w' = w := by
  unfold FindP
  obtain ⟨R, hR⟩ : ∃ R, decide (nm ∈ cs.map Prod.fst) = R := ⟨_, rfl⟩
  rw [hR]
  have HR := Lib.hid hR
  have HC := Lib.hid hC
  have hlc := hC.le
  clear hR hC
  go_enter Try.func58, Try.ntmps58
  go_wp2_with fail
  refine wp_scope_once 0 (fun a' wr => wr = w ∧ ∃ i : Nat, i ≤ n ∧ (∀ (j : Nat) (q : List UInt8 × Int), j < i → cs[j]? = some q → q.1 ≠ nm) ∧ ∃ u2 u3 u7 u8 u9 u10 u11 u12 u13 u14 u15 u16 u17 u18 u19 u20 : Value, a' = { tmps := #[.slice A n c, .string (strOf nm), u2, u3, .int .i64 0, .bool false, .int .i64 i, u7, u8, u9, u10, u11, u12, u13, u14, u15, u16, u17, u18, u19, u20], defers := [] }) (fun a' _ => n - (intOf (a'.tmps.getD 6 undef)).toNat) rfl ?_ ?_
  · intro hL
    go_wp2_with (refine wp_label ?_; rename_i Q0 K0 hK; refine hK _ _ (hL _ _ ?_); exact ⟨rfl, 0, by omega, fun j q hj => absurd hj (Nat.not_lt_zero _), _, _, _, _, _, _, _, _, _, _, _, _, _, _, _, _, rfl⟩)
  · rintro a' wr ⟨rfl, i, hi, hj, u2, u3, u7, u8, u9, u10, u11, u12, u13, u14, u15, u16, u17, u18, u19, u20, rfl⟩
    have HJ := Lib.hid hj
    clear hj
    by_cases hlt : i < n
    · obtain ⟨q, hq⟩ : ∃ q, cs[i]? = some q := ⟨_, List.getElem?_eq_getElem (by rw [HC.out.len]; exact hlt)⟩
      obtain ⟨X, hX, hc1, _⟩ := (HC.out).at' _ _ hq
      subst hX
      have HQ := Lib.hid hq
      have e1 : decide ((i : Int) = n) = false := decide_eq_false (by omega)
      have e1' : ((i : Int) == n) = false := by simpa using e1
      obtain ⟨qn, hqn⟩ : ∃ qn, q.1 = qn := ⟨_, rfl⟩
      rw [hqn] at hc1
      have HN := Lib.hid hqn
      by_cases hs : qn = nm
      · have HE : Hid (R = true) := Lib.hid (by rw [← HR.out]; exact decide_eq_true (mem_fst.2 ⟨i, q, hq, by rw [hqn, hs]⟩))
        have d1 : ((strOf qn).toList == (strOf nm).toList) = true := by rw [str_eq]; exact decide_eq_true hs
        clear hs hq hqn
        go_wp2_with fail
        simp only [Exit.jump]
        go_ret2
        have := HE.out
        subst this
        exact ⟨⟨_, rfl⟩, rfl⟩
      · have HN2 : Hid (∀ (j : Nat) (q : List UInt8 × Int), j < i + 1 → cs[j]? = some q → q.1 ≠ nm) := Lib.hid (by
          intro j q' hji hq'
          by_cases hji2 : j = i
          · subst hji2
            rw [hq] at hq'
            cases hq'
            rw [hqn]; exact hs
          · exact HJ.out j q' (by omega) hq')
        have d1 : ((strOf qn).toList == (strOf nm).toList) = false := by rw [str_eq]; exact decide_eq_false hs
        clear hs hq hqn
        go_wp2_with fail
        go_step3
        exact ⟨rfl, ⟨rfl, i + 1, by omega, HN2.out, _, _, _, _, _, _, _, _, _, _, _, _, _, _, _, _, rfl⟩, by simp [intOf]; omega⟩
    · obtain rfl : i = n := by omega
      have e1 : decide ((i : Int) = i) = true := decide_eq_true rfl
      have HE : Hid (R = false) := Lib.hid (by
        rw [← HR.out]
        refine decide_eq_false fun h => ?_
        obtain ⟨j, q, hq, e⟩ := mem_fst.1 h
        have : j < i := by
          have := (List.getElem?_eq_some_iff.1 hq).1
          rwa [HC.out.len] at this
        exact HJ.out j q this hq e)
      go_wp2_with fail
      simp only [Exit.jump]
      go_ret2
      have := HE.out
      subst this
      exact ⟨⟨_, rfl⟩, rfl⟩
end Go.Proofs.Ytfblhcphbcghpaa
end

section
namespace Go.Proofs.Ytfblhcphbcghpaa
open Go.RowKit
set_option maxRecDepth 100000
theorem chkAt_get {cs : List (List UInt8 × Int)} {i : Nat} {q : List UInt8 × Int} (h : cs[i]? = some q) : cs.getD i ([], 0) = q := by rw [List.getD_eq_getElem?_getD, h]; rfl
theorem chkAt_name {cs : List (List UInt8 × Int)} {i : Nat} {q : List UInt8 × Int} (h : cs[i]? = some q) (hn : isName q.1 = false) : chkAt cs i = 3 := by
  unfold chkAt; rw [chkAt_get h, hn]; rfl
theorem chkAt_twice {cs : List (List UInt8 × Int)} {i : Nat} {q : List UInt8 × Int} (h : cs[i]? = some q) (hn : isName q.1 = true) (ht : decide (q.1 ∈ (cs.take i).map Prod.fst) = true) : chkAt cs i = 7 := by
  unfold chkAt; rw [chkAt_get h, if_pos hn, if_pos (of_decide_eq_true ht)]
theorem chkAt_kind {cs : List (List UInt8 × Int)} {i : Nat} {q : List UInt8 × Int} (h : cs[i]? = some q) (hn : isName q.1 = true) (ht : decide (q.1 ∈ (cs.take i).map Prod.fst) = false) : chkAt cs i = if 1 ≤ q.2 ∧ q.2 ≤ 3 then 0 else 6 := by
  unfold chkAt; rw [chkAt_get h, if_pos hn, if_neg (of_decide_eq_false ht)]
set_option maxHeartbeats 4000000 in
theorem Try.check (w : World) (A : Option Addr) (n c : Nat) (cs : List (List UInt8 × Int)) (hC : CR w A n c cs) (hnm : ∀ (j : Nat) (q : List UInt8 × Int), cs[j]? = some q → q.1.length ≤ 60000) :
    Calls Try.prog 26 #[.slice A n c] w fun x w' => x = .returned (.int .i64 (chk cs)) ∧ Below w.heap.size w w' := by
  obtain ⟨R, hR⟩ : ∃ R, chk cs = R := ⟨_, rfl⟩
  rw [hR]
  have HR := Lib.hid hR
  have HC := Lib.hid hC
  have HNM := Lib.hid hnm
  have hlc := hC.le
  clear hR hC hnm
  by_cases h1 : n < 1 ∨ 8 < n
  · have HE : Hid (R = 4) := Lib.hid (by rw [← HR.out]; unfold chk; rw [if_neg]; rw [HC.out.len]; omega)
    by_cases h2 : n < 1
    · have g1 : decide ((n : Int) < 1) = true := decide_eq_true (by omega)
      have g1' : decide (n < 1) = true := decide_eq_true h2
      clear h1 h2
      go_enter Try.func26, Try.ntmps26
      go_wp2_with fail
      go_ret
      have := HE.out
      subst this
      exact ⟨rfl, Below.refl _ _⟩
    · have g1 : decide ((n : Int) < 1) = false := decide_eq_false (by omega)
      have g1' : decide (n < 1) = false := decide_eq_false h2
      have g2 : decide ((8 : Int) < n) = true := decide_eq_true (by omega)
      have g2' : decide (8 < n) = true := decide_eq_true (by omega)
      clear h1 h2
      go_enter Try.func26, Try.ntmps26
      go_wp2_with fail
      go_ret
      have := HE.out
      subst this
      exact ⟨rfl, Below.refl _ _⟩
  · have HL : Hid (1 ≤ cs.length ∧ cs.length ≤ 8) := Lib.hid (by rw [HC.out.len]; omega)
    have hn8 : n ≤ 8 := by omega
    have g1 : decide ((n : Int) < 1) = false := decide_eq_false (by omega)
    have g1' : decide (n < 1) = false := decide_eq_false (by omega)
    have g2 : decide ((8 : Int) < n) = false := decide_eq_false (by omega)
    have g2' : decide (8 < n) = false := decide_eq_false (by omega)
    clear h1
    go_enter Try.func26, Try.ntmps26
    go_wp2_with fail
    go_loopw [3, 4, 5, 6, 17] (fun a3 a4 a5 a6 t wr => ∃ i : Nat, i ≤ n ∧ t = .int .i64 i ∧ chkTo cs i = 0 ∧ Below w.heap.size w wr) (fun _ _ _ _ t _ => n - (intOf t).toNat)
    case atStart => exact ⟨0, Nat.zero_le _, rfl, rfl, Below.refl _ _⟩
    case round =>
      obtain ⟨i, hi, rfl, h0, hb⟩ := hrel
      have H0 := Lib.hid h0
      have HB := Lib.hid hb
      clear h0 hb
      by_cases hlt : i < n
      · have hD : decide ((i : Int) < n) = true := decide_eq_true (by omega)
        have hD' : decide (i < n) = true := decide_eq_true hlt
        have HCr := Lib.hid ((HC.out).below HB.out)
        obtain ⟨q, hq⟩ : ∃ q, cs[i]? = some q := ⟨_, List.getElem?_eq_getElem (by rw [HC.out.len]; exact hlt)⟩
        have HQL := Lib.hid (HNM.out i q hq)
        have HQ := Lib.hid hq
        obtain ⟨X, hX, hc1, hc2⟩ := (HCr.out).at' _ _ hq
        subst hX
        obtain ⟨nm, kd⟩ := q
        dsimp only at hc1 hc2
        clear hq
        go_upto_region 6 with fail
        obtain ⟨wa, hwa⟩ : ∃ wa, wr.alloc (.cells #[.string (strOf nm), .int .i64 kd] 103) = wa := ⟨_, rfl⟩
        obtain ⟨bx, hbx⟩ : ∃ bx, wr.heap.size = bx := ⟨_, rfl⟩
        have VB : wa.heap[bx]? = some (.cells #[.string (strOf nm), .int .i64 kd] 103 (0, 0)) := by rw [← hwa, ← hbx]; exact heap_alloc_new wr _
        have WB := Lib.hid ((HB.out).alloc (HB.out).size (.cells #[.string (strOf nm), .int .i64 kd] 103))
        rw [hwa] at WB
        have b0 : wa.cell? ⟨bx, 0, none⟩ = some (.string (strOf nm)) := cell_of_row wa bx 0 _ 103 _ VB
        have b1 : wa.cell? ⟨bx, 1, none⟩ = some (.int .i64 kd) := cell_of_row wa bx 1 _ 103 _ VB
        rw [hwa, hbx]
        have HT := Lib.hid ((HC.out).below WB.out |>.take i hi)
        clear hwa hbx VB hc1 hc2
        go_wp2_with fail
        refine (Try.isName1 _ nm HQL.out).mono ?_
        rintro x w1 ⟨rfl, hw1⟩
        rw [hw1]
        clear hw1 w1
        have hic : i ≤ c := by omega
        obtain ⟨g, hg⟩ : ∃ g, isName nm = g := ⟨_, rfl⟩
        have HG := Lib.hid hg
        rw [hg]
        clear hg
        have key : ∀ e : Int, chkAt cs i = e → e ≠ 0 → R = e := fun e h h2 => by rw [← HR.out, ← h]; exact chkTo_end cs i (by rw [HC.out.len]; exact hlt) H0.out (by rw [h]; exact h2) HL.out
        have KEY := Lib.hid key
        clear key
        cases g
        · have HE : Hid (R = 3) := Lib.hid (KEY.out 3 (chkAt_name HQ.out HG.out) (by decide))
          go_wp2_with fail
          go_ret
          have := HE.out
          subst this
          exact ⟨rfl, WB.out⟩
        · go_upto_region 8 with fail
          obtain ⟨T, hT⟩ : ∃ T, decide (nm ∈ (cs.take i).map Prod.fst) = T := ⟨_, rfl⟩
          have HTW := Lib.hid hT
          clear hT
          refine wp_region_noPanic ?_
          refine wp_region_held_drew (S := (fun W => W.heap = wa.heap ∧ W.cell? ⟨bx, 0, none⟩ = some (.string (strOf nm)))) (by kernel_rfl) ?_ (fun hHeld => ?_)
          · exact ⟨rfl, b0⟩
          refine wpAnyH_take (i := 0) (oi := { dst := some 27, op := Op.move (Operand.tmp 0), type := 45, pos := "schema.go:33", after := #[], guard := none }) (v := ?_) rfl (by kernel_rfl) (by kernel_rfl) (by kernel_rfl) (fun _ _ _ h => h) (Or.inl ⟨by rfl, ?_⟩) (by assumption) ?_
          rotate_left
          · (intro w hSw; (try dsimp only at hSw); go_simp; try with_reducible rfl)
          try simp only [Act.put, List.setIfInBounds_toArray, List.set_cons_zero, List.set_cons_succ]
          refine wpAnyH_take (i := 1) (oi := { dst := some 28, op := Op.move (Operand.tmp 3), type := 3, pos := "schema.go:33", after := #[], guard := none }) (v := ?_) rfl (by kernel_rfl) (by kernel_rfl) (by kernel_rfl) (fun _ _ _ h => h) (Or.inl ⟨by rfl, ?_⟩) (by assumption) ?_
          rotate_left
          · (intro w hSw; (try dsimp only at hSw); go_simp; try with_reducible rfl)
          try simp only [Act.put, List.setIfInBounds_toArray, List.set_cons_zero, List.set_cons_succ]
          refine wpAnyH_take (i := 2) (oi := { dst := some 29, op := Op.slice 45 (Operand.tmp 27) none (some (Operand.tmp 28)) none, type := 45, pos := "schema.go:33", after := #[{ on := 0, ground := Ground.data }, { on := 1, ground := Ground.data }], guard := none }) (v := ?_) rfl (by kernel_rfl) (by kernel_rfl) (by kernel_rfl) (fun _ _ _ h => h) (Or.inl ⟨by rfl, ?_⟩) (by assumption) ?_
          rotate_left
          · (intro w hSw; (try dsimp only at hSw); go_simp; try with_reducible rfl)
          try simp only [Act.put, List.setIfInBounds_toArray, List.set_cons_zero, List.set_cons_succ]
          refine wpAnyH_take (i := 3) (oi := { dst := some 30, op := Op.fieldAddr 103 (Operand.tmp 4) 0, type := 0, pos := "schema.go:33", after := #[], guard := none }) (v := ?_) rfl (by kernel_rfl) (by kernel_rfl) (by kernel_rfl) (fun _ _ _ h => h) (Or.inl ⟨by rfl, ?_⟩) (by assumption) ?_
          rotate_left
          · (intro w hSw; (try dsimp only at hSw); go_simp; try with_reducible rfl)
          try simp only [Act.put, List.setIfInBounds_toArray, List.set_cons_zero, List.set_cons_succ]
          refine wpAnyH_take (i := 4) (oi := { dst := some 31, op := Op.load 9 (Operand.tmp 30), type := 9, pos := "schema.go:33", after := #[{ on := 3, ground := Ground.data }], guard := none }) (v := ?_) rfl (by kernel_rfl) (by kernel_rfl) (by kernel_rfl) (fun _ _ _ h => h) (Or.inl ⟨by rfl, ?_⟩) (by assumption) ?_
          rotate_left
          · (intro w hSw; (try dsimp only at hSw); go_simp; try with_reducible rfl)
          try simp only [Act.put, List.setIfInBounds_toArray, List.set_cons_zero, List.set_cons_succ]
          refine wpAnyH_ready (rs := [5]) (by kernel_rfl) (by simp) ?_
          refine AllReadyH.cons (o := { dst := some 32, op := Op.call { callee := Callee.value (Operand.func 58), args := #[Operand.tmp 29, Operand.tmp 31], argTypes := #[45, 9] }, type := 133, pos := "schema.go:33", after := #[{ on := 2, ground := Ground.data }, { on := 4, ground := Ground.data }], guard := none }) rfl (fun K hK => ?_) AllReadyH.nil
          go_simp
          have HT2 := Lib.hid ((HT.out).below ((Below.refl _ wa).drew))
          with_reducible refine (Try.find _ _ _ _ _ HT2.out (by omega) nm).mono ?_
          rintro x2 w2 ⟨⟨k, rfl⟩, hw2⟩
          rw [hw2]
          clear hw2 w2
          rw [HTW.out]
          refine hK.out _ _ ?_ (fun hHeld => ?_)
          · assumption
          clear hK K
          try simp only [Act.put, List.setIfInBounds_toArray, List.set_cons_zero, List.set_cons_succ]
          refine wpAnyH_take (i := 6) (oi := { dst := some 26, op := Op.move (Operand.tmp 32), type := 133, pos := "schema.go:33", after := #[{ on := 5, ground := Ground.data }], guard := none }) (v := ?_) rfl (by kernel_rfl) (by kernel_rfl) (by kernel_rfl) (fun _ _ _ h => h) (Or.inl ⟨by rfl, ?_⟩) (by assumption) ?_
          rotate_left
          · (intro w hSw; (try dsimp only at hSw); go_simp; try with_reducible rfl)
          try simp only [Act.put, List.setIfInBounds_toArray, List.set_cons_zero, List.set_cons_succ]
          refine wpAnyH_take (i := 7) (oi := { dst := some 33, op := Op.extract (Operand.tmp 26) 0, type := 3, pos := "schema.go:33", after := #[{ on := 6, ground := Ground.data }], guard := none }) (v := ?_) rfl (by kernel_rfl) (by kernel_rfl) (by kernel_rfl) (fun _ _ _ h => h) (Or.inl ⟨by rfl, ?_⟩) (by assumption) ?_
          rotate_left
          · (intro w hSw; (try dsimp only at hSw); go_simp; try with_reducible rfl)
          try simp only [Act.put, List.setIfInBounds_toArray, List.set_cons_zero, List.set_cons_succ]
          refine wpAnyH_take (i := 8) (oi := { dst := some 34, op := Op.extract (Operand.tmp 26) 1, type := 4, pos := "schema.go:33", after := #[{ on := 6, ground := Ground.data }, { on := 9, ground := Ground.gcOnly Departure.lateStores }], guard := none }) (v := ?_) rfl (by kernel_rfl) (by kernel_rfl) (by kernel_rfl) (fun _ _ _ h => h) (Or.inl ⟨by rfl, ?_⟩) (by assumption) ?_
          rotate_left
          · (intro w hSw; (try dsimp only at hSw); go_simp; try with_reducible rfl)
          try simp only [Act.put, List.setIfInBounds_toArray, List.set_cons_zero, List.set_cons_succ]
          refine wpAnyH_take (i := 9) (oi := { dst := some 5, op := Op.assign (Operand.tmp 33), type := 3, pos := "schema.go:33", after := #[{ on := 7, ground := Ground.data }, { on := 5, ground := Ground.chain }, { on := 0, ground := Ground.phase }, { on := 1, ground := Ground.phase }, { on := 2, ground := Ground.phase }, { on := 3, ground := Ground.phase }, { on := 4, ground := Ground.phase }, { on := 5, ground := Ground.phase }, { on := 6, ground := Ground.phase }, { on := 7, ground := Ground.phase }, { on := 8, ground := Ground.textOnly Departure.lateStores }], guard := none }) (v := ?_) rfl (by kernel_rfl) (by kernel_rfl) (by kernel_rfl) (fun _ _ _ h => h) (Or.inl ⟨by rfl, ?_⟩) (by assumption) ?_
          rotate_left
          · (intro w hSw; (try dsimp only at hSw); go_simp; try with_reducible rfl)
          try simp only [Act.put, List.setIfInBounds_toArray, List.set_cons_zero, List.set_cons_succ]
          refine wpAnyH_take (i := 10) (oi := { dst := some 6, op := Op.assign (Operand.tmp 34), type := 4, pos := "schema.go:33", after := #[{ on := 8, ground := Ground.data }, { on := 9, ground := Ground.chain }, { on := 0, ground := Ground.phase }, { on := 1, ground := Ground.phase }, { on := 2, ground := Ground.phase }, { on := 3, ground := Ground.phase }, { on := 4, ground := Ground.phase }, { on := 5, ground := Ground.phase }, { on := 6, ground := Ground.phase }, { on := 7, ground := Ground.phase }, { on := 8, ground := Ground.phase }, { on := 9, ground := Ground.phase }], guard := none }) (v := ?_) rfl (by kernel_rfl) (by kernel_rfl) (by kernel_rfl) (fun _ _ _ h => h) (Or.inl ⟨by rfl, ?_⟩) (by assumption) ?_
          rotate_left
          · (intro w hSw; (try dsimp only at hSw); go_simp; try with_reducible rfl)
          try simp only [Act.put, List.setIfInBounds_toArray, List.set_cons_zero, List.set_cons_succ]
          refine wpAnyH_done (by kernel_rfl) ?_ _
          refine NoPanic.normal ?_
          obtain ⟨wd, hwd⟩ : ∃ wd, wa.drew = wd := ⟨_, rfl⟩
          have d1 : wd.cell? ⟨bx, 1, none⟩ = some (.int .i64 kd) := by rw [← hwd]; exact b1
          have DB := Lib.hid ((WB.out).drew)
          rw [hwd] at DB ⊢
          clear hwd b0 b1 hHeld
          cases T
          · by_cases hk1 : kd = 1
            · have HN : Hid (chkTo cs (i + 1) = 0) := Lib.hid (by rw [chkTo, if_pos H0.out, chkAt_kind HQ.out HG.out HTW.out, if_pos]; constructor <;> (dsimp only; omega))
              subst hk1
              clear HQ
              go_wp2_with fail
              exact ⟨⟨i + 1, by omega, rfl, HN.out, DB.out⟩, by simp [intOf]; omega⟩
            · by_cases hk2 : kd = 2
              · have HN : Hid (chkTo cs (i + 1) = 0) := Lib.hid (by rw [chkTo, if_pos H0.out, chkAt_kind HQ.out HG.out HTW.out, if_pos]; constructor <;> (dsimp only; omega))
                subst hk2
                clear HQ
                go_wp2_with fail
                exact ⟨⟨i + 1, by omega, rfl, HN.out, DB.out⟩, by simp [intOf]; omega⟩
              · by_cases hk3 : kd = 3
                · have HN : Hid (chkTo cs (i + 1) = 0) := Lib.hid (by rw [chkTo, if_pos H0.out, chkAt_kind HQ.out HG.out HTW.out, if_pos]; constructor <;> (dsimp only; omega))
                  subst hk3
                  clear HQ
                  go_wp2_with fail
                  exact ⟨⟨i + 1, by omega, rfl, HN.out, DB.out⟩, by simp [intOf]; omega⟩
                · have k1 : (kd != 1) = true := by simpa using hk1
                  have k2 : (kd != 2) = true := by simpa using hk2
                  have k3 : (kd != 3) = true := by simpa using hk3
                  have HE : Hid (R = 6) := Lib.hid (KEY.out 6 (by rw [chkAt_kind HQ.out HG.out HTW.out, if_neg]; dsimp only; omega) (by decide))
                  go_wp2_with fail
                  go_ret
                  have := HE.out
                  subst this
                  exact ⟨rfl, DB.out⟩
          · have HE : Hid (R = 7) := Lib.hid (KEY.out 7 (chkAt_twice HQ.out HG.out HTW.out) (by decide))
            go_wp2_with fail
            go_ret
            have := HE.out
            subst this
            exact ⟨rfl, DB.out⟩
      · obtain rfl : i = n := by omega
        have hD : decide ((i : Int) < i) = false := by simp
        have hD' : decide (i < i) = false := by simp
        have HE : Hid (R = 0) := Lib.hid (by rw [← HR.out]; unfold chk; rw [if_pos HL.out, HC.out.len]; exact H0.out)
        go_wp2_with fail
        go_ret
        have := HE.out
        subst this
        exact ⟨rfl, HB.out⟩
end Go.Proofs.Ytfblhcphbcghpaa
end

section
namespace Go.Proofs.Ytfblhcphbcghpaa
open Go.RowKit
set_option maxRecDepth 100000
def flat (cs : List (List UInt8 × Int)) : List Value := cs.flatMap fun q => [.string (strOf q.1), .int .i64 q.2]
theorem flat_len (cs : List (List UInt8 × Int)) : (flat cs).length = cs.length * 2 := by
  induction cs with
  | nil => rfl
  | cons q cs ih =>
    have : flat (q :: cs) = [.string (strOf q.1), .int .i64 q.2] ++ flat cs := rfl
    rw [this, List.length_append, ih, List.length_cons]; simp; omega
theorem flat_at (cs : List (List UInt8 × Int)) : ∀ (j : Nat) (q : List UInt8 × Int), cs[j]? = some q → (flat cs)[j * 2]? = some (.string (strOf q.1)) ∧ (flat cs)[j * 2 + 1]? = some (.int .i64 q.2) := by
  induction cs with
  | nil => intro j q h; simp at h
  | cons p cs ih =>
    intro j q h
    have e : flat (p :: cs) = .string (strOf p.1) :: .int .i64 p.2 :: flat cs := rfl
    rw [e]
    cases j with
    | zero => simp at h; subst h; exact ⟨rfl, rfl⟩
    | succ j =>
      have h1 : (j + 1) * 2 = j * 2 + 1 + 1 := by omega
      rw [h1, List.getElem?_cons_succ, List.getElem?_cons_succ, List.getElem?_cons_succ, List.getElem?_cons_succ]
      exact ih j q (by simpa using h)
theorem own_cr {w : World} {base e n : Nat} {v : Value} {cs : List (List UInt8 × Int)} (h : w.ownsRow base e 2 v n (flat cs)) : ∃ A c, v = .slice A n c ∧ CR w A n c cs := by
  have hl : cs.length = n := by have := h.1; rw [flat_len] at this; omega
  rcases h.2 with ⟨rfl, rfl⟩ | ⟨g, cap, cur, rfl, hb, hg, h1, h2, h3, h4⟩
  · obtain rfl := List.eq_nil_of_length_eq_zero hl
    exact ⟨none, 0, rfl, rfl, Nat.le_refl _, Nat.zero_le _, fun j q hj => by simp at hj⟩
  · refine ⟨_, cap, rfl, hl, h1, h2, fun j q hj => ⟨g, rfl, ?_⟩⟩
    have hj' : j < n := by rw [← hl]; exact (List.getElem?_eq_some_iff.1 hj).1
    have := flat_at cs j q hj
    exact ⟨(h.cellAt (j * 2) (by omega)).trans this.1, (h.cellAt (j * 2 + 1) (by omega)).trans this.2⟩
theorem infoC (t : TypeId) (h : (Try.prog.info? t).map (fun i => (i.zero, i.size, i.bytes)) = some (some (.agg #[.string ⟨#[]⟩, .int .i64 0]), 2, 24)) : ∃ i, Try.prog.info? t = some i ∧ i.zero = some (.agg #[.string ⟨#[]⟩, .int .i64 0]) ∧ i.size = 2 ∧ i.bytes = 24 := by
  rcases hi : Try.prog.info? t with _ | i
  · rw [hi] at h; simp at h
  · rw [hi] at h
    simp only [Option.map_some, Option.some.injEq, Prod.mk.injEq] at h
    exact ⟨i, rfl, h.1, h.2.1, h.2.2⟩
end Go.Proofs.Ytfblhcphbcghpaa
end
