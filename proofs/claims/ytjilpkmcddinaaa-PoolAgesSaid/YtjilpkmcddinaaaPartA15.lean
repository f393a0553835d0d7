/-
  Texts of a proof over the translated program: proved evaluators and walks, part 15 of 20.
-/
import Derived.Test.YtjilpkmcddinaaaPartA14
import Derived.ArgAppend
import Derived.Below
import Derived.Deep.RegionHeld3
import Derived.Deep.RegionWith
import Derived.Great.BuildSlice
import Derived.Ground.GgzProg
import Derived.Ground.SlgmProg
import Derived.Handy
import Derived.IntWalk
import Derived.Laws.BitsLemmas
import Derived.Laws.CopyOwn
import Derived.Laws.CopyRow
import Derived.Laws.IdiomStrings
import Derived.Laws.MakeOwn
import Derived.Laws.Rows
import Derived.Lib.Hide
import Derived.Lib.SlKeysI
import Derived.LoopTactic
import Derived.MapKept
import Derived.Maps.Own
import Derived.Maps.OwnSet
import Derived.Maps.RangeWalk
import Derived.Maps.Views
import Derived.Orders
import Derived.OwnWalk
import Derived.Scope
import Derived.ScopeJumps
import Derived.Shelf.SlIterI.Nil
import Derived.Shelf.SlIterI.Sorted
import Derived.Shelf.SortM.Plain
import Derived.Shelf.SortM.SortNone
import Derived.Test.YtjilpkmcddinaaaProg
import Derived.WalkKit
import Derived.WalkMore
import Derived.WalkSpells
set_option linter.unusedVariables false
set_option linter.unusedSimpArgs false
set_option linter.unusedSectionVars false
set_option linter.unnecessarySimpa false
section
set_option maxRecDepth 100000
namespace Go.Proofs.Ytjilpkmcddinaaa
open Go.RowKit Go.Maps Go.ChangeMaps Go.MapKept Go.WideShapes
open Go.WideElems (Fit rd rg pl rd_val elemAt rd_key rg_of)
theorem PoolI.c0 {w : World} {pb mb fr k now : Nat} {S : List Fr} (h : PoolI w pb mb fr k now S) : w.cell? ⟨pb, 0, none⟩ = some (.int .i64 (fr : Int)) := cell_of_row w pb 0 _ 61 _ h.here
theorem PoolI.c1 {w : World} {pb mb fr k now : Nat} {S : List Fr} (h : PoolI w pb mb fr k now S) : w.cell? ⟨pb, 1, none⟩ = some (.int .i64 (k : Int)) := cell_of_row w pb 1 _ 61 _ h.here
theorem PoolI.c2 {w : World} {pb mb fr k now : Nat} {S : List Fr} (h : PoolI w pb mb fr k now S) : w.cell? ⟨pb, 2, none⟩ = some (.int .i64 (now : Int)) := cell_of_row w pb 2 _ 61 _ h.here
theorem PoolI.c3 {w : World} {pb mb fr k now : Nat} {S : List Fr} (h : PoolI w pb mb fr k now S) : w.cell? ⟨pb, 3, none⟩ = some (.map (some mb)) := cell_of_row w pb 3 _ 61 _ h.here
theorem FrI.c0 {w : World} {f : Fr} (h : FrI w f) : w.cell? ⟨f.fb, 0, none⟩ = some (.slice (some ⟨f.db, 0, none⟩) 1 f.dc) := cell_of_row w f.fb 0 _ 76 _ h.here
theorem FrI.c1 {w : World} {f : Fr} (h : FrI w f) : w.cell? ⟨f.fb, 1, none⟩ = some (.int .i64 (f.pins : Int)) := cell_of_row w f.fb 1 _ 76 _ h.here
theorem FrI.c2 {w : World} {f : Fr} (h : FrI w f) : w.cell? ⟨f.fb, 2, none⟩ = some f.tv := cell_of_row w f.fb 2 _ 76 _ h.here
theorem FrI.row {w : World} {f : Fr} (h : FrI w f) (h0 : 1 ≤ f.ts.length) : ∃ g cap, f.tv = .slice (some ⟨g, 0, none⟩) f.ts.length cap ∧ f.ts.length ≤ cap ∧ cap ≤ maxLen ∧ (∀ (j t : Nat), f.ts[j]? = some t → w.cell? ⟨g, j, none⟩ = some (.int .i64 (t : Int))) ∧ ∀ j, j < f.ts.length → w.frozen? ⟨g, j, none⟩ = false := by
  rcases h.tims.2 with ⟨_, e⟩ | ⟨g, cap, cur, e, _, hg, h1, h2, h3, h4⟩
  · omega
  · refine ⟨g, cap, e, h1, h2, fun j t hj => ?_, fun j hj => ?_⟩
    · rw [cell_of_row w g j _ 3 _ hg]
      have : (cur.toList.take (f.ts.length * 1))[j]? = (f.ts.map i64v)[j]? := by rw [h4]
      have hl := (List.getElem?_eq_some_iff.1 hj).1
      rw [List.getElem?_take, if_pos (by omega), List.getElem?_map, hj, Array.getElem?_toList] at this
      exact this
    · exact frozen_of_row w g j _ 3 hg
theorem look_hit {w : World} {pb mb fr k now : Nat} {S : List Fr} (h : PoolI w pb mb fr k now S) {f : Fr} (hf : f ∈ S) (c : Bool) :
    (Instr.lookup 59 (.map (some mb)) (.int .i64 (f.a : Int)) c).run Try.prog w = .ok (if c then .tuple #[.pointer (some ⟨f.fb, 0, none⟩), .bool true] else .pointer (some ⟨f.fb, 0, none⟩)) w := by
  obtain ⟨D, ⟨es, cl, hb, F, _, rfl⟩, hK⟩ := h.map
  have ha := (h.frs f hf).hi
  rcases Maps.fit_look c Try.law3 Try.underlying59 (Try.zeroValue71 w) hb F (key_ok f.a (by omega)) with ⟨_, _, q⟩ | ⟨e0, y, _, _, hrun, hR, hat, _⟩
  · have h1 := hK.atk f hf .nil
    rw [q .nil] at h1
    cases h1
  · obtain ⟨b, hv, rfl⟩ := ptrR_some hR
    have h1 := hK.atk f hf .nil
    rw [hat .nil] at h1
    have h2 : b = f.fb := by
      simp only [DataW.lit.injEq, Lit.int.injEq, true_and] at h1
      omega
    subst h2
    rw [hrun, hv]
theorem look_miss {w : World} {pb mb fr k now : Nat} {S : List Fr} (h : PoolI w pb mb fr k now S) {a : Nat} (ha : a < 2 ^ 31) (hf : ∀ f ∈ S, f.a ≠ a) (c : Bool) :
    (Instr.lookup 59 (.map (some mb)) (.int .i64 (a : Int)) c).run Try.prog w = .ok (if c then .tuple #[.pointer none, .bool false] else .pointer none) w := by
  obtain ⟨D, ⟨es, cl, hb, F, _, rfl⟩, hK⟩ := h.map
  rcases Maps.fit_look c Try.law3 Try.underlying59 (Try.zeroValue71 w) hb F (key_ok a ha) with ⟨q, _⟩ | ⟨e0, y, _, _, _, _, hat, _⟩
  · exact q
  · have h1 := hK.has' a
    rw [Maps.has_true_of_atKey hat] at h1
    obtain ⟨f, hm, e⟩ := List.any_eq_true.1 h1.symm
    exact absurd (by simpa using e) (hf f hm)
theorem wrap_nat (n : Nat) (h : n < 2 ^ 62) : IntKind.i64.wrap (n : Int) = (n : Int) := by rw [IntKind.wrap_i64]; omega
def Fr.lst (f : Fr) : Nat := f.ts.getLast?.getD 0
def Fr.kth (k : Nat) (f : Fr) : Nat := if f.ts.length < k then 0 else f.ts.headD 0
theorem Try.last {w : World} {f : Fr} (h : FrI w f) (h0 : 1 ≤ f.ts.length) : Calls Try.prog 77 #[.pointer (some ⟨f.fb, 0, none⟩)] w fun e w' => e = .returned (.int .i64 ((f.lst : Nat) : Int)) ∧ Below w.heap.size w w' := by
  obtain ⟨g, cap, htv, h1, h2, hc, _⟩ := h.row h0
  have hc2 := h.c2
  rw [htv] at hc2
  obtain ⟨n, hn⟩ : ∃ n, n = f.ts.length := ⟨_, rfl⟩
  rw [← hn] at hc2 h0
  have hl : w.cell? ⟨g, n - 1, none⟩ = some (.int .i64 ((f.lst : Nat) : Int)) := by
    refine hc _ _ ?_
    rw [hn, ← List.getLast?_eq_getElem?]
    cases ht : f.ts with
    | nil => rw [ht] at hn; simp at hn; omega
    | cons x r => unfold Fr.lst; rw [ht, List.getLast?_cons]; rfl
  have htn : n ≤ 9 := by have := h.tn; omega
  have hw1 : IntKind.i64.wrap ((n : Int) - 1) = ((n - 1 : Nat) : Int) := by
    rw [show ((n : Int) - 1) = ((n - 1 : Nat) : Int) by omega]
    exact wrap_nat _ (by omega)
  have hlt : n - 1 < n := by omega
  generalize ((f.lst : Nat) : Int) = x at hl ⊢
  clear hc htv h1 h hn
  generalize f.fb = fb at hc2 ⊢
  go_enter Try.func77, Try.ntmps77
  go_wp2_with fail
  refine wp_region_noPanic ?_
  refine wp_region_held_drew (S := (fun W => W.cell? ⟨fb, 2, none⟩ = some (.slice (some ⟨g, 0, none⟩) n cap) ∧ W.cell? ⟨g, n - 1, none⟩ = some (.int .i64 x))) (by kernel_rfl) ?_ (fun hHeld => ?_)
  · exact ⟨hc2, hl⟩
  refine wpAnyH_take (i := 0) (oi := { dst := some 3, op := Op.move (Operand.tmp 0), type := 71, pos := "pool.go:114", after := #[], guard := none }) (v := ?_) rfl (by kernel_rfl) (by kernel_rfl) (by kernel_rfl) (fun _ _ _ h => h) (Or.inl ⟨by rfl, ?_⟩) (by assumption) ?_
  rotate_left
  · (intro w hSw; (try dsimp only at hSw); go_simp; try with_reducible rfl)
  try simp only [Act.put, List.setIfInBounds_toArray, List.set_cons_zero, List.set_cons_succ]
  refine wpAnyH_take (i := 1) (oi := { dst := some 4, op := Op.nilCheck (Operand.tmp 3), type := 0, pos := "pool.go:114", after := #[{ on := 0, ground := Ground.data }], guard := none }) (v := ?_) rfl (by kernel_rfl) (by kernel_rfl) (by kernel_rfl) (fun _ _ _ h => h) (Or.inl ⟨by rfl, ?_⟩) (by assumption) ?_
  rotate_left
  · (intro w hSw; (try dsimp only at hSw); go_simp; try with_reducible rfl)
  try simp only [Act.put, List.setIfInBounds_toArray, List.set_cons_zero, List.set_cons_succ]
  refine wpAnyH_take (i := 2) (oi := { dst := some 5, op := Op.fieldAddr 76 (Operand.tmp 4) 2, type := 0, pos := "pool.go:114", after := #[{ on := 1, ground := Ground.data }], guard := none }) (v := ?_) rfl (by kernel_rfl) (by kernel_rfl) (by kernel_rfl) (fun _ _ _ h => h) (Or.inl ⟨by rfl, ?_⟩) (by assumption) ?_
  rotate_left
  · (intro w hSw; (try dsimp only at hSw); go_simp; try with_reducible rfl)
  try simp only [Act.put, List.setIfInBounds_toArray, List.set_cons_zero, List.set_cons_succ]
  refine wpAnyH_take (i := 3) (oi := { dst := some 6, op := Op.load 50 (Operand.tmp 5), type := 50, pos := "pool.go:114", after := #[{ on := 2, ground := Ground.data }], guard := none }) (v := ?_) rfl (by kernel_rfl) (by kernel_rfl) (by kernel_rfl) (fun _ _ _ h => h) (Or.inl ⟨by rfl, ?_⟩) (by assumption) ?_
  rotate_left
  · (intro w hSw; (try dsimp only at hSw); go_simp; try with_reducible rfl)
  try simp only [Act.put, List.setIfInBounds_toArray, List.set_cons_zero, List.set_cons_succ]
  refine wpAnyH_take (i := 4) (oi := { dst := some 7, op := Op.move (Operand.tmp 0), type := 71, pos := "pool.go:114", after := #[], guard := none }) (v := ?_) rfl (by kernel_rfl) (by kernel_rfl) (by kernel_rfl) (fun _ _ _ h => h) (Or.inl ⟨by rfl, ?_⟩) (by assumption) ?_
  rotate_left
  · (intro w hSw; (try dsimp only at hSw); go_simp; try with_reducible rfl)
  try simp only [Act.put, List.setIfInBounds_toArray, List.set_cons_zero, List.set_cons_succ]
  refine wpAnyH_take (i := 5) (oi := { dst := some 8, op := Op.nilCheck (Operand.tmp 7), type := 0, pos := "pool.go:114", after := #[{ on := 4, ground := Ground.data }], guard := none }) (v := ?_) rfl (by kernel_rfl) (by kernel_rfl) (by kernel_rfl) (fun _ _ _ h => h) (Or.inl ⟨by rfl, ?_⟩) (by assumption) ?_
  rotate_left
  · (intro w hSw; (try dsimp only at hSw); go_simp; try with_reducible rfl)
  try simp only [Act.put, List.setIfInBounds_toArray, List.set_cons_zero, List.set_cons_succ]
  refine wpAnyH_take (i := 6) (oi := { dst := some 9, op := Op.fieldAddr 76 (Operand.tmp 8) 2, type := 0, pos := "pool.go:114", after := #[{ on := 5, ground := Ground.data }], guard := none }) (v := ?_) rfl (by kernel_rfl) (by kernel_rfl) (by kernel_rfl) (fun _ _ _ h => h) (Or.inl ⟨by rfl, ?_⟩) (by assumption) ?_
  rotate_left
  · (intro w hSw; (try dsimp only at hSw); go_simp; try with_reducible rfl)
  try simp only [Act.put, List.setIfInBounds_toArray, List.set_cons_zero, List.set_cons_succ]
  refine wpAnyH_take (i := 7) (oi := { dst := some 10, op := Op.load 50 (Operand.tmp 9), type := 50, pos := "pool.go:114", after := #[{ on := 6, ground := Ground.data }], guard := none }) (v := ?_) rfl (by kernel_rfl) (by kernel_rfl) (by kernel_rfl) (fun _ _ _ h => h) (Or.inl ⟨by rfl, ?_⟩) (by assumption) ?_
  rotate_left
  · (intro w hSw; (try dsimp only at hSw); go_simp; try with_reducible rfl)
  try simp only [Act.put, List.setIfInBounds_toArray, List.set_cons_zero, List.set_cons_succ]
  refine wpAnyH_take (i := 8) (oi := { dst := some 11, op := Op.call { callee := Callee.builtin Builtin.len, args := #[Operand.tmp 10], argTypes := #[50] }, type := 3, pos := "pool.go:114", after := #[{ on := 7, ground := Ground.data }], guard := none }) (v := ?_) rfl (by kernel_rfl) (by kernel_rfl) (by kernel_rfl) (fun _ _ _ h => h) (Or.inl ⟨by rfl, ?_⟩) (by assumption) ?_
  rotate_left
  · (intro w hSw; (try dsimp only at hSw); go_simp; try with_reducible rfl)
  try simp only [Act.put, List.setIfInBounds_toArray, List.set_cons_zero, List.set_cons_succ]
  refine wpAnyH_take (i := 9) (oi := { dst := some 12, op := Op.binOp BinOp.sub 3 (Operand.tmp 11) (Operand.const (Value.int IntKind.i64 1)) 3, type := 3, pos := "pool.go:114", after := #[{ on := 8, ground := Ground.data }], guard := none }) (v := ?_) rfl (by kernel_rfl) (by kernel_rfl) (by kernel_rfl) (fun _ _ _ h => h) (Or.inl ⟨by rfl, ?_⟩) (by assumption) ?_
  rotate_left
  · (intro w hSw; (try dsimp only at hSw); go_simp; try with_reducible rfl)
  try simp only [Act.put, List.setIfInBounds_toArray, List.set_cons_zero, List.set_cons_succ]
  refine wpAnyH_take (i := 10) (oi := { dst := some 13, op := Op.indexAddr 50 (Operand.tmp 6) (Operand.tmp 12), type := 0, pos := "pool.go:114", after := #[{ on := 3, ground := Ground.data }, { on := 9, ground := Ground.data }], guard := none }) (v := ?_) rfl (by kernel_rfl) (by kernel_rfl) (by kernel_rfl) (fun _ _ _ h => h) (Or.inl ⟨by rfl, ?_⟩) (by assumption) ?_
  rotate_left
  · (intro w hSw; (try dsimp only at hSw); go_simp; try with_reducible rfl)
  try simp only [Act.put, List.setIfInBounds_toArray, List.set_cons_zero, List.set_cons_succ]
  refine wpAnyH_take (i := 11) (oi := { dst := some 14, op := Op.load 3 (Operand.tmp 13), type := 3, pos := "pool.go:114", after := #[{ on := 10, ground := Ground.data }], guard := none }) (v := ?_) rfl (by kernel_rfl) (by kernel_rfl) (by kernel_rfl) (fun _ _ _ h => h) (Or.inl ⟨by rfl, ?_⟩) (by assumption) ?_
  rotate_left
  · (intro w hSw; (try dsimp only at hSw); go_simp; try with_reducible rfl)
  try simp only [Act.put, List.setIfInBounds_toArray, List.set_cons_zero, List.set_cons_succ]
  refine wpAnyH_take (i := 12) (oi := { dst := some 2, op := Op.assign (Operand.tmp 14), type := 3, pos := "pool.go:114", after := #[{ on := 11, ground := Ground.data }, { on := 0, ground := Ground.phase }, { on := 1, ground := Ground.phase }, { on := 2, ground := Ground.phase }, { on := 3, ground := Ground.phase }, { on := 4, ground := Ground.phase }, { on := 5, ground := Ground.phase }, { on := 6, ground := Ground.phase }, { on := 7, ground := Ground.phase }, { on := 8, ground := Ground.phase }, { on := 9, ground := Ground.phase }, { on := 10, ground := Ground.phase }, { on := 11, ground := Ground.phase }], guard := none }) (v := ?_) rfl (by kernel_rfl) (by kernel_rfl) (by kernel_rfl) (fun _ _ _ h => h) (Or.inl ⟨by rfl, ?_⟩) (by assumption) ?_
  rotate_left
  · (intro w hSw; (try dsimp only at hSw); go_simp; try with_reducible rfl)
  try simp only [Act.put, List.setIfInBounds_toArray, List.set_cons_zero, List.set_cons_succ]
  refine wpAnyH_done (by kernel_rfl) ?_ _
  refine NoPanic.normal ?_
  go_wp2_with fail
  go_ret
  exact ⟨rfl, (Below.refl _ _).drew⟩
end Go.Proofs.Ytjilpkmcddinaaa
end

section
set_option maxRecDepth 100000
namespace Go.Proofs.Ytjilpkmcddinaaa
open Go.RowKit Go.Maps Go.ChangeMaps Go.MapKept Go.WideShapes
open Go.WideElems (Fit rd rg pl rd_val elemAt rd_key rg_of)
theorem Try.kth {w : World} {f : Fr} {pb mb fr k now : Nat} {S : List Fr} (hp : PoolI w pb mb fr k now S) (h : FrI w f) (h0 : 1 ≤ f.ts.length) : Calls Try.prog 76 #[.pointer (some ⟨pb, 0, none⟩), .pointer (some ⟨f.fb, 0, none⟩)] w fun e w' => e = .returned (.int .i64 ((f.kth k : Nat) : Int)) ∧ Below w.heap.size w w' := by
  obtain ⟨g, cap, htv, h1, h2, hc, _⟩ := h.row h0
  have hc2 := h.c2
  rw [htv] at hc2
  have hk1 := hp.c1
  have k1 := hp.k1
  have k8 := hp.k8
  have htn := h.tn
  obtain ⟨x, hx⟩ : ∃ x, f.ts[0]? = some x := ⟨_, List.getElem?_eq_getElem (by omega)⟩
  have hl := hc 0 x hx
  have hkth : f.kth k = if f.ts.length < k then 0 else x := by
    unfold Fr.kth
    cases ht : f.ts with
    | nil => rw [ht] at hx; cases hx
    | cons y r => rw [ht] at hx; cases hx; rfl
  rw [hkth]
  clear hc hx hkth hp h htv
  generalize f.ts.length = n at *
  generalize f.fb = fb at *
  clear h1 h2
  go_enter Try.func76, Try.ntmps76
  go_wp2_with fail
  refine wp_region_noPanic ?_
  refine wp_region_held_drew (S := (fun W => W.cell? ⟨fb, 2, none⟩ = some (.slice (some ⟨g, 0, none⟩) n cap) ∧ W.cell? ⟨pb, 1, none⟩ = some (.int .i64 (k : Int)))) (by kernel_rfl) ?_ (fun hHeld => ?_)
  · exact ⟨hc2, hk1⟩
  refine wpAnyH_take (i := 0) (oi := { dst := some 5, op := Op.move (Operand.tmp 1), type := 71, pos := "pool.go:107", after := #[], guard := none }) (v := ?_) rfl (by kernel_rfl) (by kernel_rfl) (by kernel_rfl) (fun _ _ _ h => h) (Or.inl ⟨by rfl, ?_⟩) (by assumption) ?_
  rotate_left
  · (intro w hSw; (try dsimp only at hSw); go_simp; try with_reducible rfl)
  try simp only [Act.put, List.setIfInBounds_toArray, List.set_cons_zero, List.set_cons_succ]
  refine wpAnyH_take (i := 1) (oi := { dst := some 6, op := Op.nilCheck (Operand.tmp 5), type := 0, pos := "pool.go:107", after := #[{ on := 0, ground := Ground.data }], guard := none }) (v := ?_) rfl (by kernel_rfl) (by kernel_rfl) (by kernel_rfl) (fun _ _ _ h => h) (Or.inl ⟨by rfl, ?_⟩) (by assumption) ?_
  rotate_left
  · (intro w hSw; (try dsimp only at hSw); go_simp; try with_reducible rfl)
  try simp only [Act.put, List.setIfInBounds_toArray, List.set_cons_zero, List.set_cons_succ]
  refine wpAnyH_take (i := 2) (oi := { dst := some 7, op := Op.fieldAddr 76 (Operand.tmp 6) 2, type := 0, pos := "pool.go:107", after := #[{ on := 1, ground := Ground.data }], guard := none }) (v := ?_) rfl (by kernel_rfl) (by kernel_rfl) (by kernel_rfl) (fun _ _ _ h => h) (Or.inl ⟨by rfl, ?_⟩) (by assumption) ?_
  rotate_left
  · (intro w hSw; (try dsimp only at hSw); go_simp; try with_reducible rfl)
  try simp only [Act.put, List.setIfInBounds_toArray, List.set_cons_zero, List.set_cons_succ]
  refine wpAnyH_take (i := 3) (oi := { dst := some 8, op := Op.load 50 (Operand.tmp 7), type := 50, pos := "pool.go:107", after := #[{ on := 2, ground := Ground.data }], guard := none }) (v := ?_) rfl (by kernel_rfl) (by kernel_rfl) (by kernel_rfl) (fun _ _ _ h => h) (Or.inl ⟨by rfl, ?_⟩) (by assumption) ?_
  rotate_left
  · (intro w hSw; (try dsimp only at hSw); go_simp; try with_reducible rfl)
  try simp only [Act.put, List.setIfInBounds_toArray, List.set_cons_zero, List.set_cons_succ]
  refine wpAnyH_take (i := 4) (oi := { dst := some 9, op := Op.call { callee := Callee.builtin Builtin.len, args := #[Operand.tmp 8], argTypes := #[50] }, type := 3, pos := "pool.go:107", after := #[{ on := 3, ground := Ground.data }], guard := none }) (v := ?_) rfl (by kernel_rfl) (by kernel_rfl) (by kernel_rfl) (fun _ _ _ h => h) (Or.inl ⟨by rfl, ?_⟩) (by assumption) ?_
  rotate_left
  · (intro w hSw; (try dsimp only at hSw); go_simp; try with_reducible rfl)
  try simp only [Act.put, List.setIfInBounds_toArray, List.set_cons_zero, List.set_cons_succ]
  refine wpAnyH_take (i := 5) (oi := { dst := some 10, op := Op.move (Operand.tmp 0), type := 24, pos := "pool.go:107", after := #[], guard := none }) (v := ?_) rfl (by kernel_rfl) (by kernel_rfl) (by kernel_rfl) (fun _ _ _ h => h) (Or.inl ⟨by rfl, ?_⟩) (by assumption) ?_
  rotate_left
  · (intro w hSw; (try dsimp only at hSw); go_simp; try with_reducible rfl)
  try simp only [Act.put, List.setIfInBounds_toArray, List.set_cons_zero, List.set_cons_succ]
  refine wpAnyH_take (i := 6) (oi := { dst := some 11, op := Op.nilCheck (Operand.tmp 10), type := 0, pos := "pool.go:107", after := #[{ on := 5, ground := Ground.data }], guard := none }) (v := ?_) rfl (by kernel_rfl) (by kernel_rfl) (by kernel_rfl) (fun _ _ _ h => h) (Or.inl ⟨by rfl, ?_⟩) (by assumption) ?_
  rotate_left
  · (intro w hSw; (try dsimp only at hSw); go_simp; try with_reducible rfl)
  try simp only [Act.put, List.setIfInBounds_toArray, List.set_cons_zero, List.set_cons_succ]
  refine wpAnyH_take (i := 7) (oi := { dst := some 12, op := Op.fieldAddr 61 (Operand.tmp 11) 1, type := 0, pos := "pool.go:107", after := #[{ on := 6, ground := Ground.data }], guard := none }) (v := ?_) rfl (by kernel_rfl) (by kernel_rfl) (by kernel_rfl) (fun _ _ _ h => h) (Or.inl ⟨by rfl, ?_⟩) (by assumption) ?_
  rotate_left
  · (intro w hSw; (try dsimp only at hSw); go_simp; try with_reducible rfl)
  try simp only [Act.put, List.setIfInBounds_toArray, List.set_cons_zero, List.set_cons_succ]
  refine wpAnyH_take (i := 8) (oi := { dst := some 13, op := Op.load 3 (Operand.tmp 12), type := 3, pos := "pool.go:107", after := #[{ on := 7, ground := Ground.data }], guard := none }) (v := ?_) rfl (by kernel_rfl) (by kernel_rfl) (by kernel_rfl) (fun _ _ _ h => h) (Or.inl ⟨by rfl, ?_⟩) (by assumption) ?_
  rotate_left
  · (intro w hSw; (try dsimp only at hSw); go_simp; try with_reducible rfl)
  try simp only [Act.put, List.setIfInBounds_toArray, List.set_cons_zero, List.set_cons_succ]
  refine wpAnyH_take (i := 9) (oi := { dst := some 14, op := Op.binOp BinOp.lss 3 (Operand.tmp 9) (Operand.tmp 13) 3, type := 4, pos := "pool.go:107", after := #[{ on := 4, ground := Ground.data }, { on := 8, ground := Ground.data }], guard := none }) (v := ?_) rfl (by kernel_rfl) (by kernel_rfl) (by kernel_rfl) (fun _ _ _ h => h) (Or.inl ⟨by rfl, ?_⟩) (by assumption) ?_
  rotate_left
  · (intro w hSw; (try dsimp only at hSw); go_simp; try with_reducible rfl)
  try simp only [Act.put, List.setIfInBounds_toArray, List.set_cons_zero, List.set_cons_succ]
  refine wpAnyH_done (by kernel_rfl) ?_ _
  refine NoPanic.normal ?_
  go_wp2_with fail
  all_goals go_ret
  all_goals exact ⟨rfl, (Below.refl _ _).drew⟩
theorem Try.pinsHit {w : World} {pb mb fr k now : Nat} {S : List Fr} (hp : PoolI w pb mb fr k now S) {f : Fr} (hf : f ∈ S) : Calls Try.prog 17 #[.pointer (some ⟨pb, 0, none⟩), .int .i64 (f.a : Int)] w fun e w' => e = .returned (.int .i64 (f.pins : Int)) ∧ Below w.heap.size w w' := by
  have hI := hp.frs f hf
  have hc3 := hp.c3
  have hpin := hI.c1
  go_enter Try.func17, Try.ntmps17
  go_wp2_with fail
  rw [look_hit hp hf true]
  simp only [if_true, Result.andThen_ok]
  go_wp2_with fail
  go_ret
  exact ⟨rfl, Below.refl _ _⟩
def pinsOf (S : List Fr) (a : Nat) : Nat := match S.find? (fun f => f.a == a) with
  | some f => f.pins
  | none => 0
theorem find_mem' {S : List Fr} {a : Nat} : (∃ f ∈ S, f.a = a ∧ pinsOf S a = f.pins) ∨ ((∀ f ∈ S, f.a ≠ a) ∧ pinsOf S a = 0) := by
  unfold pinsOf
  cases hf : S.find? (fun f => f.a == a) with
  | some f => exact .inl ⟨f, List.mem_of_find?_eq_some hf, by simpa using List.find?_some hf, rfl⟩
  | none => exact .inr ⟨fun f hm e => by simpa [e] using List.find?_eq_none.1 hf f hm, rfl⟩
theorem FrI.pinSet {w : World} {f : Fr} (h : FrI w f) {p : Nat} (hp : p < 2 ^ 31) : FrI (w.setCell ⟨f.fb, 1, none⟩ (.int .i64 (p : Int))) { f with pins := p } where
  here := heap_setCell_same w f.fb 1 _ 76 _ h.here
  data := (World.cell?_of_block (w := w) (Below.heap_setCell w _ _ f.db (fun e => h.n1 e.symm))).trans h.data
  dc1 := h.dc1
  dc2 := h.dc2
  tims := own_stay h.tims fun b hb => Below.heap_setCell w _ _ b (fun e => h.n2 (by have e' : b = f.fb := e; rw [← e']; exact hb))
  lo := h.lo
  hi := h.hi
  n1 := h.n1
  n2 := h.n2
  n3 := h.n3
  ps := hp
  tl := h.tl
  tn := h.tn
theorem PoolI.pinSet {w : World} {pb mb fr k now : Nat} {f : Fr} {S : List Fr} (h : PoolI w pb mb fr k now (f :: S)) {p : Nat} (hp : p < 2 ^ 31) :
    PoolI (w.setCell ⟨f.fb, 1, none⟩ (.int .i64 (p : Int))) pb mb fr k now ({ f with pins := p } :: S) ∧ Chg w (w.setCell ⟨f.fb, 1, none⟩ (.int .i64 (p : Int))) (Own pb mb (f :: S)) := by
  have hn := h.np f (by simp)
  have h1 := List.pairwise_cons.1 h.apart
  refine ⟨h.upd ?_ ?_ ?_ ((h.frs f (by simp)).pinSet hp) rfl rfl (fun q hq => .inl hq) h.nn, (Chg.setCell w _ _).mono fun b e => .inr (.inr ⟨f, by simp, by rw [e]; simp [Fr.blks]⟩)⟩
  · exact (Below.heap_setCell w _ _ pb (fun e => hn.1 (by rw [e]; simp [Fr.blks]))).trans h.here
  · exact Below.heap_setCell w _ _ mb (fun e => hn.2 (by rw [e]; simp [Fr.blks]))
  · intro g hg q hq
    exact Below.heap_setCell w _ _ q (fun e => (h1.1 g hg).2 q (by rw [e]; simp [Fr.blks]) hq)
theorem Try.unpin1 {w : World} {pb mb fr k now : Nat} {f : Fr} {S : List Fr} (hp : PoolI w pb mb fr k now (f :: S)) (h0 : 0 < f.pins) : Calls Try.prog 14 #[.pointer (some ⟨pb, 0, none⟩), .int .i64 (f.a : Int)] w fun e w' => e = .returned (.int .i64 0) ∧ PoolI w' pb mb fr k now ({ f with pins := f.pins - 1 } :: S) ∧ Chg w w' (Own pb mb (f :: S)) := by
  have hI := hp.frs f (by simp)
  have hps := hI.ps
  have hc := Try.pinsHit hp (f := f) (by simp)
  go_enter Try.func14, Try.ntmps14
  go_wp2_with fail
  refine hc.mono ?_
  rintro e w1 ⟨rfl, hb⟩
  have hp1 := hp.below hb
  have hI1 := hp1.frs f (by simp)
  have hc3 := hp1.c3
  have hc1 := hI1.c1
  have hfz : w1.frozen? ⟨f.fb, 1, none⟩ = false := frozen_of_row w1 f.fb 1 _ 76 hI1.here
  have hl := look_hit hp1 (f := f) (by simp) false
  have hw1 : IntKind.i64.wrap ((f.pins : Int) - 1) = ((f.pins - 1 : Nat) : Int) := by
    rw [show ((f.pins : Int) - 1) = ((f.pins - 1 : Nat) : Int) by omega]
    exact wrap_nat _ (by omega)
  have hne : ((f.pins : Int) == 0) = false := by simp; omega
  have hfin := hp1.pinSet (p := f.pins - 1) (by omega)
  clear hc
  obtain ⟨P, hP⟩ : ∃ P, P = (f.pins : Int) := ⟨_, rfl⟩
  rw [← hP] at hne hw1 hc1 ⊢
  clear hP
  go_wp2_with fail
  go_ret
  exact ⟨rfl, hfin.1, (Chg.below hb _).trans hfin.2⟩
end Go.Proofs.Ytjilpkmcddinaaa
end

section
set_option maxRecDepth 100000
namespace Go.Proofs.Ytjilpkmcddinaaa
open Go.RowKit Go.Maps Go.ChangeMaps Go.MapKept Go.WideShapes
open Go.WideElems (Fit rd rg pl rd_val elemAt rd_key rg_of)
def elderB (k : Nat) (f g : Fr) : Bool := if f.kth k ≠ g.kth k then decide (f.kth k < g.kth k) else decide (f.lst < g.lst)
theorem Try.elder {w : World} {pb mb fr k now : Nat} {S : List Fr} (hp : PoolI w pb mb fr k now S) {f g : Fr} (hf : f ∈ S) (hg : g ∈ S) (h1 : 1 ≤ f.ts.length) (h2 : 1 ≤ g.ts.length) :
    Calls Try.prog 66 #[.pointer (some ⟨pb, 0, none⟩), .int .i64 (f.a : Int), .int .i64 (g.a : Int)] w fun e w' => e = .returned (.bool (elderB k f g)) ∧ Below w.heap.size w w' := by
  have hc3 := hp.c3
  obtain ⟨F, hF⟩ : ∃ F, F = f.kth k := ⟨_, rfl⟩
  obtain ⟨G, hG⟩ : ∃ G, G = g.kth k := ⟨_, rfl⟩
  have kf : ∀ W, PoolI W pb mb fr k now S → Calls Try.prog 76 #[.pointer (some ⟨pb, 0, none⟩), .pointer (some ⟨f.fb, 0, none⟩)] W fun e w' => e = .returned (.int .i64 (F : Int)) ∧ Below W.heap.size W w' := fun W h => by rw [hF]; exact Try.kth h (h.frs f hf) h1
  have kg : ∀ W, PoolI W pb mb fr k now S → Calls Try.prog 76 #[.pointer (some ⟨pb, 0, none⟩), .pointer (some ⟨g.fb, 0, none⟩)] W fun e w' => e = .returned (.int .i64 (G : Int)) ∧ Below W.heap.size W w' := fun W h => by rw [hG]; exact Try.kth h (h.frs g hg) h2
  have lf : ∀ W, PoolI W pb mb fr k now S → Calls Try.prog 77 #[.pointer (some ⟨f.fb, 0, none⟩)] W fun e w' => e = .returned (.int .i64 (f.lst : Int)) ∧ Below W.heap.size W w' := fun W h => Try.last (h.frs f hf) h1
  have lg : ∀ W, PoolI W pb mb fr k now S → Calls Try.prog 77 #[.pointer (some ⟨g.fb, 0, none⟩)] W fun e w' => e = .returned (.int .i64 (g.lst : Int)) ∧ Below W.heap.size W w' := fun W h => Try.last (h.frs g hg) h2
  have he : elderB k f g = if F ≠ G then decide (F < G) else decide (f.lst < g.lst) := by rw [hF, hG]; rfl
  rw [he]
  clear he hF hG
  go_enter Try.func66, Try.ntmps66
  go_upto_region 1 with fail
  refine wp_region_noPanic ?_
  refine wp_region_held_drew (S := (fun W => PoolI W pb mb fr k now S ∧ W.cell? ⟨pb, 3, none⟩ = some (.map (some mb)))) (by kernel_rfl) ?_ (fun hHeld => ?_)
  · exact ⟨hp.below (Below.refl _ _).drew, hc3⟩
  refine wpAnyH_take (i := 0) (oi := { dst := some 9, op := Op.move (Operand.tmp 0), type := 24, pos := "pool.go:98", after := #[], guard := none }) (v := ?_) rfl (by kernel_rfl) (by kernel_rfl) (by kernel_rfl) (fun _ _ _ h => h) (Or.inl ⟨by rfl, ?_⟩) (by assumption) ?_
  rotate_left
  · (intro w hSw; (try dsimp only at hSw); go_simp; try with_reducible rfl)
  try simp only [Act.put, List.setIfInBounds_toArray, List.set_cons_zero, List.set_cons_succ]
  refine wpAnyH_take (i := 1) (oi := { dst := some 10, op := Op.nilCheck (Operand.tmp 9), type := 0, pos := "pool.go:98", after := #[{ on := 0, ground := Ground.data }], guard := none }) (v := ?_) rfl (by kernel_rfl) (by kernel_rfl) (by kernel_rfl) (fun _ _ _ h => h) (Or.inl ⟨by rfl, ?_⟩) (by assumption) ?_
  rotate_left
  · (intro w hSw; (try dsimp only at hSw); go_simp; try with_reducible rfl)
  try simp only [Act.put, List.setIfInBounds_toArray, List.set_cons_zero, List.set_cons_succ]
  refine wpAnyH_take (i := 2) (oi := { dst := some 11, op := Op.fieldAddr 61 (Operand.tmp 10) 3, type := 0, pos := "pool.go:98", after := #[{ on := 1, ground := Ground.data }], guard := none }) (v := ?_) rfl (by kernel_rfl) (by kernel_rfl) (by kernel_rfl) (fun _ _ _ h => h) (Or.inl ⟨by rfl, ?_⟩) (by assumption) ?_
  rotate_left
  · (intro w hSw; (try dsimp only at hSw); go_simp; try with_reducible rfl)
  try simp only [Act.put, List.setIfInBounds_toArray, List.set_cons_zero, List.set_cons_succ]
  refine wpAnyH_take (i := 3) (oi := { dst := some 12, op := Op.load 59 (Operand.tmp 11), type := 59, pos := "pool.go:98", after := #[{ on := 2, ground := Ground.data }], guard := none }) (v := ?_) rfl (by kernel_rfl) (by kernel_rfl) (by kernel_rfl) (fun _ _ _ h => h) (Or.inl ⟨by rfl, ?_⟩) (by assumption) ?_
  rotate_left
  · (intro w hSw; (try dsimp only at hSw); go_simp; try with_reducible rfl)
  try simp only [Act.put, List.setIfInBounds_toArray, List.set_cons_zero, List.set_cons_succ]
  refine wpAnyH_take (i := 4) (oi := { dst := some 13, op := Op.move (Operand.tmp 1), type := 3, pos := "pool.go:98", after := #[], guard := none }) (v := ?_) rfl (by kernel_rfl) (by kernel_rfl) (by kernel_rfl) (fun _ _ _ h => h) (Or.inl ⟨by rfl, ?_⟩) (by assumption) ?_
  rotate_left
  · (intro w hSw; (try dsimp only at hSw); go_simp; try with_reducible rfl)
  try simp only [Act.put, List.setIfInBounds_toArray, List.set_cons_zero, List.set_cons_succ]
  refine wpAnyH_take (i := 5) (oi := { dst := some 14, op := Op.lookup 59 (Operand.tmp 12) (Operand.tmp 13) false, type := 71, pos := "pool.go:98", after := #[{ on := 3, ground := Ground.data }, { on := 4, ground := Ground.data }], guard := none }) (v := ?_) rfl (by kernel_rfl) (by kernel_rfl) (by kernel_rfl) (fun _ _ _ h => h) (Or.inl ⟨by rfl, ?_⟩) (by assumption) ?_
  rotate_left
  · (intro w hSw; (try dsimp only at hSw); have hl := look_hit hSw.1 hf false; go_simp; try with_reducible rfl)
  try simp only [Act.put, List.setIfInBounds_toArray, List.set_cons_zero, List.set_cons_succ]
  refine wpAnyH_take (i := 6) (oi := { dst := some 15, op := Op.move (Operand.tmp 0), type := 24, pos := "pool.go:98", after := #[{ on := 12, ground := Ground.gcOnly Departure.lateStores }], guard := none }) (v := ?_) rfl (by kernel_rfl) (by kernel_rfl) (by kernel_rfl) (fun _ _ _ h => h) (Or.inl ⟨by rfl, ?_⟩) (by assumption) ?_
  rotate_left
  · (intro w hSw; (try dsimp only at hSw); go_simp; try with_reducible rfl)
  try simp only [Act.put, List.setIfInBounds_toArray, List.set_cons_zero, List.set_cons_succ]
  refine wpAnyH_take (i := 7) (oi := { dst := some 16, op := Op.nilCheck (Operand.tmp 15), type := 0, pos := "pool.go:98", after := #[{ on := 6, ground := Ground.data }, { on := 12, ground := Ground.gcOnly Departure.lateStores }], guard := none }) (v := ?_) rfl (by kernel_rfl) (by kernel_rfl) (by kernel_rfl) (fun _ _ _ h => h) (Or.inl ⟨by rfl, ?_⟩) (by assumption) ?_
  rotate_left
  · (intro w hSw; (try dsimp only at hSw); go_simp; try with_reducible rfl)
  try simp only [Act.put, List.setIfInBounds_toArray, List.set_cons_zero, List.set_cons_succ]
  refine wpAnyH_take (i := 8) (oi := { dst := some 17, op := Op.fieldAddr 61 (Operand.tmp 16) 3, type := 0, pos := "pool.go:98", after := #[{ on := 7, ground := Ground.data }, { on := 12, ground := Ground.gcOnly Departure.lateStores }], guard := none }) (v := ?_) rfl (by kernel_rfl) (by kernel_rfl) (by kernel_rfl) (fun _ _ _ h => h) (Or.inl ⟨by rfl, ?_⟩) (by assumption) ?_
  rotate_left
  · (intro w hSw; (try dsimp only at hSw); go_simp; try with_reducible rfl)
  try simp only [Act.put, List.setIfInBounds_toArray, List.set_cons_zero, List.set_cons_succ]
  refine wpAnyH_take (i := 9) (oi := { dst := some 18, op := Op.load 59 (Operand.tmp 17), type := 59, pos := "pool.go:98", after := #[{ on := 8, ground := Ground.data }, { on := 12, ground := Ground.gcOnly Departure.lateStores }], guard := none }) (v := ?_) rfl (by kernel_rfl) (by kernel_rfl) (by kernel_rfl) (fun _ _ _ h => h) (Or.inl ⟨by rfl, ?_⟩) (by assumption) ?_
  rotate_left
  · (intro w hSw; (try dsimp only at hSw); go_simp; try with_reducible rfl)
  try simp only [Act.put, List.setIfInBounds_toArray, List.set_cons_zero, List.set_cons_succ]
  refine wpAnyH_take (i := 10) (oi := { dst := some 19, op := Op.move (Operand.tmp 2), type := 3, pos := "pool.go:98", after := #[{ on := 12, ground := Ground.gcOnly Departure.lateStores }], guard := none }) (v := ?_) rfl (by kernel_rfl) (by kernel_rfl) (by kernel_rfl) (fun _ _ _ h => h) (Or.inl ⟨by rfl, ?_⟩) (by assumption) ?_
  rotate_left
  · (intro w hSw; (try dsimp only at hSw); go_simp; try with_reducible rfl)
  try simp only [Act.put, List.setIfInBounds_toArray, List.set_cons_zero, List.set_cons_succ]
  refine wpAnyH_take (i := 11) (oi := { dst := some 20, op := Op.lookup 59 (Operand.tmp 18) (Operand.tmp 19) false, type := 71, pos := "pool.go:98", after := #[{ on := 9, ground := Ground.data }, { on := 10, ground := Ground.data }, { on := 12, ground := Ground.gcOnly Departure.lateStores }], guard := none }) (v := ?_) rfl (by kernel_rfl) (by kernel_rfl) (by kernel_rfl) (fun _ _ _ h => h) (Or.inl ⟨by rfl, ?_⟩) (by assumption) ?_
  rotate_left
  · (intro w hSw; (try dsimp only at hSw); have hl := look_hit hSw.1 hg false; go_simp; try with_reducible rfl)
  try simp only [Act.put, List.setIfInBounds_toArray, List.set_cons_zero, List.set_cons_succ]
  refine wpAnyH_take (i := 12) (oi := { dst := some 7, op := Op.assign (Operand.tmp 14), type := 71, pos := "pool.go:98", after := #[{ on := 5, ground := Ground.data }, { on := 0, ground := Ground.phase }, { on := 1, ground := Ground.phase }, { on := 2, ground := Ground.phase }, { on := 3, ground := Ground.phase }, { on := 4, ground := Ground.phase }, { on := 5, ground := Ground.phase }, { on := 6, ground := Ground.textOnly Departure.lateStores }, { on := 7, ground := Ground.textOnly Departure.lateStores }, { on := 8, ground := Ground.textOnly Departure.lateStores }, { on := 9, ground := Ground.textOnly Departure.lateStores }, { on := 10, ground := Ground.textOnly Departure.lateStores }, { on := 11, ground := Ground.textOnly Departure.lateStores }], guard := none }) (v := ?_) rfl (by kernel_rfl) (by kernel_rfl) (by kernel_rfl) (fun _ _ _ h => h) (Or.inl ⟨by rfl, ?_⟩) (by assumption) ?_
  rotate_left
  · (intro w hSw; (try dsimp only at hSw); go_simp; try with_reducible rfl)
  try simp only [Act.put, List.setIfInBounds_toArray, List.set_cons_zero, List.set_cons_succ]
  refine wpAnyH_take (i := 13) (oi := { dst := some 8, op := Op.assign (Operand.tmp 20), type := 71, pos := "pool.go:98", after := #[{ on := 11, ground := Ground.data }, { on := 12, ground := Ground.chain }, { on := 0, ground := Ground.phase }, { on := 1, ground := Ground.phase }, { on := 2, ground := Ground.phase }, { on := 3, ground := Ground.phase }, { on := 4, ground := Ground.phase }, { on := 5, ground := Ground.phase }, { on := 6, ground := Ground.phase }, { on := 7, ground := Ground.phase }, { on := 8, ground := Ground.phase }, { on := 9, ground := Ground.phase }, { on := 10, ground := Ground.phase }, { on := 11, ground := Ground.phase }, { on := 12, ground := Ground.phase }], guard := none }) (v := ?_) rfl (by kernel_rfl) (by kernel_rfl) (by kernel_rfl) (fun _ _ _ h => h) (Or.inl ⟨by rfl, ?_⟩) (by assumption) ?_
  rotate_left
  · (intro w hSw; (try dsimp only at hSw); go_simp; try with_reducible rfl)
  try simp only [Act.put, List.setIfInBounds_toArray, List.set_cons_zero, List.set_cons_succ]
  refine wpAnyH_done (by kernel_rfl) ?_ _
  refine NoPanic.normal ?_
  obtain ⟨hp1, -⟩ := hHeld
  have hb0 : Below w.heap.size w w.drew := (Below.refl _ _).drew
  generalize w.drew = w0 at hp1 hb0 ⊢
  clear hc3
  have Hp := Lib.hid hp1
  clear hp1
  go_wp2_with fail
  refine (kf _ Hp.out).mono ?_
  rintro e w1 ⟨rfl, hb1⟩
  have Hp1 := Lib.hid (Hp.out.below hb1)
  have hB1 : Below w.heap.size w w1 := hb0.trans (hb1.mono hb0.size)
  clear hb1
  go_wp2_with fail
  refine (kg _ Hp1.out).mono ?_
  rintro e w2 ⟨rfl, hb2⟩
  have Hp2 := Lib.hid (Hp1.out.below hb2)
  have hB2 : Below w.heap.size w w2 := hB1.trans (hb2.mono hB1.size)
  clear hb2
  by_cases hFG : F = G
  rotate_left
  · have hd : ((F : Int) != (G : Int)) = true := by simp; omega
    go_wp2_with fail
    refine (kf _ Hp2.out).mono ?_
    rintro e w3 ⟨rfl, hb3⟩
    have Hp3 := Lib.hid (Hp2.out.below hb3)
    have hB3 : Below w.heap.size w w3 := hB2.trans (hb3.mono hB2.size)
    clear hb3
    go_wp2_with fail
    refine (kg _ Hp3.out).mono ?_
    rintro e w4 ⟨rfl, hb4⟩
    have hB4 : Below w.heap.size w w4 := hB3.trans (hb4.mono hB3.size)
    clear hb4
    go_wp2_with fail
    go_ret
    refine ⟨?_, hB4⟩
    simp [hFG]
  · have hd : ((F : Int) != (G : Int)) = false := by simp; omega
    go_wp2_with fail
    refine (lf _ Hp2.out).mono ?_
    rintro e w3 ⟨rfl, hb3⟩
    have Hp3 := Lib.hid (Hp2.out.below hb3)
    have hB3 : Below w.heap.size w w3 := hB2.trans (hb3.mono hB2.size)
    clear hb3
    go_wp2_with fail
    refine (lg _ Hp3.out).mono ?_
    rintro e w4 ⟨rfl, hb4⟩
    have hB4 : Below w.heap.size w w4 := hB3.trans (hb4.mono hB3.size)
    clear hb4
    go_wp2_with fail
    go_ret
    refine ⟨?_, hB4⟩
    simp [hFG]
end Go.Proofs.Ytjilpkmcddinaaa
end
