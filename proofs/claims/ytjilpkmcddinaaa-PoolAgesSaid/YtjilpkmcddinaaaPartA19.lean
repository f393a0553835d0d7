/-
  Texts of a proof over the translated program: proved evaluators and walks, part 19 of 20.
-/
import Derived.Test.YtjilpkmcddinaaaPartA18
import Derived.ArgAppend
import Derived.Below
import Derived.Carry
import Derived.Deep.RegionHeld3
import Derived.Deep.RegionLawGrows
import Derived.Deep.RegionWith
import Derived.Great.BuildSlice
import Derived.Ground.GgzProg
import Derived.Ground.SlgmProg
import Derived.Handy
import Derived.IntWalk
import Derived.Laws.BitsLemmas
import Derived.Laws.CopyOwn
import Derived.Laws.CopyRow
import Derived.Laws.IdiomStrings
import Derived.Laws.MakeOwn
import Derived.Laws.Rows
import Derived.Lib.Hide
import Derived.Lib.OwnBridge
import Derived.Lib.SlKeysI
import Derived.LoopTactic
import Derived.MapKept
import Derived.Maps.Ext
import Derived.Maps.Own
import Derived.Maps.OwnSet
import Derived.Maps.RangeWalk
import Derived.Maps.Views
import Derived.Orders
import Derived.OwnWalk
import Derived.Scope
import Derived.ScopeJumps
import Derived.Shelf.SlIterI.Nil
import Derived.Shelf.SlIterI.Sorted
import Derived.Shelf.Slices.Delete
import Derived.Shelf.SortM.Plain
import Derived.Shelf.SortM.SortNone
import Derived.Test.YtjilpkmcddinaaaProg
import Derived.WalkKit
import Derived.WalkMore
import Derived.WalkSpells
set_option linter.unusedVariables false
set_option linter.unusedSimpArgs false
set_option linter.unusedSectionVars false
set_option linter.unnecessarySimpa false
section
set_option maxRecDepth 100000
namespace Go.Proofs.Ytjilpkmcddinaaa
open Go.RowKit Go.Maps
theorem run_append_at {P : Program} (w : World) (t ty e : TypeId) (i : TypeInfo) (z : Value) (size bytes : Nat) (ht : P.underlying t = some (.slice e)) (hi : P.info? e = some i) (hz : i.zero = some z)
    (hsize : i.size = size) (hby : i.bytes = bytes) (hzs : z.cells.size = size) (hsz : 0 < size) (v : Value) (n : Nat) (xs : List Value) (hown : w.ownsRow 0 e size v n xs)
    (a : Addr) (m c : Nat) (news : List Value) (hl : news.length = m * size) (hnews : ∀ j u, news[j]? = some u → w.cell? (a.add j) = some u) (h1 : ∀ u ∈ news, u.oneCell' = true)
    (h63 : n + m ≤ maxLen) (hbytes : (n + m) * bytes ≤ 140737488355328) :
    ∃ v' w', (Builtin.append_ #[t, t] ty #[v, .slice (some a) m c]).run P w = .ok v' w' ∧ w'.ownsRow 0 e size v' (n + m) (xs ++ news) ∧ Chg w w' (· ∈ vblk v) ∧ (∀ b ∈ vblk v', b ∈ vblk v ∨ w.heap.size ≤ b) ∧ (∃ A n c, v' = .slice A n c) := by
  rcases hown.2 with ⟨rfl, rfl⟩ | ⟨g, cap, cur, rfl, hbg, hg, hnc, hcm, hcs, htake⟩
  · have hx : xs = [] := List.eq_nil_of_length_eq_zero (by simpa using hown.1)
    subst hx
    obtain ⟨v', w', r1, r2, r3, _⟩ := run_append_own (P := P) w w.heap.size t ty e i z size bytes ht hi hz hsize hby hzs hsz (.slice none 0 0) 0 [] (World.ownsRow_nil w _ e size) a m c news hl hnews h1 h63 hbytes (Nat.le_refl _)
    refine ⟨v', w', r1, ?_, Chg.grown r3, ?_, ?_⟩
    · obtain ⟨q1, q2⟩ := r2
      refine ⟨q1, ?_⟩
      rcases q2 with q | ⟨g, cap, cur, q, _, q3⟩
      · exact .inl q
      · exact .inr ⟨g, cap, cur, q, Nat.zero_le _, q3⟩
    · intro b hb
      rcases r2.2 with ⟨rfl, _⟩ | ⟨g, cap, cur, rfl, q, _⟩
      · simp [vblk] at hb
      · simp [vblk] at hb; subst hb; exact .inr q
    · rcases r2.2 with ⟨rfl, _⟩ | ⟨g, cap, cur, rfl, q, _⟩
      · exact ⟨_, _, _, rfl⟩
      · exact ⟨_, _, _, rfl⟩
  · by_cases hroom : n + m ≤ cap
    · obtain ⟨w', r1, r2, r3⟩ := run_append_fits (P := P) w 0 t ty e i size ht hi hsize g n cap xs hown a m c news hl hnews h1 hroom
      exact ⟨_, w', r1, r2, Chg.grown (v := .slice (some ⟨g, 0, none⟩) n cap) r3, fun b hb => .inl (by simpa [vblk] using hb), _, _, _, rfl⟩
    · obtain ⟨v', w', r1, r2, r3⟩ := run_append_arg_grows (P := P) w t ty e i z size bytes ht hi hz hsize hby hzs hsz ⟨g, 0, none⟩ n cap xs hown.1 (hown.cells (g := g) rfl) a m c news hl hnews (by omega) h63 hbytes
      refine ⟨v', w', r1, ?_, ⟨r3.os, r3.tape, r3.output, r3.size, fun b hb _ => r3.block b hb (by simp)⟩, ?_, ?_⟩
      · obtain ⟨q1, q2⟩ := r2
        refine ⟨q1, ?_⟩
        rcases q2 with q | ⟨g, cap, cur, q, _, q3⟩
        · exact .inl q
        · exact .inr ⟨g, cap, cur, q, Nat.zero_le _, q3⟩
      · intro b hb
        rcases r2.2 with ⟨rfl, _⟩ | ⟨g, cap, cur, rfl, q, _⟩
        · simp [vblk] at hb
        · simp [vblk] at hb; subst hb; exact .inr q
      · rcases r2.2 with ⟨rfl, _⟩ | ⟨g, cap, cur, rfl, q, _⟩
        · exact ⟨_, _, _, rfl⟩
        · exact ⟨_, _, _, rfl⟩
theorem oper_tapp {o : Oper} {a : Act} {w : World} {K : Act → World → Prop} {Q : Exit → Act → World → Prop} (s x : Operand) (ho : o.op = .call { callee := .builtin .append, args := #[s, x], argTypes := #[50, 50] })
    {v : Value} {ts : List Nat} (hs : a.eval s = v) (hown : w.ownsRow 0 3 1 v ts.length (ts.map i64v)) (hl : ts.length ≤ 8) (g t : Nat) (hx : a.eval x = .slice (some ⟨g, 0, none⟩) 1 1) (hc : w.cell? ⟨g, 0, none⟩ = some (.int .i64 (t : Int)))
    (h : ∀ v' w', w'.ownsRow 0 3 1 v' (ts ++ [t]).length ((ts ++ [t]).map i64v) → Chg w w' (· ∈ vblk v) → (∀ b ∈ vblk v', b ∈ vblk v ∨ w.heap.size ≤ b) → (∃ A n c, v' = .slice A n c) → K (a.put o.dst v') w') : o.wp Try.prog a w K Q := by
  obtain ⟨i3, hi3, hz0, hz1, hz2⟩ := info_parts Try.info3u
  obtain ⟨v', w', hrun, r1, r2, r3, r4⟩ := run_append_at (P := Try.prog) w 50 o.type 3 i3 (.int .i64 0) 1 8 Try.underlying50 hi3 hz0 hz1 hz2 rfl (by decide) v ts.length (ts.map i64v) hown ⟨g, 0, none⟩ 1 1 [i64v t] rfl (by
    intro j u hu
    have : j = 0 := by
      have := (List.getElem?_eq_some_iff.1 hu).1
      simpa using this
    subst this
    simp at hu
    subst hu
    exact hc) (by
    intro u hu
    simp at hu
    subst hu
    rfl) (by unfold maxLen; omega) (by omega)
  unfold Oper.wp
  simp [execOp, ho, resolve, invoke, builtin, hs, hx, hrun, Result.andThen]
  refine h v' w' ?_ r2 r3 r4
  rw [List.length_append, List.map_append]
  exact r1
def pushT (k : Nat) (ts : List Nat) (t : Nat) : List Nat := if (ts ++ [t]).length > k then (ts ++ [t]).tail else ts ++ [t]
theorem PoolI.tick {w : World} {pb mb fr k now : Nat} {S : List Fr} (h : PoolI w pb mb fr k now S) (hn : now + 1 < 2 ^ 31) : PoolI (w.setCell ⟨pb, 2, none⟩ (.int .i64 ((now + 1 : Nat) : Int))) pb mb fr k (now + 1) S := by
  have hb : ∀ q, q ≠ pb → (w.setCell ⟨pb, 2, none⟩ (.int .i64 ((now + 1 : Nat) : Int))).heap[q]? = w.heap[q]? := fun q hq => Below.heap_setCell w _ _ q hq
  refine ⟨heap_setCell_same w pb 2 _ 61 _ h.here, ?_, fun f hf => (h.frs f hf).stay fun q hq => hb q (fun e => (h.np f hf).1 (e ▸ hq)), h.apart, h.np, h.pm, h.k1, h.k8, h.f1, h.f2, hn, h.le⟩
  obtain ⟨D, hD, hK⟩ := h.map
  exact ⟨D, owns_at hD (hb mb h.pm.symm), hK⟩
theorem PoolI.timSet {w w1 : World} {pb mb fr k now : Nat} {f : Fr} {S : List Fr} (h : PoolI w pb mb fr k now (f :: S)) {v' : Value} {ts' : List Nat} (hc : Chg w w1 (· ∈ vblk f.tv)) (hr : w1.ownsRow 0 3 1 v' ts'.length (ts'.map i64v)) (hv : ∀ b ∈ vblk v', b ∈ vblk f.tv ∨ w.heap.size ≤ b)
    (hl : ts'.length ≤ 9) (ht : ∀ t ∈ ts', t < 2 ^ 31) : PoolI (w1.setCell ⟨f.fb, 2, none⟩ v') pb mb fr k now ({ f with tv := v', ts := ts' } :: S) ∧ Chg w (w1.setCell ⟨f.fb, 2, none⟩ v') (Own pb mb (f :: S)) := by
  have hI := h.frs f (by simp)
  have hn := h.np f (by simp)
  have h1 := List.pairwise_cons.1 h.apart
  have hlt := hI.lt
  have hfl : f.fb < w.heap.size := hlt f.fb (by simp [Fr.blks])
  have hdl : f.db < w.heap.size := hlt f.db (by simp [Fr.blks])
  have hh : w1.heap[f.fb]? = w.heap[f.fb]? := hc.block _ hfl hI.n2
  have hfn : f.fb ∉ vblk v' := fun q => by
    rcases hv _ q with q1 | q1
    · exact hI.n2 q1
    · omega
  have hdn : f.db ∉ vblk v' := fun q => by
    rcases hv _ q with q1 | q1
    · exact hI.n3 q1
    · omega
  have hoth : ∀ q, q < w.heap.size → q ∉ f.blks → (w1.setCell ⟨f.fb, 2, none⟩ v').heap[q]? = w.heap[q]? := fun q hq hne => (Below.heap_setCell w1 _ _ q (fun e => hne (by rw [show q = f.fb from e]; simp [Fr.blks]))).trans (hc.block q hq (fun e => hne (by simp [Fr.blks, e])))
  refine ⟨h.upd ?_ ?_ ?_ ?_ rfl rfl ?_ h.nn, ?_⟩
  · exact (hoth pb (h.lt pb (.inl rfl)) hn.1).trans h.here
  · exact hoth mb (h.lt mb (.inr (.inl rfl))) hn.2
  · intro g hg q hq
    exact hoth q ((h.frs g (by simp [hg])).lt q hq) (fun e => (h1.1 g hg).2 q e hq)
  · exact {
      here := heap_setCell_same w1 f.fb 2 _ 76 _ (hh.trans hI.here)
      data := (World.cell?_of_block (w := w1) (Below.heap_setCell w1 _ _ f.db (fun e => hI.n1 e.symm))).trans ((World.cell?_of_block (w := w) (a := ⟨f.db, 0, none⟩) (hc.block _ hdl hI.n3)).trans hI.data)
      dc1 := hI.dc1
      dc2 := hI.dc2
      tims := own_stay hr fun b hb => Below.heap_setCell w1 _ _ b (fun e => hfn (by have e' : b = f.fb := e; rw [← e']; exact hb))
      lo := hI.lo
      hi := hI.hi
      n1 := hI.n1
      n2 := hfn
      n3 := hdn
      ps := hI.ps
      tl := ht
      tn := hl }
  · intro q hq
    simp only [Fr.blks, List.mem_cons] at hq ⊢
    rcases hq with rfl | rfl | hq
    · exact .inl (.inl rfl)
    · exact .inl (.inr (.inl rfl))
    · rcases hv q hq with q1 | q1
      · exact .inl (.inr (.inr q1))
      · exact .inr q1
  · refine (hc.mono fun b hb => .inr (.inr ⟨f, by simp, by simp [Fr.blks, hb]⟩)).trans ((Chg.setCell w1 _ _).mono fun b e => .inr (.inr ⟨f, by simp, by rw [show b = f.fb from e]; simp [Fr.blks]⟩))
end Go.Proofs.Ytjilpkmcddinaaa
end

section
set_option maxRecDepth 100000
namespace Go.Proofs.Ytjilpkmcddinaaa
open Go.RowKit Go.Maps
def Touch (w : World) (pb mb fr k now : Nat) (f : Fr) (T : List Fr) (there : Bool) (e : Ending) (w' : World) : Prop :=
  ∃ (f' : Fr) (v : Value), e = .returned (.tuple #[v, .bool there, .int .i64 0]) ∧ f'.a = f.a ∧ f'.pins = f.pins + 1 ∧ f'.ts = pushT k f.ts (now + 1) ∧ PoolI w' pb mb fr k (now + 1) (f' :: T) ∧ w'.ownsRow w.heap.size 5 1 v 1 [.int .u8 (f.a : Int)] ∧ (∀ q ∈ f'.blks, q ∈ f.blks ∨ w.heap.size ≤ q) ∧ Chg w w' (Own pb mb (f :: T))
theorem own_same {pb mb : Nat} {f f' : Fr} {T : List Fr} (e : f'.blks = f.blks) {q : Nat} (h : Own pb mb (f' :: T) q) : Own pb mb (f :: T) q := by
  rcases h with h | h | ⟨g, hg, hq⟩
  · exact .inl h
  · exact .inr (.inl h)
  · rcases List.mem_cons.1 hg with rfl | hg
    · exact .inr (.inr ⟨f, by simp, e ▸ hq⟩)
    · exact .inr (.inr ⟨g, by simp [hg], hq⟩)
theorem tail_lt {l : List Nat} {b : Nat} (h : ∀ t ∈ l, t < b) : ∀ t ∈ l.tail, t < b := fun t ht => h t (List.mem_of_mem_tail ht)
theorem Try.pinHit {w : World} {pb mb fr k now b1 : Nat} {f : Fr} {T : List Fr} (hp : PoolI w pb mb fr k now (f :: T)) (hts : f.ts.length ≤ k) (hps : f.pins + 1 < 2 ^ 31) (hnow : now + 1 < 2 ^ 31) :
    Calls Try.prog 11 #[.pointer (some ⟨pb, 0, none⟩), .pointer (some ⟨b1, 0, none⟩), .agg #[.int .i64 (f.a : Int), .int .i64 1]] w fun e w' => Touch w pb mb fr k now f T true e w' := by
  have Hp := Lib.hid hp
  have Hts := Lib.hid hts
  have Hps := Lib.hid hps
  have Hnow := Lib.hid hnow
  have HF : Hid (f ∈ f :: T) := Lib.hid (by simp)
  clear hp hts hps hnow
  go_enter Try.func11, Try.ntmps11
  go_upto_region 1 with fail
  have hE0 : (w.alloc (.cells #[.int .i64 (f.a : Int), .int .i64 1] 38)).heap[w.heap.size]? = some (.cells #[.int .i64 (f.a : Int), .int .i64 1] 38 (0, 0)) := heap_alloc_new _ _
  have hb0 := (Below.refl w.heap.size w).alloc (Nat.le_refl _) (.cells #[.int .i64 (f.a : Int), .int .i64 1] 38)
  have hsz : (w.alloc (.cells #[.int .i64 (f.a : Int), .int .i64 1] 38)).heap.size = w.heap.size + 1 := by simp
  generalize w.alloc (.cells #[.int .i64 (f.a : Int), .int .i64 1] 38) = w0 at hE0 hb0 hsz ⊢
  obtain ⟨eb, heb⟩ : ∃ eb, eb = w.heap.size := ⟨_, rfl⟩
  rw [← heb] at hE0 ⊢
  have hE00 : w0.cell? ⟨eb, 0, none⟩ = some (.int .i64 (f.a : Int)) := cell_of_row w0 eb 0 _ 38 (0, 0) hE0
  have hel : w.heap.size ≤ eb := by omega
  have hel2 : eb < w0.heap.size := by omega
  clear heb hsz
  have Hp0 := Lib.hid (Hp.out.below hb0)
  have hc3 := Hp0.out.c3
  have HE0 := Lib.hid hE0
  have Hb0 := Lib.hid hb0
  clear hE0 hb0
  refine wp_region_noPanic ?_
  refine wp_region_held_drew (S := (fun W => PoolI W pb mb fr k now (f :: T) ∧ W.cell? ⟨pb, 3, none⟩ = some (.map (some mb)) ∧ W.cell? ⟨eb, 0, none⟩ = some (.int .i64 (f.a : Int)))) (by kernel_rfl) ?_ (fun hHeld => ?_)
  · exact ⟨Hp0.out.below (Below.refl _ _).drew, hc3, hE00⟩
  refine wpAnyH_take (i := 0) (oi := { dst := some 14, op := Op.move (Operand.tmp 0), type := 24, pos := "pool.go:41", after := #[], guard := none }) (v := ?_) rfl (by kernel_rfl) (by kernel_rfl) (by kernel_rfl) (fun _ _ _ h => h) (Or.inl ⟨by rfl, ?_⟩) (by assumption) ?_
  rotate_left
  · (intro w hSw; (try dsimp only at hSw); go_simp; try with_reducible rfl)
  try simp only [Act.put, List.setIfInBounds_toArray, List.set_cons_zero, List.set_cons_succ]
  refine wpAnyH_take (i := 1) (oi := { dst := some 15, op := Op.nilCheck (Operand.tmp 14), type := 0, pos := "pool.go:41", after := #[{ on := 0, ground := Ground.data }], guard := none }) (v := ?_) rfl (by kernel_rfl) (by kernel_rfl) (by kernel_rfl) (fun _ _ _ h => h) (Or.inl ⟨by rfl, ?_⟩) (by assumption) ?_
  rotate_left
  · (intro w hSw; (try dsimp only at hSw); go_simp; try with_reducible rfl)
  try simp only [Act.put, List.setIfInBounds_toArray, List.set_cons_zero, List.set_cons_succ]
  refine wpAnyH_take (i := 2) (oi := { dst := some 16, op := Op.fieldAddr 61 (Operand.tmp 15) 3, type := 0, pos := "pool.go:41", after := #[{ on := 1, ground := Ground.data }], guard := none }) (v := ?_) rfl (by kernel_rfl) (by kernel_rfl) (by kernel_rfl) (fun _ _ _ h => h) (Or.inl ⟨by rfl, ?_⟩) (by assumption) ?_
  rotate_left
  · (intro w hSw; (try dsimp only at hSw); go_simp; try with_reducible rfl)
  try simp only [Act.put, List.setIfInBounds_toArray, List.set_cons_zero, List.set_cons_succ]
  refine wpAnyH_take (i := 3) (oi := { dst := some 17, op := Op.load 59 (Operand.tmp 16), type := 59, pos := "pool.go:41", after := #[{ on := 2, ground := Ground.data }], guard := none }) (v := ?_) rfl (by kernel_rfl) (by kernel_rfl) (by kernel_rfl) (fun _ _ _ h => h) (Or.inl ⟨by rfl, ?_⟩) (by assumption) ?_
  rotate_left
  · (intro w hSw; (try dsimp only at hSw); go_simp; try with_reducible rfl)
  try simp only [Act.put, List.setIfInBounds_toArray, List.set_cons_zero, List.set_cons_succ]
  refine wpAnyH_take (i := 4) (oi := { dst := some 18, op := Op.fieldAddr 38 (Operand.tmp 5) 0, type := 0, pos := "pool.go:41", after := #[], guard := none }) (v := ?_) rfl (by kernel_rfl) (by kernel_rfl) (by kernel_rfl) (fun _ _ _ h => h) (Or.inl ⟨by rfl, ?_⟩) (by assumption) ?_
  rotate_left
  · (intro w hSw; (try dsimp only at hSw); go_simp; try with_reducible rfl)
  try simp only [Act.put, List.setIfInBounds_toArray, List.set_cons_zero, List.set_cons_succ]
  refine wpAnyH_take (i := 5) (oi := { dst := some 19, op := Op.load 3 (Operand.tmp 18), type := 3, pos := "pool.go:41", after := #[{ on := 4, ground := Ground.data }], guard := none }) (v := ?_) rfl (by kernel_rfl) (by kernel_rfl) (by kernel_rfl) (fun _ _ _ h => h) (Or.inl ⟨by rfl, ?_⟩) (by assumption) ?_
  rotate_left
  · (intro w hSw; (try dsimp only at hSw); go_simp; try with_reducible rfl)
  try simp only [Act.put, List.setIfInBounds_toArray, List.set_cons_zero, List.set_cons_succ]
  refine wpAnyH_take (i := 6) (oi := { dst := some 20, op := Op.lookup 59 (Operand.tmp 17) (Operand.tmp 19) true, type := 72, pos := "pool.go:41", after := #[{ on := 3, ground := Ground.data }, { on := 5, ground := Ground.data }], guard := none }) (v := ?_) rfl (by kernel_rfl) (by kernel_rfl) (by kernel_rfl) (fun _ _ _ h => h) (Or.inl ⟨by rfl, ?_⟩) (by assumption) ?_
  rotate_left
  · (intro w hSw; (try dsimp only at hSw); have hl := look_hit hSw.1 HF.out true; go_simp; try with_reducible rfl)
  try simp only [Act.put, List.setIfInBounds_toArray, List.set_cons_zero, List.set_cons_succ]
  refine wpAnyH_take (i := 7) (oi := { dst := some 13, op := Op.move (Operand.tmp 20), type := 72, pos := "pool.go:41", after := #[{ on := 6, ground := Ground.data }], guard := none }) (v := ?_) rfl (by kernel_rfl) (by kernel_rfl) (by kernel_rfl) (fun _ _ _ h => h) (Or.inl ⟨by rfl, ?_⟩) (by assumption) ?_
  rotate_left
  · (intro w hSw; (try dsimp only at hSw); go_simp; try with_reducible rfl)
  try simp only [Act.put, List.setIfInBounds_toArray, List.set_cons_zero, List.set_cons_succ]
  refine wpAnyH_take (i := 8) (oi := { dst := some 21, op := Op.extract (Operand.tmp 13) 0, type := 71, pos := "pool.go:41", after := #[{ on := 7, ground := Ground.data }], guard := none }) (v := ?_) rfl (by kernel_rfl) (by kernel_rfl) (by kernel_rfl) (fun _ _ _ h => h) (Or.inl ⟨by rfl, ?_⟩) (by assumption) ?_
  rotate_left
  · (intro w hSw; (try dsimp only at hSw); go_simp; try with_reducible rfl)
  try simp only [Act.put, List.setIfInBounds_toArray, List.set_cons_zero, List.set_cons_succ]
  refine wpAnyH_take (i := 10) (oi := { dst := some 9, op := Op.assign (Operand.tmp 21), type := 71, pos := "pool.go:41", after := #[{ on := 8, ground := Ground.data }, { on := 0, ground := Ground.phase }, { on := 1, ground := Ground.phase }, { on := 2, ground := Ground.phase }, { on := 3, ground := Ground.phase }, { on := 4, ground := Ground.phase }, { on := 5, ground := Ground.phase }, { on := 6, ground := Ground.phase }, { on := 7, ground := Ground.phase }, { on := 8, ground := Ground.phase }, { on := 9, ground := Ground.textOnly Departure.lateStores }], guard := none }) (v := ?_) rfl (by kernel_rfl) (by kernel_rfl) (by kernel_rfl) (fun _ _ _ h => h) (Or.inl ⟨by rfl, ?_⟩) (by assumption) ?_
  rotate_left
  · (intro w hSw; (try dsimp only at hSw); go_simp; try with_reducible rfl)
  try simp only [Act.put, List.setIfInBounds_toArray, List.set_cons_zero, List.set_cons_succ]
  refine wpAnyH_take (i := 9) (oi := { dst := some 22, op := Op.extract (Operand.tmp 13) 1, type := 4, pos := "pool.go:41", after := #[{ on := 7, ground := Ground.data }, { on := 10, ground := Ground.gcOnly Departure.lateStores }], guard := none }) (v := ?_) rfl (by kernel_rfl) (by kernel_rfl) (by kernel_rfl) (fun _ _ _ h => h) (Or.inl ⟨by rfl, ?_⟩) (by assumption) ?_
  rotate_left
  · (intro w hSw; (try dsimp only at hSw); go_simp; try with_reducible rfl)
  try simp only [Act.put, List.setIfInBounds_toArray, List.set_cons_zero, List.set_cons_succ]
  refine wpAnyH_take (i := 11) (oi := { dst := some 10, op := Op.assign (Operand.tmp 22), type := 4, pos := "pool.go:41", after := #[{ on := 9, ground := Ground.data }, { on := 10, ground := Ground.chain }, { on := 0, ground := Ground.phase }, { on := 1, ground := Ground.phase }, { on := 2, ground := Ground.phase }, { on := 3, ground := Ground.phase }, { on := 4, ground := Ground.phase }, { on := 5, ground := Ground.phase }, { on := 6, ground := Ground.phase }, { on := 7, ground := Ground.phase }, { on := 8, ground := Ground.phase }, { on := 9, ground := Ground.phase }, { on := 10, ground := Ground.phase }], guard := none }) (v := ?_) rfl (by kernel_rfl) (by kernel_rfl) (by kernel_rfl) (fun _ _ _ h => h) (Or.inl ⟨by rfl, ?_⟩) (by assumption) ?_
  rotate_left
  · (intro w hSw; (try dsimp only at hSw); go_simp; try with_reducible rfl)
  try simp only [Act.put, List.setIfInBounds_toArray, List.set_cons_zero, List.set_cons_succ]
  refine wpAnyH_done (by kernel_rfl) ?_ _
  refine NoPanic.normal ?_
  have HpF := Lib.hid hHeld.1
  clear hHeld hE00 hc3
  generalize hw1 : w0.drew = w1 at HpF ⊢
  have HB1 : Hid (Below w.heap.size w w1) := Lib.hid (by rw [← hw1]; exact Hb0.out.drew)
  clear hw1
  have hc2 := HpF.out.c2
  have hfz2 : w1.frozen? ⟨pb, 2, none⟩ = false := frozen_of_row w1 pb 2 _ 61 HpF.out.here
  have hwn : IntKind.i64.wrap ((now : Int) + 1) = (now : Int) + 1 := by have := Hnow.out; rw [IntKind.wrap_i64]; omega
  have HpN := Lib.hid (HpF.out.tick Hnow.out)
  have HC1 : Hid (Chg w1 (w1.setCell ⟨pb, 2, none⟩ (.int .i64 ((now + 1 : Nat) : Int))) (Own pb mb (f :: T))) := Lib.hid ((Chg.setCell _ _ _).mono fun b e => .inl e)
  go_upto_region 8 with fail
  rw [show ((now : Int) + 1) = ((now + 1 : Nat) : Int) by omega]
  generalize w1.setCell ⟨pb, 2, none⟩ (.int .i64 ((now + 1 : Nat) : Int)) = W2 at HpN HC1 ⊢
  clear hc2 hfz2 hwn
  have hp1 := (HpN.out.frs f (by simp)).c1
  have hfz1 : W2.frozen? ⟨f.fb, 1, none⟩ = false := frozen_of_row _ f.fb 1 _ 76 (HpN.out.frs f (by simp)).here
  have hwp : IntKind.i64.wrap ((f.pins : Int) + 1) = (f.pins : Int) + 1 := by have := Hps.out; rw [IntKind.wrap_i64]; omega
  obtain ⟨hpP, hcP⟩ := HpN.out.pinSet (f := f) (p := f.pins + 1) (by have := Hps.out; omega)
  have HpP := Lib.hid hpP
  have HC2 := Lib.hid (HC1.out.trans hcP)
  clear hpP hcP
  go_upto_region 9 with fail
  rw [show ((f.pins : Int) + 1) = ((f.pins + 1 : Nat) : Int) by omega]
  generalize W2.setCell ⟨f.fb, 1, none⟩ (.int .i64 ((f.pins + 1 : Nat) : Int)) = W3 at HpP HC2 ⊢
  clear hp1 hfz1 hwp
  have hI3 := HpP.out.frs _ (List.mem_cons_self ..)
  have hct : W3.cell? ⟨f.fb, 2, none⟩ = some f.tv := hI3.c2
  have hcn : W3.cell? ⟨pb, 2, none⟩ = some (.int .i64 ((now + 1 : Nat) : Int)) := HpP.out.c2
  have Htm : Hid (W3.ownsRow 0 3 1 f.tv f.ts.length (f.ts.map i64v)) := Lib.hid hI3.tims
  have Hhe : Hid (W3.heap[f.fb]? = some (.cells #[.slice (some ⟨f.db, 0, none⟩) 1 f.dc, .int .i64 ((f.pins + 1 : Nat) : Int), f.tv] 76 (0, 0))) := Lib.hid hI3.here
  have Hnv : Hid (f.fb ∉ vblk f.tv) := Lib.hid hI3.n2
  have htl8 : f.ts.length ≤ 8 := by have := Hts.out; have := HpF.out.k8; omega
  have Htl8 := Lib.hid htl8
  have Htlt : Hid (∀ t ∈ f.ts, t < 2 ^ 31) := Lib.hid hI3.tl
  have hfl := hI3.lt f.fb (by simp [Fr.blks])
  clear hI3 htl8
  obtain ⟨NN, hNN⟩ : ∃ NN, NN = now + 1 := ⟨_, rfl⟩
  rw [← hNN] at hcn HpP ⊢
  have HNN := Lib.hid hNN
  clear hNN
  have Hpv : Hid (pb ∉ vblk f.tv) := Lib.hid (fun q => (HpF.out.np f (by simp)).1 (by simp [Fr.blks, q]))
  have hpf : pb ≠ f.fb := fun e => (HpF.out.np f (by simp)).1 (by rw [e]; simp [Fr.blks])
  refine wp_region_noPanic ?_
  refine wp_region_held_drew (S := (fun W => W.cell? ⟨pb, 2, none⟩ = some (.int .i64 (NN : Int)))) (by kernel_rfl) ?_ (fun hHeld => ?_)
  · exact hcn
  refine wpAnyH_take (i := 0) (oi := { dst := some 50, op := Op.move (Operand.tmp 9), type := 71, pos := "pool.go:51", after := #[], guard := none }) (v := ?_) rfl (by kernel_rfl) (by kernel_rfl) (by kernel_rfl) (fun _ _ _ h => h) (Or.inl ⟨by rfl, ?_⟩) (by assumption) ?_
  rotate_left
  · (intro w hSw; (try dsimp only at hSw); go_simp; try with_reducible rfl)
  try simp only [Act.put, List.setIfInBounds_toArray, List.set_cons_zero, List.set_cons_succ]
  refine wpAnyH_take (i := 1) (oi := { dst := some 51, op := Op.move (Operand.tmp 9), type := 71, pos := "pool.go:51", after := #[], guard := none }) (v := ?_) rfl (by kernel_rfl) (by kernel_rfl) (by kernel_rfl) (fun _ _ _ h => h) (Or.inl ⟨by rfl, ?_⟩) (by assumption) ?_
  rotate_left
  · (intro w hSw; (try dsimp only at hSw); go_simp; try with_reducible rfl)
  try simp only [Act.put, List.setIfInBounds_toArray, List.set_cons_zero, List.set_cons_succ]
  refine wpAnyH_take (i := 2) (oi := { dst := some 52, op := Op.nilCheck (Operand.tmp 51), type := 0, pos := "pool.go:51", after := #[{ on := 1, ground := Ground.data }], guard := none }) (v := ?_) rfl (by kernel_rfl) (by kernel_rfl) (by kernel_rfl) (fun _ _ _ h => h) (Or.inl ⟨by rfl, ?_⟩) (by assumption) ?_
  rotate_left
  · (intro w hSw; (try dsimp only at hSw); go_simp; try with_reducible rfl)
  try simp only [Act.put, List.setIfInBounds_toArray, List.set_cons_zero, List.set_cons_succ]
  refine wpAnyH_take (i := 3) (oi := { dst := some 53, op := Op.fieldAddr 76 (Operand.tmp 52) 2, type := 0, pos := "pool.go:51", after := #[{ on := 2, ground := Ground.data }], guard := none }) (v := ?_) rfl (by kernel_rfl) (by kernel_rfl) (by kernel_rfl) (fun _ _ _ h => h) (Or.inl ⟨by rfl, ?_⟩) (by assumption) ?_
  rotate_left
  · (intro w hSw; (try dsimp only at hSw); go_simp; try with_reducible rfl)
  try simp only [Act.put, List.setIfInBounds_toArray, List.set_cons_zero, List.set_cons_succ]
  refine wpAnyH_take (i := 5) (oi := { dst := some 55, op := Op.move (Operand.tmp 0), type := 24, pos := "pool.go:51", after := #[], guard := none }) (v := ?_) rfl (by kernel_rfl) (by kernel_rfl) (by kernel_rfl) (fun _ _ _ h => h) (Or.inl ⟨by rfl, ?_⟩) (by assumption) ?_
  rotate_left
  · (intro w hSw; (try dsimp only at hSw); go_simp; try with_reducible rfl)
  try simp only [Act.put, List.setIfInBounds_toArray, List.set_cons_zero, List.set_cons_succ]
  refine wpAnyH_take (i := 6) (oi := { dst := some 56, op := Op.nilCheck (Operand.tmp 55), type := 0, pos := "pool.go:51", after := #[{ on := 5, ground := Ground.data }], guard := none }) (v := ?_) rfl (by kernel_rfl) (by kernel_rfl) (by kernel_rfl) (fun _ _ _ h => h) (Or.inl ⟨by rfl, ?_⟩) (by assumption) ?_
  rotate_left
  · (intro w hSw; (try dsimp only at hSw); go_simp; try with_reducible rfl)
  try simp only [Act.put, List.setIfInBounds_toArray, List.set_cons_zero, List.set_cons_succ]
  refine wpAnyH_take (i := 7) (oi := { dst := some 57, op := Op.fieldAddr 61 (Operand.tmp 56) 2, type := 0, pos := "pool.go:51", after := #[{ on := 6, ground := Ground.data }], guard := none }) (v := ?_) rfl (by kernel_rfl) (by kernel_rfl) (by kernel_rfl) (fun _ _ _ h => h) (Or.inl ⟨by rfl, ?_⟩) (by assumption) ?_
  rotate_left
  · (intro w hSw; (try dsimp only at hSw); go_simp; try with_reducible rfl)
  try simp only [Act.put, List.setIfInBounds_toArray, List.set_cons_zero, List.set_cons_succ]
  refine wpAnyH_take (i := 8) (oi := { dst := some 58, op := Op.load 3 (Operand.tmp 57), type := 3, pos := "pool.go:51", after := #[{ on := 7, ground := Ground.data }], guard := none }) (v := ?_) rfl (by kernel_rfl) (by kernel_rfl) (by kernel_rfl) (fun _ _ _ h => h) (Or.inl ⟨by rfl, ?_⟩) (by assumption) ?_
  rotate_left
  · (intro w hSw; (try dsimp only at hSw); go_simp; try with_reducible rfl)
  try simp only [Act.put, List.setIfInBounds_toArray, List.set_cons_zero, List.set_cons_succ]
  refine wpAnyH_ready (rs := [4, 9]) (by kernel_rfl) (by simp) ?_
  refine AllReadyH.cons (o := { dst := some 54, op := Op.load 50 (Operand.tmp 53), type := 50, pos := "pool.go:51", after := #[{ on := 3, ground := Ground.data }], guard := none }) rfl (fun K hK => ?_) ?_
  · skip
    go_simp
    refine hK.out _ _ ?_ (fun hHeld => ?_)
    · exact hcn
    clear hK K
    try simp only [Act.put, List.setIfInBounds_toArray, List.set_cons_zero, List.set_cons_succ]
    refine wpAnyH_ready (rs := [9]) (by kernel_rfl) (by simp) ?_
    refine AllReadyH.cons (o := { dst := some 59, op := Op.buildSlice 50 1 #[(0, Operand.tmp 58)], type := 50, pos := "pool.go:51", after := #[{ on := 8, ground := Ground.data }], guard := none }) rfl (fun K hK => ?_) ?_
    · skip
      go_simp
      have hcg : ((W3.alloc (.cells #[.int .i64 (NN : Int)] 3)).drew).cell? ⟨W3.heap.size, 0, none⟩ = some (.int .i64 (NN : Int)) := cell_of_row _ _ 0 _ 3 (0, 0) (heap_alloc_new _ _)
      have hCA : Chg W3 ((W3.alloc (.cells #[.int .i64 (NN : Int)] 3)).drew) (· ∈ vblk f.tv) := (Chg.alloc W3 _ _).drew
      have hsA : ((W3.alloc (.cells #[.int .i64 (NN : Int)] 3)).drew).heap.size = W3.heap.size + 1 := by simp
      have hct4 := (World.cell?_of_block (w := W3) (a := ⟨f.fb, 2, none⟩) (hCA.block f.fb hfl Hnv.out)).trans hct
      have hcn4 : ((W3.alloc (.cells #[.int .i64 (NN : Int)] 3)).drew).cell? ⟨pb, 2, none⟩ = some (.int .i64 (NN : Int)) := (World.cell?_of_block (w := W3) (a := ⟨pb, 2, none⟩) (Below.heap_alloc W3 (.cells #[.int .i64 (NN : Int)] 3) pb (block_lt_of_cell hcn))).trans hcn
      have Hro4 : Hid (((W3.alloc (.cells #[.int .i64 (NN : Int)] 3)).drew).ownsRow 0 3 1 f.tv f.ts.length (f.ts.map i64v)) := Lib.hid (own_stay Htm.out fun b hb => Below.heap_alloc W3 _ b (HpP.out.frs _ (List.mem_cons_self ..) |>.lt b (by simp [Fr.blks, hb])))
      have HCA := Lib.hid hCA
      have HsA := Lib.hid hsA
      obtain ⟨gg, hgg⟩ : ∃ gg, W3.heap.size = gg := ⟨_, rfl⟩
      rw [hgg] at hcg
      rw [hgg]
      clear hgg hCA hsA
      generalize (W3.alloc (.cells #[.int .i64 (NN : Int)] 3)).drew = W4 at hcg hct4 hcn4 Hro4 HCA HsA ⊢
      refine hK.out _ _ ?_ (fun hHeld => ?_)
      · exact hcn4
      clear hK K
      try simp only [Act.put, List.setIfInBounds_toArray, List.set_cons_zero, List.set_cons_succ]
      refine wpAnyH_ready (rs := [10]) (by kernel_rfl) (by simp) ?_
      refine AllReadyH.cons (o := { dst := some 60, op := Op.call { callee := Callee.builtin Builtin.append, args := #[Operand.tmp 54, Operand.tmp 59], argTypes := #[50, 50] }, type := 50, pos := "pool.go:51", after := #[{ on := 4, ground := Ground.data }, { on := 9, ground := Ground.data }], guard := none }) rfl (fun K hK => ?_) ?_
      · skip
        refine oper_tapp _ _ rfl rfl Hro4.out Htl8.out gg NN rfl hcg ?_
        rintro v5 W5 hr5 hc5 hv5 ⟨A5, n5, c5, rfl⟩
        have Hr5 := Lib.hid hr5
        have Hc5 : Hid (Chg W3 W5 (· ∈ vblk f.tv)) := Lib.hid (HCA.out.trans hc5)
        have Hv5 : Hid (∀ b ∈ vblk (.slice A5 n5 c5), b ∈ vblk f.tv ∨ W3.heap.size ≤ b) := Lib.hid (fun b hb => (hv5 b hb).imp id (fun h => by have := HsA.out; omega))
        have hh5 : W5.heap[f.fb]? = W3.heap[f.fb]? := Hc5.out.block f.fb hfl Hnv.out
        have hc5x : W5.cell? ⟨f.fb, 2, none⟩ = some f.tv := (World.cell?_of_block (w := W3) (a := ⟨f.fb, 2, none⟩) hh5).trans hct
        have hf5 : W5.frozen? ⟨f.fb, 2, none⟩ = false := frozen_of_row _ f.fb 2 _ 76 (hh5.trans Hhe.out)
        have hcn5 : W5.cell? ⟨pb, 2, none⟩ = some (.int .i64 (NN : Int)) := (World.cell?_of_block (w := W3) (a := ⟨pb, 2, none⟩) (Hc5.out.block pb (block_lt_of_cell hcn) Hpv.out)).trans hcn
        clear hr5 hc5 hv5 hcg hct4 hh5 hcn4
        refine hK.out _ _ ?_ (fun hHeld => ?_)
        · exact hcn5
        clear hK K
        try simp only [Act.put, List.setIfInBounds_toArray, List.set_cons_zero, List.set_cons_succ]
        refine wpAnyH_take (i := 11) (oi := { dst := some 61, op := Op.nilCheck (Operand.tmp 50), type := 0, pos := "pool.go:51", after := #[{ on := 0, ground := Ground.data }, { on := 0, ground := Ground.phase }, { on := 1, ground := Ground.phase }, { on := 2, ground := Ground.phase }, { on := 3, ground := Ground.phase }, { on := 4, ground := Ground.phase }, { on := 5, ground := Ground.phase }, { on := 6, ground := Ground.phase }, { on := 7, ground := Ground.phase }, { on := 8, ground := Ground.phase }, { on := 9, ground := Ground.phase }, { on := 10, ground := Ground.phase }], guard := none }) (v := ?_) rfl (by kernel_rfl) (by kernel_rfl) (by kernel_rfl) (fun _ _ _ h => h) (Or.inl ⟨by rfl, ?_⟩) (by assumption) ?_
        rotate_left
        · (intro w hSw; (try dsimp only at hSw); go_simp; try with_reducible rfl)
        try simp only [Act.put, List.setIfInBounds_toArray, List.set_cons_zero, List.set_cons_succ]
        refine wpAnyH_take (i := 12) (oi := { dst := some 62, op := Op.fieldAddr 76 (Operand.tmp 61) 2, type := 0, pos := "pool.go:51", after := #[{ on := 11, ground := Ground.data }, { on := 0, ground := Ground.phase }, { on := 1, ground := Ground.phase }, { on := 2, ground := Ground.phase }, { on := 3, ground := Ground.phase }, { on := 4, ground := Ground.phase }, { on := 5, ground := Ground.phase }, { on := 6, ground := Ground.phase }, { on := 7, ground := Ground.phase }, { on := 8, ground := Ground.phase }, { on := 9, ground := Ground.phase }, { on := 10, ground := Ground.phase }], guard := none }) (v := ?_) rfl (by kernel_rfl) (by kernel_rfl) (by kernel_rfl) (fun _ _ _ h => h) (Or.inl ⟨by rfl, ?_⟩) (by assumption) ?_
        rotate_left
        · (intro w hSw; (try dsimp only at hSw); go_simp; try with_reducible rfl)
        try simp only [Act.put, List.setIfInBounds_toArray, List.set_cons_zero, List.set_cons_succ]
        refine wpAnyH_ready (rs := [13]) (by kernel_rfl) (by simp) ?_
        refine AllReadyH.cons (o := { dst := none, op := Op.store 50 (Operand.tmp 62) (Operand.tmp 60), type := 0, pos := "pool.go:51", after := #[{ on := 12, ground := Ground.data }, { on := 10, ground := Ground.data }, { on := 10, ground := Ground.chain }, { on := 0, ground := Ground.phase }, { on := 1, ground := Ground.phase }, { on := 2, ground := Ground.phase }, { on := 3, ground := Ground.phase }, { on := 4, ground := Ground.phase }, { on := 5, ground := Ground.phase }, { on := 6, ground := Ground.phase }, { on := 7, ground := Ground.phase }, { on := 8, ground := Ground.phase }, { on := 9, ground := Ground.phase }, { on := 10, ground := Ground.phase }], guard := none }) rfl (fun K hK => ?_) ?_
        · skip
          go_simp
          have hcn6 : (W5.setCell ⟨f.fb, 2, none⟩ (.slice A5 n5 c5)).cell? ⟨pb, 2, none⟩ = some (.int .i64 (NN : Int)) := (World.cell?_of_block (w := W5) (a := ⟨pb, 2, none⟩) (Below.heap_setCell W5 _ _ pb hpf)).trans hcn5
          refine hK.out _ _ ?_ (fun hHeld => ?_)
          · exact hcn6
          clear hK K
          try simp only [Act.put, List.setIfInBounds_toArray, List.set_cons_zero, List.set_cons_succ]
          refine wpAnyH_done (by kernel_rfl) ?_ _
          refine NoPanic.normal ?_
          have hp6 := HpP.out.timSet Hc5.out Hr5.out Hv5.out (by simp; have := Htl8.out; omega) (by
            intro t ht
            rcases List.mem_append.1 ht with h | h
            · exact Htlt.out t h
            · simp at h
              subst h
              have := HNN.out
              have := Hnow.out
              omega)
          have Hp6 := Lib.hid hp6.1
          have HC6 := Lib.hid (HC2.out.trans (hp6.2.mono fun b hb => own_same (f := f) (f' := { f with pins := f.pins + 1 }) rfl hb))
          dsimp only at HC6
          have HV6 : Hid (∀ q ∈ Fr.blks { f with pins := f.pins + 1, tv := .slice A5 n5 c5, ts := f.ts ++ [NN] }, q ∈ f.blks ∨ W3.heap.size ≤ q) := Lib.hid (fun q hq => by
            simp only [Fr.blks, List.mem_cons] at hq ⊢
            rcases hq with rfl | rfl | hq
            · exact .inl (.inl rfl)
            · exact .inl (.inr (.inl rfl))
            · rcases Hv5.out q hq with h | h
              · exact .inl (.inr (.inr h))
              · exact .inr h)
          have HN5 : Hid (n5 = f.ts.length + 1) := Lib.hid (by
            rcases Hr5.out.2 with ⟨_, h⟩ | ⟨_, _, _, h, _⟩
            · simp at h
            · injection h with _ h _
              rw [h]; simp)
          clear hp6 hHeld
          dsimp only at Hp6
          generalize W5.setCell ⟨f.fb, 2, none⟩ (.slice A5 n5 c5) = W6 at Hp6 HC6 ⊢
          have hI6 := Hp6.out.frs _ (List.mem_cons_self ..)
          have hc26 := hI6.c2
          have hk6 := Hp6.out.c1
          dsimp only at hc26
          clear hI6
          go_upto_region 10 with fail
          by_cases hlen : k < n5
          · have d10 : decide ((n5 : Int) > (k : Int)) = true := decide_eq_true (by omega)
            refine wp_region_noPanic ?_
            refine wp_region_held_drew (S := (fun W => W.cell? ⟨f.fb, 2, none⟩ = some (.slice A5 n5 c5) ∧ W.cell? ⟨pb, 1, none⟩ = some (.int .i64 (k : Int)))) (by kernel_rfl) ?_ (fun hHeld => ?_)
            · exact ⟨hc26, hk6⟩
            refine wpAnyH_take (i := 0) (oi := { dst := some 63, op := Op.move (Operand.tmp 9), type := 71, pos := "pool.go:52", after := #[], guard := none }) (v := ?_) rfl (by kernel_rfl) (by kernel_rfl) (by kernel_rfl) (fun _ _ _ h => h) (Or.inl ⟨by rfl, ?_⟩) (by assumption) ?_
            rotate_left
            · (intro w hSw; (try dsimp only at hSw); go_simp; try with_reducible rfl)
            try simp only [Act.put, List.setIfInBounds_toArray, List.set_cons_zero, List.set_cons_succ]
            refine wpAnyH_take (i := 1) (oi := { dst := some 64, op := Op.nilCheck (Operand.tmp 63), type := 0, pos := "pool.go:52", after := #[{ on := 0, ground := Ground.data }], guard := none }) (v := ?_) rfl (by kernel_rfl) (by kernel_rfl) (by kernel_rfl) (fun _ _ _ h => h) (Or.inl ⟨by rfl, ?_⟩) (by assumption) ?_
            rotate_left
            · (intro w hSw; (try dsimp only at hSw); go_simp; try with_reducible rfl)
            try simp only [Act.put, List.setIfInBounds_toArray, List.set_cons_zero, List.set_cons_succ]
            refine wpAnyH_take (i := 2) (oi := { dst := some 65, op := Op.fieldAddr 76 (Operand.tmp 64) 2, type := 0, pos := "pool.go:52", after := #[{ on := 1, ground := Ground.data }], guard := none }) (v := ?_) rfl (by kernel_rfl) (by kernel_rfl) (by kernel_rfl) (fun _ _ _ h => h) (Or.inl ⟨by rfl, ?_⟩) (by assumption) ?_
            rotate_left
            · (intro w hSw; (try dsimp only at hSw); go_simp; try with_reducible rfl)
            try simp only [Act.put, List.setIfInBounds_toArray, List.set_cons_zero, List.set_cons_succ]
            refine wpAnyH_take (i := 3) (oi := { dst := some 66, op := Op.load 50 (Operand.tmp 65), type := 50, pos := "pool.go:52", after := #[{ on := 2, ground := Ground.data }], guard := none }) (v := ?_) rfl (by kernel_rfl) (by kernel_rfl) (by kernel_rfl) (fun _ _ _ h => h) (Or.inl ⟨by rfl, ?_⟩) (by assumption) ?_
            rotate_left
            · (intro w hSw; (try dsimp only at hSw); go_simp; try with_reducible rfl)
            try simp only [Act.put, List.setIfInBounds_toArray, List.set_cons_zero, List.set_cons_succ]
            refine wpAnyH_take (i := 4) (oi := { dst := some 67, op := Op.call { callee := Callee.builtin Builtin.len, args := #[Operand.tmp 66], argTypes := #[50] }, type := 3, pos := "pool.go:52", after := #[{ on := 3, ground := Ground.data }], guard := none }) (v := ?_) rfl (by kernel_rfl) (by kernel_rfl) (by kernel_rfl) (fun _ _ _ h => h) (Or.inl ⟨by rfl, ?_⟩) (by assumption) ?_
            rotate_left
            · (intro w hSw; (try dsimp only at hSw); go_simp; try with_reducible rfl)
            try simp only [Act.put, List.setIfInBounds_toArray, List.set_cons_zero, List.set_cons_succ]
            refine wpAnyH_take (i := 5) (oi := { dst := some 68, op := Op.move (Operand.tmp 0), type := 24, pos := "pool.go:52", after := #[], guard := none }) (v := ?_) rfl (by kernel_rfl) (by kernel_rfl) (by kernel_rfl) (fun _ _ _ h => h) (Or.inl ⟨by rfl, ?_⟩) (by assumption) ?_
            rotate_left
            · (intro w hSw; (try dsimp only at hSw); go_simp; try with_reducible rfl)
            try simp only [Act.put, List.setIfInBounds_toArray, List.set_cons_zero, List.set_cons_succ]
            refine wpAnyH_take (i := 6) (oi := { dst := some 69, op := Op.nilCheck (Operand.tmp 68), type := 0, pos := "pool.go:52", after := #[{ on := 5, ground := Ground.data }], guard := none }) (v := ?_) rfl (by kernel_rfl) (by kernel_rfl) (by kernel_rfl) (fun _ _ _ h => h) (Or.inl ⟨by rfl, ?_⟩) (by assumption) ?_
            rotate_left
            · (intro w hSw; (try dsimp only at hSw); go_simp; try with_reducible rfl)
            try simp only [Act.put, List.setIfInBounds_toArray, List.set_cons_zero, List.set_cons_succ]
            refine wpAnyH_take (i := 7) (oi := { dst := some 70, op := Op.fieldAddr 61 (Operand.tmp 69) 1, type := 0, pos := "pool.go:52", after := #[{ on := 6, ground := Ground.data }], guard := none }) (v := ?_) rfl (by kernel_rfl) (by kernel_rfl) (by kernel_rfl) (fun _ _ _ h => h) (Or.inl ⟨by rfl, ?_⟩) (by assumption) ?_
            rotate_left
            · (intro w hSw; (try dsimp only at hSw); go_simp; try with_reducible rfl)
            try simp only [Act.put, List.setIfInBounds_toArray, List.set_cons_zero, List.set_cons_succ]
            refine wpAnyH_take (i := 8) (oi := { dst := some 71, op := Op.load 3 (Operand.tmp 70), type := 3, pos := "pool.go:52", after := #[{ on := 7, ground := Ground.data }], guard := none }) (v := ?_) rfl (by kernel_rfl) (by kernel_rfl) (by kernel_rfl) (fun _ _ _ h => h) (Or.inl ⟨by rfl, ?_⟩) (by assumption) ?_
            rotate_left
            · (intro w hSw; (try dsimp only at hSw); go_simp; try with_reducible rfl)
            try simp only [Act.put, List.setIfInBounds_toArray, List.set_cons_zero, List.set_cons_succ]
            refine wpAnyH_take (i := 9) (oi := { dst := some 72, op := Op.binOp BinOp.gtr 3 (Operand.tmp 67) (Operand.tmp 71) 3, type := 4, pos := "pool.go:52", after := #[{ on := 4, ground := Ground.data }, { on := 8, ground := Ground.data }], guard := none }) (v := ?_) rfl (by kernel_rfl) (by kernel_rfl) (by kernel_rfl) (fun _ _ _ h => h) (Or.inl ⟨by rfl, ?_⟩) (by assumption) ?_
            rotate_left
            · (intro w hSw; (try dsimp only at hSw); go_simp; try with_reducible rfl)
            try simp only [Act.put, List.setIfInBounds_toArray, List.set_cons_zero, List.set_cons_succ]
            refine wpAnyH_done (by kernel_rfl) ?_ _
            refine NoPanic.normal ?_
            clear hHeld
            have hc26' : W6.drew.cell? ⟨f.fb, 2, none⟩ = some (.slice A5 n5 c5) := hc26
            have Hp7 := Lib.hid (Hp6.out.below (Below.refl _ _).drew)
            have HC7 := Lib.hid HC6.out.drew
            generalize W6.drew = W7 at Hp7 HC7 hc26' ⊢
            clear hc26 hk6 d10
            have Htm7 := Lib.hid (Hp7.out.frs _ (List.mem_cons_self ..)).tims
            dsimp only at Htm7
            go_wp2_with fail
            refine (Try.del1 Htm7.out (by simp)).mono ?_
            rintro e8 W8 ⟨v8, rfl, hr8, hv8, hc8, A8, n8, c8, rfl⟩
            have hI7 := Hp7.out.frs _ (List.mem_cons_self ..)
            have hh8 := hc8.block f.fb (hI7.lt f.fb (by simp [Fr.blks])) hI7.n2
            have hc28 := (World.cell?_of_block (w := W7) (a := ⟨f.fb, 2, none⟩) hh8).trans hc26'
            have hf8 : W8.frozen? ⟨f.fb, 2, none⟩ = false := frozen_of_row _ f.fb 2 _ 76 (hh8.trans hI7.here)
            obtain ⟨hp8, hcc8⟩ := Hp7.out.timSet hc8 hr8 (fun b hb => .inl (by rw [hv8] at hb; exact hb)) (by simp; have := Htl8.out; omega) (tail_lt hI7.tl)
            have Hp8 := Lib.hid hp8
            have HC8 := Lib.hid (HC7.out.trans' hcc8 (fun b hb h => by
              rcases h with h | h | ⟨g, hg, hq⟩
              · exact .inl h
              · exact .inr (.inl h)
              · rcases List.mem_cons.1 hg with rfl | hg
                · rcases HV6.out b hq with h | h
                  · exact .inr (.inr ⟨f, by simp, h⟩)
                  · have := HC2.out.size
                    omega
                · exact .inr (.inr ⟨g, by simp [hg], hq⟩)))
            have HV8 : Hid (∀ q ∈ Fr.blks { f with pins := f.pins + 1, tv := .slice A8 n8 c8, ts := (f.ts ++ [NN]).tail }, q ∈ f.blks ∨ W3.heap.size ≤ q) := Lib.hid (fun q hq => by
              refine HV6.out q ?_
              simp only [Fr.blks, List.mem_cons] at hq ⊢
              rw [hv8] at hq
              exact hq)
            clear hp8 hcc8 hr8 hv8 hc8 hI7 hc26' hh8
            dsimp only at Hp8
            go_upto_region 12 with fail
            generalize W8.setCell ⟨f.fb, 2, none⟩ (.slice A8 n8 c8) = WA at Hp8 HC8 ⊢
            clear hc28 hf8
            have hd0 := (Hp8.out.frs _ (List.mem_cons_self ..)).c0
            have hdc := (Hp8.out.frs _ (List.mem_cons_self ..)).data
            dsimp only at hd0 hdc
            have Hdc := Lib.hid hdc
            clear hdc
            go_wp2_with fail
            refine (Try.clone1 Hdc.out rfl).mono ?_
            rintro e9 W9 ⟨v9, rfl, hr9, hb9⟩
            have Hr9 := Lib.hid hr9
            have Hp9 := Lib.hid (Hp8.out.below hb9)
            have HC9 : Hid (Chg w1 W9 (Own pb mb (f :: T))) := Lib.hid (HC8.out.trans (Chg.below hb9 _))
            have hsz9 := HC8.out.size
            clear hr9 hb9 hd0
            go_wp2_with fail
            go_ret3
            have hB := HB1.out
            refine ⟨{ f with pins := f.pins + 1, tv := .slice A8 n8 c8, ts := (f.ts ++ [NN]).tail }, v9, rfl, rfl, rfl, ?_, by rw [← HNN.out]; exact Hp9.out, own_mono Hr9.out (by have := hB.size; omega), ?_, (Chg.below hB _).trans HC9.out⟩
            · show _ = pushT k f.ts (now + 1)
              unfold pushT
              rw [← HNN.out, if_pos (by have := HN5.out; simp; omega)]
            · intro q hq
              exact (HV8.out q hq).imp id (fun h => by have := hB.size; have := HC2.out.size; omega)
          · have d10 : decide ((n5 : Int) > (k : Int)) = false := decide_eq_false (by omega)
            refine wp_region_noPanic ?_
            refine wp_region_held_drew (S := (fun W => W.cell? ⟨f.fb, 2, none⟩ = some (.slice A5 n5 c5) ∧ W.cell? ⟨pb, 1, none⟩ = some (.int .i64 (k : Int)))) (by kernel_rfl) ?_ (fun hHeld => ?_)
            · exact ⟨hc26, hk6⟩
            refine wpAnyH_take (i := 0) (oi := { dst := some 63, op := Op.move (Operand.tmp 9), type := 71, pos := "pool.go:52", after := #[], guard := none }) (v := ?_) rfl (by kernel_rfl) (by kernel_rfl) (by kernel_rfl) (fun _ _ _ h => h) (Or.inl ⟨by rfl, ?_⟩) (by assumption) ?_
            rotate_left
            · (intro w hSw; (try dsimp only at hSw); go_simp; try with_reducible rfl)
            try simp only [Act.put, List.setIfInBounds_toArray, List.set_cons_zero, List.set_cons_succ]
            refine wpAnyH_take (i := 1) (oi := { dst := some 64, op := Op.nilCheck (Operand.tmp 63), type := 0, pos := "pool.go:52", after := #[{ on := 0, ground := Ground.data }], guard := none }) (v := ?_) rfl (by kernel_rfl) (by kernel_rfl) (by kernel_rfl) (fun _ _ _ h => h) (Or.inl ⟨by rfl, ?_⟩) (by assumption) ?_
            rotate_left
            · (intro w hSw; (try dsimp only at hSw); go_simp; try with_reducible rfl)
            try simp only [Act.put, List.setIfInBounds_toArray, List.set_cons_zero, List.set_cons_succ]
            refine wpAnyH_take (i := 2) (oi := { dst := some 65, op := Op.fieldAddr 76 (Operand.tmp 64) 2, type := 0, pos := "pool.go:52", after := #[{ on := 1, ground := Ground.data }], guard := none }) (v := ?_) rfl (by kernel_rfl) (by kernel_rfl) (by kernel_rfl) (fun _ _ _ h => h) (Or.inl ⟨by rfl, ?_⟩) (by assumption) ?_
            rotate_left
            · (intro w hSw; (try dsimp only at hSw); go_simp; try with_reducible rfl)
            try simp only [Act.put, List.setIfInBounds_toArray, List.set_cons_zero, List.set_cons_succ]
            refine wpAnyH_take (i := 3) (oi := { dst := some 66, op := Op.load 50 (Operand.tmp 65), type := 50, pos := "pool.go:52", after := #[{ on := 2, ground := Ground.data }], guard := none }) (v := ?_) rfl (by kernel_rfl) (by kernel_rfl) (by kernel_rfl) (fun _ _ _ h => h) (Or.inl ⟨by rfl, ?_⟩) (by assumption) ?_
            rotate_left
            · (intro w hSw; (try dsimp only at hSw); go_simp; try with_reducible rfl)
            try simp only [Act.put, List.setIfInBounds_toArray, List.set_cons_zero, List.set_cons_succ]
            refine wpAnyH_take (i := 4) (oi := { dst := some 67, op := Op.call { callee := Callee.builtin Builtin.len, args := #[Operand.tmp 66], argTypes := #[50] }, type := 3, pos := "pool.go:52", after := #[{ on := 3, ground := Ground.data }], guard := none }) (v := ?_) rfl (by kernel_rfl) (by kernel_rfl) (by kernel_rfl) (fun _ _ _ h => h) (Or.inl ⟨by rfl, ?_⟩) (by assumption) ?_
            rotate_left
            · (intro w hSw; (try dsimp only at hSw); go_simp; try with_reducible rfl)
            try simp only [Act.put, List.setIfInBounds_toArray, List.set_cons_zero, List.set_cons_succ]
            refine wpAnyH_take (i := 5) (oi := { dst := some 68, op := Op.move (Operand.tmp 0), type := 24, pos := "pool.go:52", after := #[], guard := none }) (v := ?_) rfl (by kernel_rfl) (by kernel_rfl) (by kernel_rfl) (fun _ _ _ h => h) (Or.inl ⟨by rfl, ?_⟩) (by assumption) ?_
            rotate_left
            · (intro w hSw; (try dsimp only at hSw); go_simp; try with_reducible rfl)
            try simp only [Act.put, List.setIfInBounds_toArray, List.set_cons_zero, List.set_cons_succ]
            refine wpAnyH_take (i := 6) (oi := { dst := some 69, op := Op.nilCheck (Operand.tmp 68), type := 0, pos := "pool.go:52", after := #[{ on := 5, ground := Ground.data }], guard := none }) (v := ?_) rfl (by kernel_rfl) (by kernel_rfl) (by kernel_rfl) (fun _ _ _ h => h) (Or.inl ⟨by rfl, ?_⟩) (by assumption) ?_
            rotate_left
            · (intro w hSw; (try dsimp only at hSw); go_simp; try with_reducible rfl)
            try simp only [Act.put, List.setIfInBounds_toArray, List.set_cons_zero, List.set_cons_succ]
            refine wpAnyH_take (i := 7) (oi := { dst := some 70, op := Op.fieldAddr 61 (Operand.tmp 69) 1, type := 0, pos := "pool.go:52", after := #[{ on := 6, ground := Ground.data }], guard := none }) (v := ?_) rfl (by kernel_rfl) (by kernel_rfl) (by kernel_rfl) (fun _ _ _ h => h) (Or.inl ⟨by rfl, ?_⟩) (by assumption) ?_
            rotate_left
            · (intro w hSw; (try dsimp only at hSw); go_simp; try with_reducible rfl)
            try simp only [Act.put, List.setIfInBounds_toArray, List.set_cons_zero, List.set_cons_succ]
            refine wpAnyH_take (i := 8) (oi := { dst := some 71, op := Op.load 3 (Operand.tmp 70), type := 3, pos := "pool.go:52", after := #[{ on := 7, ground := Ground.data }], guard := none }) (v := ?_) rfl (by kernel_rfl) (by kernel_rfl) (by kernel_rfl) (fun _ _ _ h => h) (Or.inl ⟨by rfl, ?_⟩) (by assumption) ?_
            rotate_left
            · (intro w hSw; (try dsimp only at hSw); go_simp; try with_reducible rfl)
            try simp only [Act.put, List.setIfInBounds_toArray, List.set_cons_zero, List.set_cons_succ]
            refine wpAnyH_take (i := 9) (oi := { dst := some 72, op := Op.binOp BinOp.gtr 3 (Operand.tmp 67) (Operand.tmp 71) 3, type := 4, pos := "pool.go:52", after := #[{ on := 4, ground := Ground.data }, { on := 8, ground := Ground.data }], guard := none }) (v := ?_) rfl (by kernel_rfl) (by kernel_rfl) (by kernel_rfl) (fun _ _ _ h => h) (Or.inl ⟨by rfl, ?_⟩) (by assumption) ?_
            rotate_left
            · (intro w hSw; (try dsimp only at hSw); go_simp; try with_reducible rfl)
            try simp only [Act.put, List.setIfInBounds_toArray, List.set_cons_zero, List.set_cons_succ]
            refine wpAnyH_done (by kernel_rfl) ?_ _
            refine NoPanic.normal ?_
            clear hHeld
            have hc26' : W6.drew.cell? ⟨f.fb, 2, none⟩ = some (.slice A5 n5 c5) := hc26
            have Hp7 := Lib.hid (Hp6.out.below (Below.refl _ _).drew)
            have HC7 := Lib.hid HC6.out.drew
            generalize W6.drew = W7 at Hp7 HC7 hc26' ⊢
            clear hc26 hk6 d10
            have hd0 := (Hp7.out.frs _ (List.mem_cons_self ..)).c0
            have hdc := (Hp7.out.frs _ (List.mem_cons_self ..)).data
            dsimp only at hd0 hdc
            have Hdc := Lib.hid hdc
            clear hdc
            go_wp2_with fail
            refine (Try.clone1 Hdc.out rfl).mono ?_
            rintro e9 W9 ⟨v9, rfl, hr9, hb9⟩
            have Hr9 := Lib.hid hr9
            have Hp9 := Lib.hid (Hp7.out.below hb9)
            have HC9 : Hid (Chg w1 W9 (Own pb mb (f :: T))) := Lib.hid (HC7.out.trans (Chg.below hb9 _))
            have hsz9 := HC7.out.size
            clear hr9 hb9 hd0
            go_wp2_with fail
            go_ret3
            have hB := HB1.out
            refine ⟨{ f with pins := f.pins + 1, tv := .slice A5 n5 c5, ts := f.ts ++ [NN] }, v9, rfl, rfl, rfl, ?_, by rw [← HNN.out]; exact Hp9.out, own_mono Hr9.out (by have := hB.size; omega), ?_, (Chg.below hB _).trans HC9.out⟩
            · show _ = pushT k f.ts (now + 1)
              unfold pushT
              rw [← HNN.out, if_neg (by have := HN5.out; simp; omega)]
            · intro q hq
              exact (HV6.out q hq).imp id (fun h => by have := hB.size; have := HC2.out.size; omega)
        exact AllReadyH.nil
      exact AllReadyH.nil
    exact AllReadyH.nil
  refine AllReadyH.cons (o := { dst := some 59, op := Op.buildSlice 50 1 #[(0, Operand.tmp 58)], type := 50, pos := "pool.go:51", after := #[{ on := 8, ground := Ground.data }], guard := none }) rfl (fun K hK => ?_) ?_
  · skip
    go_simp
    have hcg : ((W3.alloc (.cells #[.int .i64 (NN : Int)] 3)).drew).cell? ⟨W3.heap.size, 0, none⟩ = some (.int .i64 (NN : Int)) := cell_of_row _ _ 0 _ 3 (0, 0) (heap_alloc_new _ _)
    have hCA : Chg W3 ((W3.alloc (.cells #[.int .i64 (NN : Int)] 3)).drew) (· ∈ vblk f.tv) := (Chg.alloc W3 _ _).drew
    have hsA : ((W3.alloc (.cells #[.int .i64 (NN : Int)] 3)).drew).heap.size = W3.heap.size + 1 := by simp
    have hct4 := (World.cell?_of_block (w := W3) (a := ⟨f.fb, 2, none⟩) (hCA.block f.fb hfl Hnv.out)).trans hct
    have hcn4 : ((W3.alloc (.cells #[.int .i64 (NN : Int)] 3)).drew).cell? ⟨pb, 2, none⟩ = some (.int .i64 (NN : Int)) := (World.cell?_of_block (w := W3) (a := ⟨pb, 2, none⟩) (Below.heap_alloc W3 (.cells #[.int .i64 (NN : Int)] 3) pb (block_lt_of_cell hcn))).trans hcn
    have Hro4 : Hid (((W3.alloc (.cells #[.int .i64 (NN : Int)] 3)).drew).ownsRow 0 3 1 f.tv f.ts.length (f.ts.map i64v)) := Lib.hid (own_stay Htm.out fun b hb => Below.heap_alloc W3 _ b (HpP.out.frs _ (List.mem_cons_self ..) |>.lt b (by simp [Fr.blks, hb])))
    have HCA := Lib.hid hCA
    have HsA := Lib.hid hsA
    obtain ⟨gg, hgg⟩ : ∃ gg, W3.heap.size = gg := ⟨_, rfl⟩
    rw [hgg] at hcg
    rw [hgg]
    clear hgg hCA hsA
    generalize (W3.alloc (.cells #[.int .i64 (NN : Int)] 3)).drew = W4 at hcg hct4 hcn4 Hro4 HCA HsA ⊢
    refine hK.out _ _ ?_ (fun hHeld => ?_)
    · exact hcn4
    clear hK K
    try simp only [Act.put, List.setIfInBounds_toArray, List.set_cons_zero, List.set_cons_succ]
    refine wpAnyH_ready (rs := [4]) (by kernel_rfl) (by simp) ?_
    refine AllReadyH.cons (o := { dst := some 54, op := Op.load 50 (Operand.tmp 53), type := 50, pos := "pool.go:51", after := #[{ on := 3, ground := Ground.data }], guard := none }) rfl (fun K hK => ?_) ?_
    · skip
      go_simp
      refine hK.out _ _ ?_ (fun hHeld => ?_)
      · exact hcn4
      clear hK K
      try simp only [Act.put, List.setIfInBounds_toArray, List.set_cons_zero, List.set_cons_succ]
      refine wpAnyH_ready (rs := [10]) (by kernel_rfl) (by simp) ?_
      refine AllReadyH.cons (o := { dst := some 60, op := Op.call { callee := Callee.builtin Builtin.append, args := #[Operand.tmp 54, Operand.tmp 59], argTypes := #[50, 50] }, type := 50, pos := "pool.go:51", after := #[{ on := 4, ground := Ground.data }, { on := 9, ground := Ground.data }], guard := none }) rfl (fun K hK => ?_) ?_
      · skip
        refine oper_tapp _ _ rfl rfl Hro4.out Htl8.out gg NN rfl hcg ?_
        rintro v5 W5 hr5 hc5 hv5 ⟨A5, n5, c5, rfl⟩
        have Hr5 := Lib.hid hr5
        have Hc5 : Hid (Chg W3 W5 (· ∈ vblk f.tv)) := Lib.hid (HCA.out.trans hc5)
        have Hv5 : Hid (∀ b ∈ vblk (.slice A5 n5 c5), b ∈ vblk f.tv ∨ W3.heap.size ≤ b) := Lib.hid (fun b hb => (hv5 b hb).imp id (fun h => by have := HsA.out; omega))
        have hh5 : W5.heap[f.fb]? = W3.heap[f.fb]? := Hc5.out.block f.fb hfl Hnv.out
        have hc5x : W5.cell? ⟨f.fb, 2, none⟩ = some f.tv := (World.cell?_of_block (w := W3) (a := ⟨f.fb, 2, none⟩) hh5).trans hct
        have hf5 : W5.frozen? ⟨f.fb, 2, none⟩ = false := frozen_of_row _ f.fb 2 _ 76 (hh5.trans Hhe.out)
        have hcn5 : W5.cell? ⟨pb, 2, none⟩ = some (.int .i64 (NN : Int)) := (World.cell?_of_block (w := W3) (a := ⟨pb, 2, none⟩) (Hc5.out.block pb (block_lt_of_cell hcn) Hpv.out)).trans hcn
        clear hr5 hc5 hv5 hcg hct4 hh5 hcn4
        refine hK.out _ _ ?_ (fun hHeld => ?_)
        · exact hcn5
        clear hK K
        try simp only [Act.put, List.setIfInBounds_toArray, List.set_cons_zero, List.set_cons_succ]
        refine wpAnyH_take (i := 11) (oi := { dst := some 61, op := Op.nilCheck (Operand.tmp 50), type := 0, pos := "pool.go:51", after := #[{ on := 0, ground := Ground.data }, { on := 0, ground := Ground.phase }, { on := 1, ground := Ground.phase }, { on := 2, ground := Ground.phase }, { on := 3, ground := Ground.phase }, { on := 4, ground := Ground.phase }, { on := 5, ground := Ground.phase }, { on := 6, ground := Ground.phase }, { on := 7, ground := Ground.phase }, { on := 8, ground := Ground.phase }, { on := 9, ground := Ground.phase }, { on := 10, ground := Ground.phase }], guard := none }) (v := ?_) rfl (by kernel_rfl) (by kernel_rfl) (by kernel_rfl) (fun _ _ _ h => h) (Or.inl ⟨by rfl, ?_⟩) (by assumption) ?_
        rotate_left
        · (intro w hSw; (try dsimp only at hSw); go_simp; try with_reducible rfl)
        try simp only [Act.put, List.setIfInBounds_toArray, List.set_cons_zero, List.set_cons_succ]
        refine wpAnyH_take (i := 12) (oi := { dst := some 62, op := Op.fieldAddr 76 (Operand.tmp 61) 2, type := 0, pos := "pool.go:51", after := #[{ on := 11, ground := Ground.data }, { on := 0, ground := Ground.phase }, { on := 1, ground := Ground.phase }, { on := 2, ground := Ground.phase }, { on := 3, ground := Ground.phase }, { on := 4, ground := Ground.phase }, { on := 5, ground := Ground.phase }, { on := 6, ground := Ground.phase }, { on := 7, ground := Ground.phase }, { on := 8, ground := Ground.phase }, { on := 9, ground := Ground.phase }, { on := 10, ground := Ground.phase }], guard := none }) (v := ?_) rfl (by kernel_rfl) (by kernel_rfl) (by kernel_rfl) (fun _ _ _ h => h) (Or.inl ⟨by rfl, ?_⟩) (by assumption) ?_
        rotate_left
        · (intro w hSw; (try dsimp only at hSw); go_simp; try with_reducible rfl)
        try simp only [Act.put, List.setIfInBounds_toArray, List.set_cons_zero, List.set_cons_succ]
        refine wpAnyH_ready (rs := [13]) (by kernel_rfl) (by simp) ?_
        refine AllReadyH.cons (o := { dst := none, op := Op.store 50 (Operand.tmp 62) (Operand.tmp 60), type := 0, pos := "pool.go:51", after := #[{ on := 12, ground := Ground.data }, { on := 10, ground := Ground.data }, { on := 10, ground := Ground.chain }, { on := 0, ground := Ground.phase }, { on := 1, ground := Ground.phase }, { on := 2, ground := Ground.phase }, { on := 3, ground := Ground.phase }, { on := 4, ground := Ground.phase }, { on := 5, ground := Ground.phase }, { on := 6, ground := Ground.phase }, { on := 7, ground := Ground.phase }, { on := 8, ground := Ground.phase }, { on := 9, ground := Ground.phase }, { on := 10, ground := Ground.phase }], guard := none }) rfl (fun K hK => ?_) ?_
        · skip
          go_simp
          have hcn6 : (W5.setCell ⟨f.fb, 2, none⟩ (.slice A5 n5 c5)).cell? ⟨pb, 2, none⟩ = some (.int .i64 (NN : Int)) := (World.cell?_of_block (w := W5) (a := ⟨pb, 2, none⟩) (Below.heap_setCell W5 _ _ pb hpf)).trans hcn5
          refine hK.out _ _ ?_ (fun hHeld => ?_)
          · exact hcn6
          clear hK K
          try simp only [Act.put, List.setIfInBounds_toArray, List.set_cons_zero, List.set_cons_succ]
          refine wpAnyH_done (by kernel_rfl) ?_ _
          refine NoPanic.normal ?_
          have hp6 := HpP.out.timSet Hc5.out Hr5.out Hv5.out (by simp; have := Htl8.out; omega) (by
            intro t ht
            rcases List.mem_append.1 ht with h | h
            · exact Htlt.out t h
            · simp at h
              subst h
              have := HNN.out
              have := Hnow.out
              omega)
          have Hp6 := Lib.hid hp6.1
          have HC6 := Lib.hid (HC2.out.trans (hp6.2.mono fun b hb => own_same (f := f) (f' := { f with pins := f.pins + 1 }) rfl hb))
          dsimp only at HC6
          have HV6 : Hid (∀ q ∈ Fr.blks { f with pins := f.pins + 1, tv := .slice A5 n5 c5, ts := f.ts ++ [NN] }, q ∈ f.blks ∨ W3.heap.size ≤ q) := Lib.hid (fun q hq => by
            simp only [Fr.blks, List.mem_cons] at hq ⊢
            rcases hq with rfl | rfl | hq
            · exact .inl (.inl rfl)
            · exact .inl (.inr (.inl rfl))
            · rcases Hv5.out q hq with h | h
              · exact .inl (.inr (.inr h))
              · exact .inr h)
          have HN5 : Hid (n5 = f.ts.length + 1) := Lib.hid (by
            rcases Hr5.out.2 with ⟨_, h⟩ | ⟨_, _, _, h, _⟩
            · simp at h
            · injection h with _ h _
              rw [h]; simp)
          clear hp6 hHeld
          dsimp only at Hp6
          generalize W5.setCell ⟨f.fb, 2, none⟩ (.slice A5 n5 c5) = W6 at Hp6 HC6 ⊢
          have hI6 := Hp6.out.frs _ (List.mem_cons_self ..)
          have hc26 := hI6.c2
          have hk6 := Hp6.out.c1
          dsimp only at hc26
          clear hI6
          go_upto_region 10 with fail
          by_cases hlen : k < n5
          · have d10 : decide ((n5 : Int) > (k : Int)) = true := decide_eq_true (by omega)
            refine wp_region_noPanic ?_
            refine wp_region_held_drew (S := (fun W => W.cell? ⟨f.fb, 2, none⟩ = some (.slice A5 n5 c5) ∧ W.cell? ⟨pb, 1, none⟩ = some (.int .i64 (k : Int)))) (by kernel_rfl) ?_ (fun hHeld => ?_)
            · exact ⟨hc26, hk6⟩
            refine wpAnyH_take (i := 0) (oi := { dst := some 63, op := Op.move (Operand.tmp 9), type := 71, pos := "pool.go:52", after := #[], guard := none }) (v := ?_) rfl (by kernel_rfl) (by kernel_rfl) (by kernel_rfl) (fun _ _ _ h => h) (Or.inl ⟨by rfl, ?_⟩) (by assumption) ?_
            rotate_left
            · (intro w hSw; (try dsimp only at hSw); go_simp; try with_reducible rfl)
            try simp only [Act.put, List.setIfInBounds_toArray, List.set_cons_zero, List.set_cons_succ]
            refine wpAnyH_take (i := 1) (oi := { dst := some 64, op := Op.nilCheck (Operand.tmp 63), type := 0, pos := "pool.go:52", after := #[{ on := 0, ground := Ground.data }], guard := none }) (v := ?_) rfl (by kernel_rfl) (by kernel_rfl) (by kernel_rfl) (fun _ _ _ h => h) (Or.inl ⟨by rfl, ?_⟩) (by assumption) ?_
            rotate_left
            · (intro w hSw; (try dsimp only at hSw); go_simp; try with_reducible rfl)
            try simp only [Act.put, List.setIfInBounds_toArray, List.set_cons_zero, List.set_cons_succ]
            refine wpAnyH_take (i := 2) (oi := { dst := some 65, op := Op.fieldAddr 76 (Operand.tmp 64) 2, type := 0, pos := "pool.go:52", after := #[{ on := 1, ground := Ground.data }], guard := none }) (v := ?_) rfl (by kernel_rfl) (by kernel_rfl) (by kernel_rfl) (fun _ _ _ h => h) (Or.inl ⟨by rfl, ?_⟩) (by assumption) ?_
            rotate_left
            · (intro w hSw; (try dsimp only at hSw); go_simp; try with_reducible rfl)
            try simp only [Act.put, List.setIfInBounds_toArray, List.set_cons_zero, List.set_cons_succ]
            refine wpAnyH_take (i := 3) (oi := { dst := some 66, op := Op.load 50 (Operand.tmp 65), type := 50, pos := "pool.go:52", after := #[{ on := 2, ground := Ground.data }], guard := none }) (v := ?_) rfl (by kernel_rfl) (by kernel_rfl) (by kernel_rfl) (fun _ _ _ h => h) (Or.inl ⟨by rfl, ?_⟩) (by assumption) ?_
            rotate_left
            · (intro w hSw; (try dsimp only at hSw); go_simp; try with_reducible rfl)
            try simp only [Act.put, List.setIfInBounds_toArray, List.set_cons_zero, List.set_cons_succ]
            refine wpAnyH_take (i := 4) (oi := { dst := some 67, op := Op.call { callee := Callee.builtin Builtin.len, args := #[Operand.tmp 66], argTypes := #[50] }, type := 3, pos := "pool.go:52", after := #[{ on := 3, ground := Ground.data }], guard := none }) (v := ?_) rfl (by kernel_rfl) (by kernel_rfl) (by kernel_rfl) (fun _ _ _ h => h) (Or.inl ⟨by rfl, ?_⟩) (by assumption) ?_
            rotate_left
            · (intro w hSw; (try dsimp only at hSw); go_simp; try with_reducible rfl)
            try simp only [Act.put, List.setIfInBounds_toArray, List.set_cons_zero, List.set_cons_succ]
            refine wpAnyH_take (i := 5) (oi := { dst := some 68, op := Op.move (Operand.tmp 0), type := 24, pos := "pool.go:52", after := #[], guard := none }) (v := ?_) rfl (by kernel_rfl) (by kernel_rfl) (by kernel_rfl) (fun _ _ _ h => h) (Or.inl ⟨by rfl, ?_⟩) (by assumption) ?_
            rotate_left
            · (intro w hSw; (try dsimp only at hSw); go_simp; try with_reducible rfl)
            try simp only [Act.put, List.setIfInBounds_toArray, List.set_cons_zero, List.set_cons_succ]
            refine wpAnyH_take (i := 6) (oi := { dst := some 69, op := Op.nilCheck (Operand.tmp 68), type := 0, pos := "pool.go:52", after := #[{ on := 5, ground := Ground.data }], guard := none }) (v := ?_) rfl (by kernel_rfl) (by kernel_rfl) (by kernel_rfl) (fun _ _ _ h => h) (Or.inl ⟨by rfl, ?_⟩) (by assumption) ?_
            rotate_left
            · (intro w hSw; (try dsimp only at hSw); go_simp; try with_reducible rfl)
            try simp only [Act.put, List.setIfInBounds_toArray, List.set_cons_zero, List.set_cons_succ]
            refine wpAnyH_take (i := 7) (oi := { dst := some 70, op := Op.fieldAddr 61 (Operand.tmp 69) 1, type := 0, pos := "pool.go:52", after := #[{ on := 6, ground := Ground.data }], guard := none }) (v := ?_) rfl (by kernel_rfl) (by kernel_rfl) (by kernel_rfl) (fun _ _ _ h => h) (Or.inl ⟨by rfl, ?_⟩) (by assumption) ?_
            rotate_left
            · (intro w hSw; (try dsimp only at hSw); go_simp; try with_reducible rfl)
            try simp only [Act.put, List.setIfInBounds_toArray, List.set_cons_zero, List.set_cons_succ]
            refine wpAnyH_take (i := 8) (oi := { dst := some 71, op := Op.load 3 (Operand.tmp 70), type := 3, pos := "pool.go:52", after := #[{ on := 7, ground := Ground.data }], guard := none }) (v := ?_) rfl (by kernel_rfl) (by kernel_rfl) (by kernel_rfl) (fun _ _ _ h => h) (Or.inl ⟨by rfl, ?_⟩) (by assumption) ?_
            rotate_left
            · (intro w hSw; (try dsimp only at hSw); go_simp; try with_reducible rfl)
            try simp only [Act.put, List.setIfInBounds_toArray, List.set_cons_zero, List.set_cons_succ]
            refine wpAnyH_take (i := 9) (oi := { dst := some 72, op := Op.binOp BinOp.gtr 3 (Operand.tmp 67) (Operand.tmp 71) 3, type := 4, pos := "pool.go:52", after := #[{ on := 4, ground := Ground.data }, { on := 8, ground := Ground.data }], guard := none }) (v := ?_) rfl (by kernel_rfl) (by kernel_rfl) (by kernel_rfl) (fun _ _ _ h => h) (Or.inl ⟨by rfl, ?_⟩) (by assumption) ?_
            rotate_left
            · (intro w hSw; (try dsimp only at hSw); go_simp; try with_reducible rfl)
            try simp only [Act.put, List.setIfInBounds_toArray, List.set_cons_zero, List.set_cons_succ]
            refine wpAnyH_done (by kernel_rfl) ?_ _
            refine NoPanic.normal ?_
            clear hHeld
            have hc26' : W6.drew.cell? ⟨f.fb, 2, none⟩ = some (.slice A5 n5 c5) := hc26
            have Hp7 := Lib.hid (Hp6.out.below (Below.refl _ _).drew)
            have HC7 := Lib.hid HC6.out.drew
            generalize W6.drew = W7 at Hp7 HC7 hc26' ⊢
            clear hc26 hk6 d10
            have Htm7 := Lib.hid (Hp7.out.frs _ (List.mem_cons_self ..)).tims
            dsimp only at Htm7
            go_wp2_with fail
            refine (Try.del1 Htm7.out (by simp)).mono ?_
            rintro e8 W8 ⟨v8, rfl, hr8, hv8, hc8, A8, n8, c8, rfl⟩
            have hI7 := Hp7.out.frs _ (List.mem_cons_self ..)
            have hh8 := hc8.block f.fb (hI7.lt f.fb (by simp [Fr.blks])) hI7.n2
            have hc28 := (World.cell?_of_block (w := W7) (a := ⟨f.fb, 2, none⟩) hh8).trans hc26'
            have hf8 : W8.frozen? ⟨f.fb, 2, none⟩ = false := frozen_of_row _ f.fb 2 _ 76 (hh8.trans hI7.here)
            obtain ⟨hp8, hcc8⟩ := Hp7.out.timSet hc8 hr8 (fun b hb => .inl (by rw [hv8] at hb; exact hb)) (by simp; have := Htl8.out; omega) (tail_lt hI7.tl)
            have Hp8 := Lib.hid hp8
            have HC8 := Lib.hid (HC7.out.trans' hcc8 (fun b hb h => by
              rcases h with h | h | ⟨g, hg, hq⟩
              · exact .inl h
              · exact .inr (.inl h)
              · rcases List.mem_cons.1 hg with rfl | hg
                · rcases HV6.out b hq with h | h
                  · exact .inr (.inr ⟨f, by simp, h⟩)
                  · have := HC2.out.size
                    omega
                · exact .inr (.inr ⟨g, by simp [hg], hq⟩)))
            have HV8 : Hid (∀ q ∈ Fr.blks { f with pins := f.pins + 1, tv := .slice A8 n8 c8, ts := (f.ts ++ [NN]).tail }, q ∈ f.blks ∨ W3.heap.size ≤ q) := Lib.hid (fun q hq => by
              refine HV6.out q ?_
              simp only [Fr.blks, List.mem_cons] at hq ⊢
              rw [hv8] at hq
              exact hq)
            clear hp8 hcc8 hr8 hv8 hc8 hI7 hc26' hh8
            dsimp only at Hp8
            go_upto_region 12 with fail
            generalize W8.setCell ⟨f.fb, 2, none⟩ (.slice A8 n8 c8) = WA at Hp8 HC8 ⊢
            clear hc28 hf8
            have hd0 := (Hp8.out.frs _ (List.mem_cons_self ..)).c0
            have hdc := (Hp8.out.frs _ (List.mem_cons_self ..)).data
            dsimp only at hd0 hdc
            have Hdc := Lib.hid hdc
            clear hdc
            go_wp2_with fail
            refine (Try.clone1 Hdc.out rfl).mono ?_
            rintro e9 W9 ⟨v9, rfl, hr9, hb9⟩
            have Hr9 := Lib.hid hr9
            have Hp9 := Lib.hid (Hp8.out.below hb9)
            have HC9 : Hid (Chg w1 W9 (Own pb mb (f :: T))) := Lib.hid (HC8.out.trans (Chg.below hb9 _))
            have hsz9 := HC8.out.size
            clear hr9 hb9 hd0
            go_wp2_with fail
            go_ret3
            have hB := HB1.out
            refine ⟨{ f with pins := f.pins + 1, tv := .slice A8 n8 c8, ts := (f.ts ++ [NN]).tail }, v9, rfl, rfl, rfl, ?_, by rw [← HNN.out]; exact Hp9.out, own_mono Hr9.out (by have := hB.size; omega), ?_, (Chg.below hB _).trans HC9.out⟩
            · show _ = pushT k f.ts (now + 1)
              unfold pushT
              rw [← HNN.out, if_pos (by have := HN5.out; simp; omega)]
            · intro q hq
              exact (HV8.out q hq).imp id (fun h => by have := hB.size; have := HC2.out.size; omega)
          · have d10 : decide ((n5 : Int) > (k : Int)) = false := decide_eq_false (by omega)
            refine wp_region_noPanic ?_
            refine wp_region_held_drew (S := (fun W => W.cell? ⟨f.fb, 2, none⟩ = some (.slice A5 n5 c5) ∧ W.cell? ⟨pb, 1, none⟩ = some (.int .i64 (k : Int)))) (by kernel_rfl) ?_ (fun hHeld => ?_)
            · exact ⟨hc26, hk6⟩
            refine wpAnyH_take (i := 0) (oi := { dst := some 63, op := Op.move (Operand.tmp 9), type := 71, pos := "pool.go:52", after := #[], guard := none }) (v := ?_) rfl (by kernel_rfl) (by kernel_rfl) (by kernel_rfl) (fun _ _ _ h => h) (Or.inl ⟨by rfl, ?_⟩) (by assumption) ?_
            rotate_left
            · (intro w hSw; (try dsimp only at hSw); go_simp; try with_reducible rfl)
            try simp only [Act.put, List.setIfInBounds_toArray, List.set_cons_zero, List.set_cons_succ]
            refine wpAnyH_take (i := 1) (oi := { dst := some 64, op := Op.nilCheck (Operand.tmp 63), type := 0, pos := "pool.go:52", after := #[{ on := 0, ground := Ground.data }], guard := none }) (v := ?_) rfl (by kernel_rfl) (by kernel_rfl) (by kernel_rfl) (fun _ _ _ h => h) (Or.inl ⟨by rfl, ?_⟩) (by assumption) ?_
            rotate_left
            · (intro w hSw; (try dsimp only at hSw); go_simp; try with_reducible rfl)
            try simp only [Act.put, List.setIfInBounds_toArray, List.set_cons_zero, List.set_cons_succ]
            refine wpAnyH_take (i := 2) (oi := { dst := some 65, op := Op.fieldAddr 76 (Operand.tmp 64) 2, type := 0, pos := "pool.go:52", after := #[{ on := 1, ground := Ground.data }], guard := none }) (v := ?_) rfl (by kernel_rfl) (by kernel_rfl) (by kernel_rfl) (fun _ _ _ h => h) (Or.inl ⟨by rfl, ?_⟩) (by assumption) ?_
            rotate_left
            · (intro w hSw; (try dsimp only at hSw); go_simp; try with_reducible rfl)
            try simp only [Act.put, List.setIfInBounds_toArray, List.set_cons_zero, List.set_cons_succ]
            refine wpAnyH_take (i := 3) (oi := { dst := some 66, op := Op.load 50 (Operand.tmp 65), type := 50, pos := "pool.go:52", after := #[{ on := 2, ground := Ground.data }], guard := none }) (v := ?_) rfl (by kernel_rfl) (by kernel_rfl) (by kernel_rfl) (fun _ _ _ h => h) (Or.inl ⟨by rfl, ?_⟩) (by assumption) ?_
            rotate_left
            · (intro w hSw; (try dsimp only at hSw); go_simp; try with_reducible rfl)
            try simp only [Act.put, List.setIfInBounds_toArray, List.set_cons_zero, List.set_cons_succ]
            refine wpAnyH_take (i := 4) (oi := { dst := some 67, op := Op.call { callee := Callee.builtin Builtin.len, args := #[Operand.tmp 66], argTypes := #[50] }, type := 3, pos := "pool.go:52", after := #[{ on := 3, ground := Ground.data }], guard := none }) (v := ?_) rfl (by kernel_rfl) (by kernel_rfl) (by kernel_rfl) (fun _ _ _ h => h) (Or.inl ⟨by rfl, ?_⟩) (by assumption) ?_
            rotate_left
            · (intro w hSw; (try dsimp only at hSw); go_simp; try with_reducible rfl)
            try simp only [Act.put, List.setIfInBounds_toArray, List.set_cons_zero, List.set_cons_succ]
            refine wpAnyH_take (i := 5) (oi := { dst := some 68, op := Op.move (Operand.tmp 0), type := 24, pos := "pool.go:52", after := #[], guard := none }) (v := ?_) rfl (by kernel_rfl) (by kernel_rfl) (by kernel_rfl) (fun _ _ _ h => h) (Or.inl ⟨by rfl, ?_⟩) (by assumption) ?_
            rotate_left
            · (intro w hSw; (try dsimp only at hSw); go_simp; try with_reducible rfl)
            try simp only [Act.put, List.setIfInBounds_toArray, List.set_cons_zero, List.set_cons_succ]
            refine wpAnyH_take (i := 6) (oi := { dst := some 69, op := Op.nilCheck (Operand.tmp 68), type := 0, pos := "pool.go:52", after := #[{ on := 5, ground := Ground.data }], guard := none }) (v := ?_) rfl (by kernel_rfl) (by kernel_rfl) (by kernel_rfl) (fun _ _ _ h => h) (Or.inl ⟨by rfl, ?_⟩) (by assumption) ?_
            rotate_left
            · (intro w hSw; (try dsimp only at hSw); go_simp; try with_reducible rfl)
            try simp only [Act.put, List.setIfInBounds_toArray, List.set_cons_zero, List.set_cons_succ]
            refine wpAnyH_take (i := 7) (oi := { dst := some 70, op := Op.fieldAddr 61 (Operand.tmp 69) 1, type := 0, pos := "pool.go:52", after := #[{ on := 6, ground := Ground.data }], guard := none }) (v := ?_) rfl (by kernel_rfl) (by kernel_rfl) (by kernel_rfl) (fun _ _ _ h => h) (Or.inl ⟨by rfl, ?_⟩) (by assumption) ?_
            rotate_left
            · (intro w hSw; (try dsimp only at hSw); go_simp; try with_reducible rfl)
            try simp only [Act.put, List.setIfInBounds_toArray, List.set_cons_zero, List.set_cons_succ]
            refine wpAnyH_take (i := 8) (oi := { dst := some 71, op := Op.load 3 (Operand.tmp 70), type := 3, pos := "pool.go:52", after := #[{ on := 7, ground := Ground.data }], guard := none }) (v := ?_) rfl (by kernel_rfl) (by kernel_rfl) (by kernel_rfl) (fun _ _ _ h => h) (Or.inl ⟨by rfl, ?_⟩) (by assumption) ?_
            rotate_left
            · (intro w hSw; (try dsimp only at hSw); go_simp; try with_reducible rfl)
            try simp only [Act.put, List.setIfInBounds_toArray, List.set_cons_zero, List.set_cons_succ]
            refine wpAnyH_take (i := 9) (oi := { dst := some 72, op := Op.binOp BinOp.gtr 3 (Operand.tmp 67) (Operand.tmp 71) 3, type := 4, pos := "pool.go:52", after := #[{ on := 4, ground := Ground.data }, { on := 8, ground := Ground.data }], guard := none }) (v := ?_) rfl (by kernel_rfl) (by kernel_rfl) (by kernel_rfl) (fun _ _ _ h => h) (Or.inl ⟨by rfl, ?_⟩) (by assumption) ?_
            rotate_left
            · (intro w hSw; (try dsimp only at hSw); go_simp; try with_reducible rfl)
            try simp only [Act.put, List.setIfInBounds_toArray, List.set_cons_zero, List.set_cons_succ]
            refine wpAnyH_done (by kernel_rfl) ?_ _
            refine NoPanic.normal ?_
            clear hHeld
            have hc26' : W6.drew.cell? ⟨f.fb, 2, none⟩ = some (.slice A5 n5 c5) := hc26
            have Hp7 := Lib.hid (Hp6.out.below (Below.refl _ _).drew)
            have HC7 := Lib.hid HC6.out.drew
            generalize W6.drew = W7 at Hp7 HC7 hc26' ⊢
            clear hc26 hk6 d10
            have hd0 := (Hp7.out.frs _ (List.mem_cons_self ..)).c0
            have hdc := (Hp7.out.frs _ (List.mem_cons_self ..)).data
            dsimp only at hd0 hdc
            have Hdc := Lib.hid hdc
            clear hdc
            go_wp2_with fail
            refine (Try.clone1 Hdc.out rfl).mono ?_
            rintro e9 W9 ⟨v9, rfl, hr9, hb9⟩
            have Hr9 := Lib.hid hr9
            have Hp9 := Lib.hid (Hp7.out.below hb9)
            have HC9 : Hid (Chg w1 W9 (Own pb mb (f :: T))) := Lib.hid (HC7.out.trans (Chg.below hb9 _))
            have hsz9 := HC7.out.size
            clear hr9 hb9 hd0
            go_wp2_with fail
            go_ret3
            have hB := HB1.out
            refine ⟨{ f with pins := f.pins + 1, tv := .slice A5 n5 c5, ts := f.ts ++ [NN] }, v9, rfl, rfl, rfl, ?_, by rw [← HNN.out]; exact Hp9.out, own_mono Hr9.out (by have := hB.size; omega), ?_, (Chg.below hB _).trans HC9.out⟩
            · show _ = pushT k f.ts (now + 1)
              unfold pushT
              rw [← HNN.out, if_neg (by have := HN5.out; simp; omega)]
            · intro q hq
              exact (HV6.out q hq).imp id (fun h => by have := hB.size; have := HC2.out.size; omega)
        exact AllReadyH.nil
      exact AllReadyH.nil
    exact AllReadyH.nil
  exact AllReadyH.nil
end Go.Proofs.Ytjilpkmcddinaaa
end

section
set_option maxRecDepth 100000
namespace Go.Proofs.Ytjilpkmcddinaaa
open Go.RowKit Go.Maps
def Came (Dv : Nat → Nat → World → Prop) (w : World) (pb mb fr k now b1 b2 : Nat) (S : List Fr) (a : Nat) (f : Fr) (T : List Fr) (w1 : World) : Prop :=
  f.a = a ∧ f.pins = 0 ∧ f.ts = [] ∧ (∀ q ∈ f.blks, w.heap.size ≤ q) ∧ Dv b1 b2 w1 ∧ Chg w w1 (fun q => Own pb mb S q ∨ q = b1 ∨ q = b2) ∧ Gone fr k S T ∧ PoolI w1 pb mb fr k now (f :: T)
theorem Try.pinMiss {Dv : Nat → Nat → World → Prop} (hd : Dev Dv) {w : World} {pb mb fr k now b1 b2 a : Nat} {S : List Fr} (hp : PoolI w pb mb fr k now S) (hdv : Dv b1 b2 w) (ha1 : 2 ≤ a) (ha2 : a < 18) (hS : ∀ g ∈ S, g.a ≠ a) (h0 : ∀ f ∈ S, 1 ≤ f.ts.length) (hn1 : ¬ Own pb mb S b1) (hn2 : ¬ Own pb mb S b2) (hnow : now + 1 < 2 ^ 31) :
    Calls Try.prog 11 #[.pointer (some ⟨pb, 0, none⟩), .pointer (some ⟨b1, 0, none⟩), .agg #[.int .i64 (a : Int), .int .i64 1]] w fun e w' =>
      (S.length = fr ∧ (∀ f ∈ S, 0 < f.pins) ∧ e = .returned (.tuple #[.slice none 0 0, .bool false, .int .i64 8]) ∧ Below w.heap.size w w') ∨ (∃ (f : Fr) (T : List Fr) (w1 : World), Came Dv w pb mb fr k now b1 b2 S a f T w1 ∧ Touch w1 pb mb fr k now f T false e w') := by
  have Hp := Lib.hid hp
  have Hdv := Lib.hid hdv
  have HS := Lib.hid hS
  have H0 := Lib.hid h0
  have Hn1 := Lib.hid hn1
  have Hn2 := Lib.hid hn2
  have Hnow := Lib.hid hnow
  clear hp hdv hS h0 hn1 hn2 hnow
  go_enter Try.func11, Try.ntmps11
  go_upto_region 1 with fail
  have hE0 : (w.alloc (.cells #[.int .i64 (a : Int), .int .i64 1] 38)).heap[w.heap.size]? = some (.cells #[.int .i64 (a : Int), .int .i64 1] 38 (0, 0)) := heap_alloc_new _ _
  have hb0 := (Below.refl w.heap.size w).alloc (Nat.le_refl _) (.cells #[.int .i64 (a : Int), .int .i64 1] 38)
  have hsz : (w.alloc (.cells #[.int .i64 (a : Int), .int .i64 1] 38)).heap.size = w.heap.size + 1 := by simp
  generalize w.alloc (.cells #[.int .i64 (a : Int), .int .i64 1] 38) = w0 at hE0 hb0 hsz ⊢
  obtain ⟨eb, heb⟩ : ∃ eb, eb = w.heap.size := ⟨_, rfl⟩
  rw [← heb] at hE0 ⊢
  have hE00 : w0.cell? ⟨eb, 0, none⟩ = some (.int .i64 (a : Int)) := cell_of_row w0 eb 0 _ 38 (0, 0) hE0
  have hel : w.heap.size ≤ eb := by omega
  have hel2 : eb < w0.heap.size := by omega
  clear heb hsz
  have Hp0 := Lib.hid (Hp.out.below hb0)
  have hc3 := Hp0.out.c3
  have HE0 := Lib.hid hE0
  have Hb0 := Lib.hid hb0
  clear hE0 hb0
  refine wp_region_noPanic ?_
  refine wp_region_held_drew (S := (fun W => PoolI W pb mb fr k now S ∧ W.cell? ⟨pb, 3, none⟩ = some (.map (some mb)) ∧ W.cell? ⟨eb, 0, none⟩ = some (.int .i64 (a : Int)))) (by kernel_rfl) ?_ (fun hHeld => ?_)
  · exact ⟨Hp0.out.below (Below.refl _ _).drew, hc3, hE00⟩
  refine wpAnyH_take (i := 0) (oi := { dst := some 14, op := Op.move (Operand.tmp 0), type := 24, pos := "pool.go:41", after := #[], guard := none }) (v := ?_) rfl (by kernel_rfl) (by kernel_rfl) (by kernel_rfl) (fun _ _ _ h => h) (Or.inl ⟨by rfl, ?_⟩) (by assumption) ?_
  rotate_left
  · (intro w hSw; (try dsimp only at hSw); go_simp; try with_reducible rfl)
  try simp only [Act.put, List.setIfInBounds_toArray, List.set_cons_zero, List.set_cons_succ]
  refine wpAnyH_take (i := 1) (oi := { dst := some 15, op := Op.nilCheck (Operand.tmp 14), type := 0, pos := "pool.go:41", after := #[{ on := 0, ground := Ground.data }], guard := none }) (v := ?_) rfl (by kernel_rfl) (by kernel_rfl) (by kernel_rfl) (fun _ _ _ h => h) (Or.inl ⟨by rfl, ?_⟩) (by assumption) ?_
  rotate_left
  · (intro w hSw; (try dsimp only at hSw); go_simp; try with_reducible rfl)
  try simp only [Act.put, List.setIfInBounds_toArray, List.set_cons_zero, List.set_cons_succ]
  refine wpAnyH_take (i := 2) (oi := { dst := some 16, op := Op.fieldAddr 61 (Operand.tmp 15) 3, type := 0, pos := "pool.go:41", after := #[{ on := 1, ground := Ground.data }], guard := none }) (v := ?_) rfl (by kernel_rfl) (by kernel_rfl) (by kernel_rfl) (fun _ _ _ h => h) (Or.inl ⟨by rfl, ?_⟩) (by assumption) ?_
  rotate_left
  · (intro w hSw; (try dsimp only at hSw); go_simp; try with_reducible rfl)
  try simp only [Act.put, List.setIfInBounds_toArray, List.set_cons_zero, List.set_cons_succ]
  refine wpAnyH_take (i := 3) (oi := { dst := some 17, op := Op.load 59 (Operand.tmp 16), type := 59, pos := "pool.go:41", after := #[{ on := 2, ground := Ground.data }], guard := none }) (v := ?_) rfl (by kernel_rfl) (by kernel_rfl) (by kernel_rfl) (fun _ _ _ h => h) (Or.inl ⟨by rfl, ?_⟩) (by assumption) ?_
  rotate_left
  · (intro w hSw; (try dsimp only at hSw); go_simp; try with_reducible rfl)
  try simp only [Act.put, List.setIfInBounds_toArray, List.set_cons_zero, List.set_cons_succ]
  refine wpAnyH_take (i := 4) (oi := { dst := some 18, op := Op.fieldAddr 38 (Operand.tmp 5) 0, type := 0, pos := "pool.go:41", after := #[], guard := none }) (v := ?_) rfl (by kernel_rfl) (by kernel_rfl) (by kernel_rfl) (fun _ _ _ h => h) (Or.inl ⟨by rfl, ?_⟩) (by assumption) ?_
  rotate_left
  · (intro w hSw; (try dsimp only at hSw); go_simp; try with_reducible rfl)
  try simp only [Act.put, List.setIfInBounds_toArray, List.set_cons_zero, List.set_cons_succ]
  refine wpAnyH_take (i := 5) (oi := { dst := some 19, op := Op.load 3 (Operand.tmp 18), type := 3, pos := "pool.go:41", after := #[{ on := 4, ground := Ground.data }], guard := none }) (v := ?_) rfl (by kernel_rfl) (by kernel_rfl) (by kernel_rfl) (fun _ _ _ h => h) (Or.inl ⟨by rfl, ?_⟩) (by assumption) ?_
  rotate_left
  · (intro w hSw; (try dsimp only at hSw); go_simp; try with_reducible rfl)
  try simp only [Act.put, List.setIfInBounds_toArray, List.set_cons_zero, List.set_cons_succ]
  refine wpAnyH_take (i := 6) (oi := { dst := some 20, op := Op.lookup 59 (Operand.tmp 17) (Operand.tmp 19) true, type := 72, pos := "pool.go:41", after := #[{ on := 3, ground := Ground.data }, { on := 5, ground := Ground.data }], guard := none }) (v := ?_) rfl (by kernel_rfl) (by kernel_rfl) (by kernel_rfl) (fun _ _ _ h => h) (Or.inl ⟨by rfl, ?_⟩) (by assumption) ?_
  rotate_left
  · (intro w hSw; (try dsimp only at hSw); have hl := look_miss hSw.1 (by omega) HS.out true; go_simp; try with_reducible rfl)
  try simp only [Act.put, List.setIfInBounds_toArray, List.set_cons_zero, List.set_cons_succ]
  refine wpAnyH_take (i := 7) (oi := { dst := some 13, op := Op.move (Operand.tmp 20), type := 72, pos := "pool.go:41", after := #[{ on := 6, ground := Ground.data }], guard := none }) (v := ?_) rfl (by kernel_rfl) (by kernel_rfl) (by kernel_rfl) (fun _ _ _ h => h) (Or.inl ⟨by rfl, ?_⟩) (by assumption) ?_
  rotate_left
  · (intro w hSw; (try dsimp only at hSw); go_simp; try with_reducible rfl)
  try simp only [Act.put, List.setIfInBounds_toArray, List.set_cons_zero, List.set_cons_succ]
  refine wpAnyH_take (i := 8) (oi := { dst := some 21, op := Op.extract (Operand.tmp 13) 0, type := 71, pos := "pool.go:41", after := #[{ on := 7, ground := Ground.data }], guard := none }) (v := ?_) rfl (by kernel_rfl) (by kernel_rfl) (by kernel_rfl) (fun _ _ _ h => h) (Or.inl ⟨by rfl, ?_⟩) (by assumption) ?_
  rotate_left
  · (intro w hSw; (try dsimp only at hSw); go_simp; try with_reducible rfl)
  try simp only [Act.put, List.setIfInBounds_toArray, List.set_cons_zero, List.set_cons_succ]
  refine wpAnyH_take (i := 10) (oi := { dst := some 9, op := Op.assign (Operand.tmp 21), type := 71, pos := "pool.go:41", after := #[{ on := 8, ground := Ground.data }, { on := 0, ground := Ground.phase }, { on := 1, ground := Ground.phase }, { on := 2, ground := Ground.phase }, { on := 3, ground := Ground.phase }, { on := 4, ground := Ground.phase }, { on := 5, ground := Ground.phase }, { on := 6, ground := Ground.phase }, { on := 7, ground := Ground.phase }, { on := 8, ground := Ground.phase }, { on := 9, ground := Ground.textOnly Departure.lateStores }], guard := none }) (v := ?_) rfl (by kernel_rfl) (by kernel_rfl) (by kernel_rfl) (fun _ _ _ h => h) (Or.inl ⟨by rfl, ?_⟩) (by assumption) ?_
  rotate_left
  · (intro w hSw; (try dsimp only at hSw); go_simp; try with_reducible rfl)
  try simp only [Act.put, List.setIfInBounds_toArray, List.set_cons_zero, List.set_cons_succ]
  refine wpAnyH_take (i := 9) (oi := { dst := some 22, op := Op.extract (Operand.tmp 13) 1, type := 4, pos := "pool.go:41", after := #[{ on := 7, ground := Ground.data }, { on := 10, ground := Ground.gcOnly Departure.lateStores }], guard := none }) (v := ?_) rfl (by kernel_rfl) (by kernel_rfl) (by kernel_rfl) (fun _ _ _ h => h) (Or.inl ⟨by rfl, ?_⟩) (by assumption) ?_
  rotate_left
  · (intro w hSw; (try dsimp only at hSw); go_simp; try with_reducible rfl)
  try simp only [Act.put, List.setIfInBounds_toArray, List.set_cons_zero, List.set_cons_succ]
  refine wpAnyH_take (i := 11) (oi := { dst := some 10, op := Op.assign (Operand.tmp 22), type := 4, pos := "pool.go:41", after := #[{ on := 9, ground := Ground.data }, { on := 10, ground := Ground.chain }, { on := 0, ground := Ground.phase }, { on := 1, ground := Ground.phase }, { on := 2, ground := Ground.phase }, { on := 3, ground := Ground.phase }, { on := 4, ground := Ground.phase }, { on := 5, ground := Ground.phase }, { on := 6, ground := Ground.phase }, { on := 7, ground := Ground.phase }, { on := 8, ground := Ground.phase }, { on := 9, ground := Ground.phase }, { on := 10, ground := Ground.phase }], guard := none }) (v := ?_) rfl (by kernel_rfl) (by kernel_rfl) (by kernel_rfl) (fun _ _ _ h => h) (Or.inl ⟨by rfl, ?_⟩) (by assumption) ?_
  rotate_left
  · (intro w hSw; (try dsimp only at hSw); go_simp; try with_reducible rfl)
  try simp only [Act.put, List.setIfInBounds_toArray, List.set_cons_zero, List.set_cons_succ]
  refine wpAnyH_done (by kernel_rfl) ?_ _
  refine NoPanic.normal ?_
  have HpF := Lib.hid hHeld.1
  clear hHeld hE00 hc3
  generalize hw1 : w0.drew = w1 at HpF ⊢
  have HB1 : Hid (Below w.heap.size w w1) := Lib.hid (by rw [← hw1]; exact Hb0.out.drew)
  have hE1 : w1.heap[eb]? = some (.cells #[.int .i64 (a : Int), .int .i64 1] 38 (0, 0)) := by rw [← hw1]; exact HE0.out
  have he0 : w1.cell? ⟨eb, 0, none⟩ = some (.int .i64 (a : Int)) := cell_of_row w1 eb 0 _ 38 (0, 0) hE1
  have he1 : w1.cell? ⟨eb, 1, none⟩ = some (.int .i64 1) := cell_of_row w1 eb 1 _ 38 (0, 0) hE1
  clear hw1 hE1
  go_wp2_with fail
  refine (Try.load hd HpF.out (hd.below Hdv.out HB1.out) ha1 ha2 HS.out H0.out Hn1.out Hn2.out).mono ?_
  rintro e5 w5 (⟨hfull, hall, rfl, hb5⟩ | ⟨T, ⟨f, rfl, hfa, hfp, hft, hfr, hp5, hdv5, hch5⟩, hgone⟩)
  · have HB5 : Hid (Below w.heap.size w w5) := Lib.hid (HB1.out.trans (hb5.mono HB1.out.size))
    have Hfull := Lib.hid hfull
    have Hall := Lib.hid hall
    clear hb5 hfull hall he0 he1
    go_wp2_with fail
    go_ret3
    exact .inl ⟨Hfull.out, Hall.out, rfl, HB5.out⟩
  · have HCame : Hid (Came Dv w pb mb fr k now b1 b2 S a f T w5) := Lib.hid ⟨hfa, hfp, hft, fun q hq => Nat.le_trans HB1.out.size (hfr q hq), hdv5, (Chg.below HB1.out _).trans hch5, hgone, hp5⟩
    have HpF := Lib.hid hp5
    have Hts : Hid (f.ts.length ≤ k) := Lib.hid (by rw [hft]; exact Nat.zero_le _)
    have Hps : Hid (f.pins + 1 < 2 ^ 31) := Lib.hid (by rw [hfp]; omega)
    clear hfa hfp hft hfr hp5 hdv5 hch5 hgone he0 he1
    have hc2 := HpF.out.c2
    have hfz2 : w5.frozen? ⟨pb, 2, none⟩ = false := frozen_of_row w5 pb 2 _ 61 HpF.out.here
    have hwn : IntKind.i64.wrap ((now : Int) + 1) = (now : Int) + 1 := by have := Hnow.out; rw [IntKind.wrap_i64]; omega
    have HpN := Lib.hid (HpF.out.tick Hnow.out)
    have HC1 : Hid (Chg w5 (w5.setCell ⟨pb, 2, none⟩ (.int .i64 ((now + 1 : Nat) : Int))) (Own pb mb (f :: T))) := Lib.hid ((Chg.setCell _ _ _).mono fun b e => .inl e)
    go_upto_region 8 with fail
    rw [show ((now : Int) + 1) = ((now + 1 : Nat) : Int) by omega]
    generalize w5.setCell ⟨pb, 2, none⟩ (.int .i64 ((now + 1 : Nat) : Int)) = W2 at HpN HC1 ⊢
    clear hc2 hfz2 hwn
    have hp1 := (HpN.out.frs f (by simp)).c1
    have hfz1 : W2.frozen? ⟨f.fb, 1, none⟩ = false := frozen_of_row _ f.fb 1 _ 76 (HpN.out.frs f (by simp)).here
    have hwp : IntKind.i64.wrap ((f.pins : Int) + 1) = (f.pins : Int) + 1 := by have := Hps.out; rw [IntKind.wrap_i64]; omega
    obtain ⟨hpP, hcP⟩ := HpN.out.pinSet (f := f) (p := f.pins + 1) (by have := Hps.out; omega)
    have HpP := Lib.hid hpP
    have HC2 := Lib.hid (HC1.out.trans hcP)
    clear hpP hcP
    go_upto_region 9 with fail
    rw [show ((f.pins : Int) + 1) = ((f.pins + 1 : Nat) : Int) by omega]
    generalize W2.setCell ⟨f.fb, 1, none⟩ (.int .i64 ((f.pins + 1 : Nat) : Int)) = W3 at HpP HC2 ⊢
    clear hp1 hfz1 hwp
    have hI3 := HpP.out.frs _ (List.mem_cons_self ..)
    have hct : W3.cell? ⟨f.fb, 2, none⟩ = some f.tv := hI3.c2
    have hcn : W3.cell? ⟨pb, 2, none⟩ = some (.int .i64 ((now + 1 : Nat) : Int)) := HpP.out.c2
    have Htm : Hid (W3.ownsRow 0 3 1 f.tv f.ts.length (f.ts.map i64v)) := Lib.hid hI3.tims
    have Hhe : Hid (W3.heap[f.fb]? = some (.cells #[.slice (some ⟨f.db, 0, none⟩) 1 f.dc, .int .i64 ((f.pins + 1 : Nat) : Int), f.tv] 76 (0, 0))) := Lib.hid hI3.here
    have Hnv : Hid (f.fb ∉ vblk f.tv) := Lib.hid hI3.n2
    have htl8 : f.ts.length ≤ 8 := by have := Hts.out; have := HpF.out.k8; omega
    have Htl8 := Lib.hid htl8
    have Htlt : Hid (∀ t ∈ f.ts, t < 2 ^ 31) := Lib.hid hI3.tl
    have hfl := hI3.lt f.fb (by simp [Fr.blks])
    clear hI3 htl8
    obtain ⟨NN, hNN⟩ : ∃ NN, NN = now + 1 := ⟨_, rfl⟩
    rw [← hNN] at hcn HpP ⊢
    have HNN := Lib.hid hNN
    clear hNN
    have Hpv : Hid (pb ∉ vblk f.tv) := Lib.hid (fun q => (HpF.out.np f (by simp)).1 (by simp [Fr.blks, q]))
    have hpf : pb ≠ f.fb := fun e => (HpF.out.np f (by simp)).1 (by rw [e]; simp [Fr.blks])
    refine wp_region_noPanic ?_
    refine wp_region_held_drew (S := (fun W => W.cell? ⟨pb, 2, none⟩ = some (.int .i64 (NN : Int)))) (by kernel_rfl) ?_ (fun hHeld => ?_)
    · exact hcn
    refine wpAnyH_take (i := 0) (oi := { dst := some 50, op := Op.move (Operand.tmp 9), type := 71, pos := "pool.go:51", after := #[], guard := none }) (v := ?_) rfl (by kernel_rfl) (by kernel_rfl) (by kernel_rfl) (fun _ _ _ h => h) (Or.inl ⟨by rfl, ?_⟩) (by assumption) ?_
    rotate_left
    · (intro w hSw; (try dsimp only at hSw); go_simp; try with_reducible rfl)
    try simp only [Act.put, List.setIfInBounds_toArray, List.set_cons_zero, List.set_cons_succ]
    refine wpAnyH_take (i := 1) (oi := { dst := some 51, op := Op.move (Operand.tmp 9), type := 71, pos := "pool.go:51", after := #[], guard := none }) (v := ?_) rfl (by kernel_rfl) (by kernel_rfl) (by kernel_rfl) (fun _ _ _ h => h) (Or.inl ⟨by rfl, ?_⟩) (by assumption) ?_
    rotate_left
    · (intro w hSw; (try dsimp only at hSw); go_simp; try with_reducible rfl)
    try simp only [Act.put, List.setIfInBounds_toArray, List.set_cons_zero, List.set_cons_succ]
    refine wpAnyH_take (i := 2) (oi := { dst := some 52, op := Op.nilCheck (Operand.tmp 51), type := 0, pos := "pool.go:51", after := #[{ on := 1, ground := Ground.data }], guard := none }) (v := ?_) rfl (by kernel_rfl) (by kernel_rfl) (by kernel_rfl) (fun _ _ _ h => h) (Or.inl ⟨by rfl, ?_⟩) (by assumption) ?_
    rotate_left
    · (intro w hSw; (try dsimp only at hSw); go_simp; try with_reducible rfl)
    try simp only [Act.put, List.setIfInBounds_toArray, List.set_cons_zero, List.set_cons_succ]
    refine wpAnyH_take (i := 3) (oi := { dst := some 53, op := Op.fieldAddr 76 (Operand.tmp 52) 2, type := 0, pos := "pool.go:51", after := #[{ on := 2, ground := Ground.data }], guard := none }) (v := ?_) rfl (by kernel_rfl) (by kernel_rfl) (by kernel_rfl) (fun _ _ _ h => h) (Or.inl ⟨by rfl, ?_⟩) (by assumption) ?_
    rotate_left
    · (intro w hSw; (try dsimp only at hSw); go_simp; try with_reducible rfl)
    try simp only [Act.put, List.setIfInBounds_toArray, List.set_cons_zero, List.set_cons_succ]
    refine wpAnyH_take (i := 5) (oi := { dst := some 55, op := Op.move (Operand.tmp 0), type := 24, pos := "pool.go:51", after := #[], guard := none }) (v := ?_) rfl (by kernel_rfl) (by kernel_rfl) (by kernel_rfl) (fun _ _ _ h => h) (Or.inl ⟨by rfl, ?_⟩) (by assumption) ?_
    rotate_left
    · (intro w hSw; (try dsimp only at hSw); go_simp; try with_reducible rfl)
    try simp only [Act.put, List.setIfInBounds_toArray, List.set_cons_zero, List.set_cons_succ]
    refine wpAnyH_take (i := 6) (oi := { dst := some 56, op := Op.nilCheck (Operand.tmp 55), type := 0, pos := "pool.go:51", after := #[{ on := 5, ground := Ground.data }], guard := none }) (v := ?_) rfl (by kernel_rfl) (by kernel_rfl) (by kernel_rfl) (fun _ _ _ h => h) (Or.inl ⟨by rfl, ?_⟩) (by assumption) ?_
    rotate_left
    · (intro w hSw; (try dsimp only at hSw); go_simp; try with_reducible rfl)
    try simp only [Act.put, List.setIfInBounds_toArray, List.set_cons_zero, List.set_cons_succ]
    refine wpAnyH_take (i := 7) (oi := { dst := some 57, op := Op.fieldAddr 61 (Operand.tmp 56) 2, type := 0, pos := "pool.go:51", after := #[{ on := 6, ground := Ground.data }], guard := none }) (v := ?_) rfl (by kernel_rfl) (by kernel_rfl) (by kernel_rfl) (fun _ _ _ h => h) (Or.inl ⟨by rfl, ?_⟩) (by assumption) ?_
    rotate_left
    · (intro w hSw; (try dsimp only at hSw); go_simp; try with_reducible rfl)
    try simp only [Act.put, List.setIfInBounds_toArray, List.set_cons_zero, List.set_cons_succ]
    refine wpAnyH_take (i := 8) (oi := { dst := some 58, op := Op.load 3 (Operand.tmp 57), type := 3, pos := "pool.go:51", after := #[{ on := 7, ground := Ground.data }], guard := none }) (v := ?_) rfl (by kernel_rfl) (by kernel_rfl) (by kernel_rfl) (fun _ _ _ h => h) (Or.inl ⟨by rfl, ?_⟩) (by assumption) ?_
    rotate_left
    · (intro w hSw; (try dsimp only at hSw); go_simp; try with_reducible rfl)
    try simp only [Act.put, List.setIfInBounds_toArray, List.set_cons_zero, List.set_cons_succ]
    refine wpAnyH_ready (rs := [4, 9]) (by kernel_rfl) (by simp) ?_
    refine AllReadyH.cons (o := { dst := some 54, op := Op.load 50 (Operand.tmp 53), type := 50, pos := "pool.go:51", after := #[{ on := 3, ground := Ground.data }], guard := none }) rfl (fun K hK => ?_) ?_
    · skip
      go_simp
      refine hK.out _ _ ?_ (fun hHeld => ?_)
      · exact hcn
      clear hK K
      try simp only [Act.put, List.setIfInBounds_toArray, List.set_cons_zero, List.set_cons_succ]
      refine wpAnyH_ready (rs := [9]) (by kernel_rfl) (by simp) ?_
      refine AllReadyH.cons (o := { dst := some 59, op := Op.buildSlice 50 1 #[(0, Operand.tmp 58)], type := 50, pos := "pool.go:51", after := #[{ on := 8, ground := Ground.data }], guard := none }) rfl (fun K hK => ?_) ?_
      · skip
        go_simp
        have hcg : ((W3.alloc (.cells #[.int .i64 (NN : Int)] 3)).drew).cell? ⟨W3.heap.size, 0, none⟩ = some (.int .i64 (NN : Int)) := cell_of_row _ _ 0 _ 3 (0, 0) (heap_alloc_new _ _)
        have hCA : Chg W3 ((W3.alloc (.cells #[.int .i64 (NN : Int)] 3)).drew) (· ∈ vblk f.tv) := (Chg.alloc W3 _ _).drew
        have hsA : ((W3.alloc (.cells #[.int .i64 (NN : Int)] 3)).drew).heap.size = W3.heap.size + 1 := by simp
        have hct4 := (World.cell?_of_block (w := W3) (a := ⟨f.fb, 2, none⟩) (hCA.block f.fb hfl Hnv.out)).trans hct
        have hcn4 : ((W3.alloc (.cells #[.int .i64 (NN : Int)] 3)).drew).cell? ⟨pb, 2, none⟩ = some (.int .i64 (NN : Int)) := (World.cell?_of_block (w := W3) (a := ⟨pb, 2, none⟩) (Below.heap_alloc W3 (.cells #[.int .i64 (NN : Int)] 3) pb (block_lt_of_cell hcn))).trans hcn
        have Hro4 : Hid (((W3.alloc (.cells #[.int .i64 (NN : Int)] 3)).drew).ownsRow 0 3 1 f.tv f.ts.length (f.ts.map i64v)) := Lib.hid (own_stay Htm.out fun b hb => Below.heap_alloc W3 _ b (HpP.out.frs _ (List.mem_cons_self ..) |>.lt b (by simp [Fr.blks, hb])))
        have HCA := Lib.hid hCA
        have HsA := Lib.hid hsA
        obtain ⟨gg, hgg⟩ : ∃ gg, W3.heap.size = gg := ⟨_, rfl⟩
        rw [hgg] at hcg
        rw [hgg]
        clear hgg hCA hsA
        generalize (W3.alloc (.cells #[.int .i64 (NN : Int)] 3)).drew = W4 at hcg hct4 hcn4 Hro4 HCA HsA ⊢
        refine hK.out _ _ ?_ (fun hHeld => ?_)
        · exact hcn4
        clear hK K
        try simp only [Act.put, List.setIfInBounds_toArray, List.set_cons_zero, List.set_cons_succ]
        refine wpAnyH_ready (rs := [10]) (by kernel_rfl) (by simp) ?_
        refine AllReadyH.cons (o := { dst := some 60, op := Op.call { callee := Callee.builtin Builtin.append, args := #[Operand.tmp 54, Operand.tmp 59], argTypes := #[50, 50] }, type := 50, pos := "pool.go:51", after := #[{ on := 4, ground := Ground.data }, { on := 9, ground := Ground.data }], guard := none }) rfl (fun K hK => ?_) ?_
        · skip
          refine oper_tapp _ _ rfl rfl Hro4.out Htl8.out gg NN rfl hcg ?_
          rintro v5 W5 hr5 hc5 hv5 ⟨A5, n5, c5, rfl⟩
          have Hr5 := Lib.hid hr5
          have Hc5 : Hid (Chg W3 W5 (· ∈ vblk f.tv)) := Lib.hid (HCA.out.trans hc5)
          have Hv5 : Hid (∀ b ∈ vblk (.slice A5 n5 c5), b ∈ vblk f.tv ∨ W3.heap.size ≤ b) := Lib.hid (fun b hb => (hv5 b hb).imp id (fun h => by have := HsA.out; omega))
          have hh5 : W5.heap[f.fb]? = W3.heap[f.fb]? := Hc5.out.block f.fb hfl Hnv.out
          have hc5x : W5.cell? ⟨f.fb, 2, none⟩ = some f.tv := (World.cell?_of_block (w := W3) (a := ⟨f.fb, 2, none⟩) hh5).trans hct
          have hf5 : W5.frozen? ⟨f.fb, 2, none⟩ = false := frozen_of_row _ f.fb 2 _ 76 (hh5.trans Hhe.out)
          have hcn5 : W5.cell? ⟨pb, 2, none⟩ = some (.int .i64 (NN : Int)) := (World.cell?_of_block (w := W3) (a := ⟨pb, 2, none⟩) (Hc5.out.block pb (block_lt_of_cell hcn) Hpv.out)).trans hcn
          clear hr5 hc5 hv5 hcg hct4 hh5 hcn4
          refine hK.out _ _ ?_ (fun hHeld => ?_)
          · exact hcn5
          clear hK K
          try simp only [Act.put, List.setIfInBounds_toArray, List.set_cons_zero, List.set_cons_succ]
          refine wpAnyH_take (i := 11) (oi := { dst := some 61, op := Op.nilCheck (Operand.tmp 50), type := 0, pos := "pool.go:51", after := #[{ on := 0, ground := Ground.data }, { on := 0, ground := Ground.phase }, { on := 1, ground := Ground.phase }, { on := 2, ground := Ground.phase }, { on := 3, ground := Ground.phase }, { on := 4, ground := Ground.phase }, { on := 5, ground := Ground.phase }, { on := 6, ground := Ground.phase }, { on := 7, ground := Ground.phase }, { on := 8, ground := Ground.phase }, { on := 9, ground := Ground.phase }, { on := 10, ground := Ground.phase }], guard := none }) (v := ?_) rfl (by kernel_rfl) (by kernel_rfl) (by kernel_rfl) (fun _ _ _ h => h) (Or.inl ⟨by rfl, ?_⟩) (by assumption) ?_
          rotate_left
          · (intro w hSw; (try dsimp only at hSw); go_simp; try with_reducible rfl)
          try simp only [Act.put, List.setIfInBounds_toArray, List.set_cons_zero, List.set_cons_succ]
          refine wpAnyH_take (i := 12) (oi := { dst := some 62, op := Op.fieldAddr 76 (Operand.tmp 61) 2, type := 0, pos := "pool.go:51", after := #[{ on := 11, ground := Ground.data }, { on := 0, ground := Ground.phase }, { on := 1, ground := Ground.phase }, { on := 2, ground := Ground.phase }, { on := 3, ground := Ground.phase }, { on := 4, ground := Ground.phase }, { on := 5, ground := Ground.phase }, { on := 6, ground := Ground.phase }, { on := 7, ground := Ground.phase }, { on := 8, ground := Ground.phase }, { on := 9, ground := Ground.phase }, { on := 10, ground := Ground.phase }], guard := none }) (v := ?_) rfl (by kernel_rfl) (by kernel_rfl) (by kernel_rfl) (fun _ _ _ h => h) (Or.inl ⟨by rfl, ?_⟩) (by assumption) ?_
          rotate_left
          · (intro w hSw; (try dsimp only at hSw); go_simp; try with_reducible rfl)
          try simp only [Act.put, List.setIfInBounds_toArray, List.set_cons_zero, List.set_cons_succ]
          refine wpAnyH_ready (rs := [13]) (by kernel_rfl) (by simp) ?_
          refine AllReadyH.cons (o := { dst := none, op := Op.store 50 (Operand.tmp 62) (Operand.tmp 60), type := 0, pos := "pool.go:51", after := #[{ on := 12, ground := Ground.data }, { on := 10, ground := Ground.data }, { on := 10, ground := Ground.chain }, { on := 0, ground := Ground.phase }, { on := 1, ground := Ground.phase }, { on := 2, ground := Ground.phase }, { on := 3, ground := Ground.phase }, { on := 4, ground := Ground.phase }, { on := 5, ground := Ground.phase }, { on := 6, ground := Ground.phase }, { on := 7, ground := Ground.phase }, { on := 8, ground := Ground.phase }, { on := 9, ground := Ground.phase }, { on := 10, ground := Ground.phase }], guard := none }) rfl (fun K hK => ?_) ?_
          · skip
            go_simp
            have hcn6 : (W5.setCell ⟨f.fb, 2, none⟩ (.slice A5 n5 c5)).cell? ⟨pb, 2, none⟩ = some (.int .i64 (NN : Int)) := (World.cell?_of_block (w := W5) (a := ⟨pb, 2, none⟩) (Below.heap_setCell W5 _ _ pb hpf)).trans hcn5
            refine hK.out _ _ ?_ (fun hHeld => ?_)
            · exact hcn6
            clear hK K
            try simp only [Act.put, List.setIfInBounds_toArray, List.set_cons_zero, List.set_cons_succ]
            refine wpAnyH_done (by kernel_rfl) ?_ _
            refine NoPanic.normal ?_
            have hp6 := HpP.out.timSet Hc5.out Hr5.out Hv5.out (by simp; have := Htl8.out; omega) (by
              intro t ht
              rcases List.mem_append.1 ht with h | h
              · exact Htlt.out t h
              · simp at h
                subst h
                have := HNN.out
                have := Hnow.out
                omega)
            have Hp6 := Lib.hid hp6.1
            have HC6 := Lib.hid (HC2.out.trans (hp6.2.mono fun b hb => own_same (f := f) (f' := { f with pins := f.pins + 1 }) rfl hb))
            dsimp only at HC6
            have HV6 : Hid (∀ q ∈ Fr.blks { f with pins := f.pins + 1, tv := .slice A5 n5 c5, ts := f.ts ++ [NN] }, q ∈ f.blks ∨ W3.heap.size ≤ q) := Lib.hid (fun q hq => by
              simp only [Fr.blks, List.mem_cons] at hq ⊢
              rcases hq with rfl | rfl | hq
              · exact .inl (.inl rfl)
              · exact .inl (.inr (.inl rfl))
              · rcases Hv5.out q hq with h | h
                · exact .inl (.inr (.inr h))
                · exact .inr h)
            have HN5 : Hid (n5 = f.ts.length + 1) := Lib.hid (by
              rcases Hr5.out.2 with ⟨_, h⟩ | ⟨_, _, _, h, _⟩
              · simp at h
              · injection h with _ h _
                rw [h]; simp)
            clear hp6 hHeld
            dsimp only at Hp6
            generalize W5.setCell ⟨f.fb, 2, none⟩ (.slice A5 n5 c5) = W6 at Hp6 HC6 ⊢
            have hI6 := Hp6.out.frs _ (List.mem_cons_self ..)
            have hc26 := hI6.c2
            have hk6 := Hp6.out.c1
            dsimp only at hc26
            clear hI6
            go_upto_region 10 with fail
            by_cases hlen : k < n5
            · have d10 : decide ((n5 : Int) > (k : Int)) = true := decide_eq_true (by omega)
              refine wp_region_noPanic ?_
              refine wp_region_held_drew (S := (fun W => W.cell? ⟨f.fb, 2, none⟩ = some (.slice A5 n5 c5) ∧ W.cell? ⟨pb, 1, none⟩ = some (.int .i64 (k : Int)))) (by kernel_rfl) ?_ (fun hHeld => ?_)
              · exact ⟨hc26, hk6⟩
              refine wpAnyH_take (i := 0) (oi := { dst := some 63, op := Op.move (Operand.tmp 9), type := 71, pos := "pool.go:52", after := #[], guard := none }) (v := ?_) rfl (by kernel_rfl) (by kernel_rfl) (by kernel_rfl) (fun _ _ _ h => h) (Or.inl ⟨by rfl, ?_⟩) (by assumption) ?_
              rotate_left
              · (intro w hSw; (try dsimp only at hSw); go_simp; try with_reducible rfl)
              try simp only [Act.put, List.setIfInBounds_toArray, List.set_cons_zero, List.set_cons_succ]
              refine wpAnyH_take (i := 1) (oi := { dst := some 64, op := Op.nilCheck (Operand.tmp 63), type := 0, pos := "pool.go:52", after := #[{ on := 0, ground := Ground.data }], guard := none }) (v := ?_) rfl (by kernel_rfl) (by kernel_rfl) (by kernel_rfl) (fun _ _ _ h => h) (Or.inl ⟨by rfl, ?_⟩) (by assumption) ?_
              rotate_left
              · (intro w hSw; (try dsimp only at hSw); go_simp; try with_reducible rfl)
              try simp only [Act.put, List.setIfInBounds_toArray, List.set_cons_zero, List.set_cons_succ]
              refine wpAnyH_take (i := 2) (oi := { dst := some 65, op := Op.fieldAddr 76 (Operand.tmp 64) 2, type := 0, pos := "pool.go:52", after := #[{ on := 1, ground := Ground.data }], guard := none }) (v := ?_) rfl (by kernel_rfl) (by kernel_rfl) (by kernel_rfl) (fun _ _ _ h => h) (Or.inl ⟨by rfl, ?_⟩) (by assumption) ?_
              rotate_left
              · (intro w hSw; (try dsimp only at hSw); go_simp; try with_reducible rfl)
              try simp only [Act.put, List.setIfInBounds_toArray, List.set_cons_zero, List.set_cons_succ]
              refine wpAnyH_take (i := 3) (oi := { dst := some 66, op := Op.load 50 (Operand.tmp 65), type := 50, pos := "pool.go:52", after := #[{ on := 2, ground := Ground.data }], guard := none }) (v := ?_) rfl (by kernel_rfl) (by kernel_rfl) (by kernel_rfl) (fun _ _ _ h => h) (Or.inl ⟨by rfl, ?_⟩) (by assumption) ?_
              rotate_left
              · (intro w hSw; (try dsimp only at hSw); go_simp; try with_reducible rfl)
              try simp only [Act.put, List.setIfInBounds_toArray, List.set_cons_zero, List.set_cons_succ]
              refine wpAnyH_take (i := 4) (oi := { dst := some 67, op := Op.call { callee := Callee.builtin Builtin.len, args := #[Operand.tmp 66], argTypes := #[50] }, type := 3, pos := "pool.go:52", after := #[{ on := 3, ground := Ground.data }], guard := none }) (v := ?_) rfl (by kernel_rfl) (by kernel_rfl) (by kernel_rfl) (fun _ _ _ h => h) (Or.inl ⟨by rfl, ?_⟩) (by assumption) ?_
              rotate_left
              · (intro w hSw; (try dsimp only at hSw); go_simp; try with_reducible rfl)
              try simp only [Act.put, List.setIfInBounds_toArray, List.set_cons_zero, List.set_cons_succ]
              refine wpAnyH_take (i := 5) (oi := { dst := some 68, op := Op.move (Operand.tmp 0), type := 24, pos := "pool.go:52", after := #[], guard := none }) (v := ?_) rfl (by kernel_rfl) (by kernel_rfl) (by kernel_rfl) (fun _ _ _ h => h) (Or.inl ⟨by rfl, ?_⟩) (by assumption) ?_
              rotate_left
              · (intro w hSw; (try dsimp only at hSw); go_simp; try with_reducible rfl)
              try simp only [Act.put, List.setIfInBounds_toArray, List.set_cons_zero, List.set_cons_succ]
              refine wpAnyH_take (i := 6) (oi := { dst := some 69, op := Op.nilCheck (Operand.tmp 68), type := 0, pos := "pool.go:52", after := #[{ on := 5, ground := Ground.data }], guard := none }) (v := ?_) rfl (by kernel_rfl) (by kernel_rfl) (by kernel_rfl) (fun _ _ _ h => h) (Or.inl ⟨by rfl, ?_⟩) (by assumption) ?_
              rotate_left
              · (intro w hSw; (try dsimp only at hSw); go_simp; try with_reducible rfl)
              try simp only [Act.put, List.setIfInBounds_toArray, List.set_cons_zero, List.set_cons_succ]
              refine wpAnyH_take (i := 7) (oi := { dst := some 70, op := Op.fieldAddr 61 (Operand.tmp 69) 1, type := 0, pos := "pool.go:52", after := #[{ on := 6, ground := Ground.data }], guard := none }) (v := ?_) rfl (by kernel_rfl) (by kernel_rfl) (by kernel_rfl) (fun _ _ _ h => h) (Or.inl ⟨by rfl, ?_⟩) (by assumption) ?_
              rotate_left
              · (intro w hSw; (try dsimp only at hSw); go_simp; try with_reducible rfl)
              try simp only [Act.put, List.setIfInBounds_toArray, List.set_cons_zero, List.set_cons_succ]
              refine wpAnyH_take (i := 8) (oi := { dst := some 71, op := Op.load 3 (Operand.tmp 70), type := 3, pos := "pool.go:52", after := #[{ on := 7, ground := Ground.data }], guard := none }) (v := ?_) rfl (by kernel_rfl) (by kernel_rfl) (by kernel_rfl) (fun _ _ _ h => h) (Or.inl ⟨by rfl, ?_⟩) (by assumption) ?_
              rotate_left
              · (intro w hSw; (try dsimp only at hSw); go_simp; try with_reducible rfl)
              try simp only [Act.put, List.setIfInBounds_toArray, List.set_cons_zero, List.set_cons_succ]
              refine wpAnyH_take (i := 9) (oi := { dst := some 72, op := Op.binOp BinOp.gtr 3 (Operand.tmp 67) (Operand.tmp 71) 3, type := 4, pos := "pool.go:52", after := #[{ on := 4, ground := Ground.data }, { on := 8, ground := Ground.data }], guard := none }) (v := ?_) rfl (by kernel_rfl) (by kernel_rfl) (by kernel_rfl) (fun _ _ _ h => h) (Or.inl ⟨by rfl, ?_⟩) (by assumption) ?_
              rotate_left
              · (intro w hSw; (try dsimp only at hSw); go_simp; try with_reducible rfl)
              try simp only [Act.put, List.setIfInBounds_toArray, List.set_cons_zero, List.set_cons_succ]
              refine wpAnyH_done (by kernel_rfl) ?_ _
              refine NoPanic.normal ?_
              clear hHeld
              have hc26' : W6.drew.cell? ⟨f.fb, 2, none⟩ = some (.slice A5 n5 c5) := hc26
              have Hp7 := Lib.hid (Hp6.out.below (Below.refl _ _).drew)
              have HC7 := Lib.hid HC6.out.drew
              generalize W6.drew = W7 at Hp7 HC7 hc26' ⊢
              clear hc26 hk6 d10
              have Htm7 := Lib.hid (Hp7.out.frs _ (List.mem_cons_self ..)).tims
              dsimp only at Htm7
              go_wp2_with fail
              refine (Try.del1 Htm7.out (by simp)).mono ?_
              rintro e8 W8 ⟨v8, rfl, hr8, hv8, hc8, A8, n8, c8, rfl⟩
              have hI7 := Hp7.out.frs _ (List.mem_cons_self ..)
              have hh8 := hc8.block f.fb (hI7.lt f.fb (by simp [Fr.blks])) hI7.n2
              have hc28 := (World.cell?_of_block (w := W7) (a := ⟨f.fb, 2, none⟩) hh8).trans hc26'
              have hf8 : W8.frozen? ⟨f.fb, 2, none⟩ = false := frozen_of_row _ f.fb 2 _ 76 (hh8.trans hI7.here)
              obtain ⟨hp8, hcc8⟩ := Hp7.out.timSet hc8 hr8 (fun b hb => .inl (by rw [hv8] at hb; exact hb)) (by simp; have := Htl8.out; omega) (tail_lt hI7.tl)
              have Hp8 := Lib.hid hp8
              have HC8 := Lib.hid (HC7.out.trans' hcc8 (fun b hb h => by
                rcases h with h | h | ⟨g, hg, hq⟩
                · exact .inl h
                · exact .inr (.inl h)
                · rcases List.mem_cons.1 hg with rfl | hg
                  · rcases HV6.out b hq with h | h
                    · exact .inr (.inr ⟨f, by simp, h⟩)
                    · have := HC2.out.size
                      omega
                  · exact .inr (.inr ⟨g, by simp [hg], hq⟩)))
              have HV8 : Hid (∀ q ∈ Fr.blks { f with pins := f.pins + 1, tv := .slice A8 n8 c8, ts := (f.ts ++ [NN]).tail }, q ∈ f.blks ∨ W3.heap.size ≤ q) := Lib.hid (fun q hq => by
                refine HV6.out q ?_
                simp only [Fr.blks, List.mem_cons] at hq ⊢
                rw [hv8] at hq
                exact hq)
              clear hp8 hcc8 hr8 hv8 hc8 hI7 hc26' hh8
              dsimp only at Hp8
              go_upto_region 12 with fail
              generalize W8.setCell ⟨f.fb, 2, none⟩ (.slice A8 n8 c8) = WA at Hp8 HC8 ⊢
              clear hc28 hf8
              have hd0 := (Hp8.out.frs _ (List.mem_cons_self ..)).c0
              have hdc := (Hp8.out.frs _ (List.mem_cons_self ..)).data
              dsimp only at hd0 hdc
              have Hdc := Lib.hid hdc
              clear hdc
              go_wp2_with fail
              refine (Try.clone1 Hdc.out rfl).mono ?_
              rintro e9 W9 ⟨v9, rfl, hr9, hb9⟩
              have Hr9 := Lib.hid hr9
              have Hp9 := Lib.hid (Hp8.out.below hb9)
              have HC9 : Hid (Chg w5 W9 (Own pb mb (f :: T))) := Lib.hid (HC8.out.trans (Chg.below hb9 _))
              have hsz9 := HC8.out.size
              clear hr9 hb9 hd0
              go_wp2_with fail
              go_ret3
              have hB := (Below.refl w5.heap.size w5)
              refine .inr ⟨f, T, w5, HCame.out, ⟨{ f with pins := f.pins + 1, tv := .slice A8 n8 c8, ts := (f.ts ++ [NN]).tail }, v9, rfl, rfl, rfl, ?_, by rw [← HNN.out]; exact Hp9.out, own_mono Hr9.out (by have := hB.size; omega), ?_, (Chg.below hB _).trans HC9.out⟩⟩
              · show _ = pushT k f.ts (now + 1)
                unfold pushT
                rw [← HNN.out, if_pos (by have := HN5.out; simp; omega)]
              · intro q hq
                exact (HV8.out q hq).imp id (fun h => by have := hB.size; have := HC2.out.size; omega)
            · have d10 : decide ((n5 : Int) > (k : Int)) = false := decide_eq_false (by omega)
              refine wp_region_noPanic ?_
              refine wp_region_held_drew (S := (fun W => W.cell? ⟨f.fb, 2, none⟩ = some (.slice A5 n5 c5) ∧ W.cell? ⟨pb, 1, none⟩ = some (.int .i64 (k : Int)))) (by kernel_rfl) ?_ (fun hHeld => ?_)
              · exact ⟨hc26, hk6⟩
              refine wpAnyH_take (i := 0) (oi := { dst := some 63, op := Op.move (Operand.tmp 9), type := 71, pos := "pool.go:52", after := #[], guard := none }) (v := ?_) rfl (by kernel_rfl) (by kernel_rfl) (by kernel_rfl) (fun _ _ _ h => h) (Or.inl ⟨by rfl, ?_⟩) (by assumption) ?_
              rotate_left
              · (intro w hSw; (try dsimp only at hSw); go_simp; try with_reducible rfl)
              try simp only [Act.put, List.setIfInBounds_toArray, List.set_cons_zero, List.set_cons_succ]
              refine wpAnyH_take (i := 1) (oi := { dst := some 64, op := Op.nilCheck (Operand.tmp 63), type := 0, pos := "pool.go:52", after := #[{ on := 0, ground := Ground.data }], guard := none }) (v := ?_) rfl (by kernel_rfl) (by kernel_rfl) (by kernel_rfl) (fun _ _ _ h => h) (Or.inl ⟨by rfl, ?_⟩) (by assumption) ?_
              rotate_left
              · (intro w hSw; (try dsimp only at hSw); go_simp; try with_reducible rfl)
              try simp only [Act.put, List.setIfInBounds_toArray, List.set_cons_zero, List.set_cons_succ]
              refine wpAnyH_take (i := 2) (oi := { dst := some 65, op := Op.fieldAddr 76 (Operand.tmp 64) 2, type := 0, pos := "pool.go:52", after := #[{ on := 1, ground := Ground.data }], guard := none }) (v := ?_) rfl (by kernel_rfl) (by kernel_rfl) (by kernel_rfl) (fun _ _ _ h => h) (Or.inl ⟨by rfl, ?_⟩) (by assumption) ?_
              rotate_left
              · (intro w hSw; (try dsimp only at hSw); go_simp; try with_reducible rfl)
              try simp only [Act.put, List.setIfInBounds_toArray, List.set_cons_zero, List.set_cons_succ]
              refine wpAnyH_take (i := 3) (oi := { dst := some 66, op := Op.load 50 (Operand.tmp 65), type := 50, pos := "pool.go:52", after := #[{ on := 2, ground := Ground.data }], guard := none }) (v := ?_) rfl (by kernel_rfl) (by kernel_rfl) (by kernel_rfl) (fun _ _ _ h => h) (Or.inl ⟨by rfl, ?_⟩) (by assumption) ?_
              rotate_left
              · (intro w hSw; (try dsimp only at hSw); go_simp; try with_reducible rfl)
              try simp only [Act.put, List.setIfInBounds_toArray, List.set_cons_zero, List.set_cons_succ]
              refine wpAnyH_take (i := 4) (oi := { dst := some 67, op := Op.call { callee := Callee.builtin Builtin.len, args := #[Operand.tmp 66], argTypes := #[50] }, type := 3, pos := "pool.go:52", after := #[{ on := 3, ground := Ground.data }], guard := none }) (v := ?_) rfl (by kernel_rfl) (by kernel_rfl) (by kernel_rfl) (fun _ _ _ h => h) (Or.inl ⟨by rfl, ?_⟩) (by assumption) ?_
              rotate_left
              · (intro w hSw; (try dsimp only at hSw); go_simp; try with_reducible rfl)
              try simp only [Act.put, List.setIfInBounds_toArray, List.set_cons_zero, List.set_cons_succ]
              refine wpAnyH_take (i := 5) (oi := { dst := some 68, op := Op.move (Operand.tmp 0), type := 24, pos := "pool.go:52", after := #[], guard := none }) (v := ?_) rfl (by kernel_rfl) (by kernel_rfl) (by kernel_rfl) (fun _ _ _ h => h) (Or.inl ⟨by rfl, ?_⟩) (by assumption) ?_
              rotate_left
              · (intro w hSw; (try dsimp only at hSw); go_simp; try with_reducible rfl)
              try simp only [Act.put, List.setIfInBounds_toArray, List.set_cons_zero, List.set_cons_succ]
              refine wpAnyH_take (i := 6) (oi := { dst := some 69, op := Op.nilCheck (Operand.tmp 68), type := 0, pos := "pool.go:52", after := #[{ on := 5, ground := Ground.data }], guard := none }) (v := ?_) rfl (by kernel_rfl) (by kernel_rfl) (by kernel_rfl) (fun _ _ _ h => h) (Or.inl ⟨by rfl, ?_⟩) (by assumption) ?_
              rotate_left
              · (intro w hSw; (try dsimp only at hSw); go_simp; try with_reducible rfl)
              try simp only [Act.put, List.setIfInBounds_toArray, List.set_cons_zero, List.set_cons_succ]
              refine wpAnyH_take (i := 7) (oi := { dst := some 70, op := Op.fieldAddr 61 (Operand.tmp 69) 1, type := 0, pos := "pool.go:52", after := #[{ on := 6, ground := Ground.data }], guard := none }) (v := ?_) rfl (by kernel_rfl) (by kernel_rfl) (by kernel_rfl) (fun _ _ _ h => h) (Or.inl ⟨by rfl, ?_⟩) (by assumption) ?_
              rotate_left
              · (intro w hSw; (try dsimp only at hSw); go_simp; try with_reducible rfl)
              try simp only [Act.put, List.setIfInBounds_toArray, List.set_cons_zero, List.set_cons_succ]
              refine wpAnyH_take (i := 8) (oi := { dst := some 71, op := Op.load 3 (Operand.tmp 70), type := 3, pos := "pool.go:52", after := #[{ on := 7, ground := Ground.data }], guard := none }) (v := ?_) rfl (by kernel_rfl) (by kernel_rfl) (by kernel_rfl) (fun _ _ _ h => h) (Or.inl ⟨by rfl, ?_⟩) (by assumption) ?_
              rotate_left
              · (intro w hSw; (try dsimp only at hSw); go_simp; try with_reducible rfl)
              try simp only [Act.put, List.setIfInBounds_toArray, List.set_cons_zero, List.set_cons_succ]
              refine wpAnyH_take (i := 9) (oi := { dst := some 72, op := Op.binOp BinOp.gtr 3 (Operand.tmp 67) (Operand.tmp 71) 3, type := 4, pos := "pool.go:52", after := #[{ on := 4, ground := Ground.data }, { on := 8, ground := Ground.data }], guard := none }) (v := ?_) rfl (by kernel_rfl) (by kernel_rfl) (by kernel_rfl) (fun _ _ _ h => h) (Or.inl ⟨by rfl, ?_⟩) (by assumption) ?_
              rotate_left
              · (intro w hSw; (try dsimp only at hSw); go_simp; try with_reducible rfl)
              try simp only [Act.put, List.setIfInBounds_toArray, List.set_cons_zero, List.set_cons_succ]
              refine wpAnyH_done (by kernel_rfl) ?_ _
              refine NoPanic.normal ?_
              clear hHeld
              have hc26' : W6.drew.cell? ⟨f.fb, 2, none⟩ = some (.slice A5 n5 c5) := hc26
              have Hp7 := Lib.hid (Hp6.out.below (Below.refl _ _).drew)
              have HC7 := Lib.hid HC6.out.drew
              generalize W6.drew = W7 at Hp7 HC7 hc26' ⊢
              clear hc26 hk6 d10
              have hd0 := (Hp7.out.frs _ (List.mem_cons_self ..)).c0
              have hdc := (Hp7.out.frs _ (List.mem_cons_self ..)).data
              dsimp only at hd0 hdc
              have Hdc := Lib.hid hdc
              clear hdc
              go_wp2_with fail
              refine (Try.clone1 Hdc.out rfl).mono ?_
              rintro e9 W9 ⟨v9, rfl, hr9, hb9⟩
              have Hr9 := Lib.hid hr9
              have Hp9 := Lib.hid (Hp7.out.below hb9)
              have HC9 : Hid (Chg w5 W9 (Own pb mb (f :: T))) := Lib.hid (HC7.out.trans (Chg.below hb9 _))
              have hsz9 := HC7.out.size
              clear hr9 hb9 hd0
              go_wp2_with fail
              go_ret3
              have hB := (Below.refl w5.heap.size w5)
              refine .inr ⟨f, T, w5, HCame.out, ⟨{ f with pins := f.pins + 1, tv := .slice A5 n5 c5, ts := f.ts ++ [NN] }, v9, rfl, rfl, rfl, ?_, by rw [← HNN.out]; exact Hp9.out, own_mono Hr9.out (by have := hB.size; omega), ?_, (Chg.below hB _).trans HC9.out⟩⟩
              · show _ = pushT k f.ts (now + 1)
                unfold pushT
                rw [← HNN.out, if_neg (by have := HN5.out; simp; omega)]
              · intro q hq
                exact (HV6.out q hq).imp id (fun h => by have := hB.size; have := HC2.out.size; omega)
          exact AllReadyH.nil
        exact AllReadyH.nil
      exact AllReadyH.nil
    refine AllReadyH.cons (o := { dst := some 59, op := Op.buildSlice 50 1 #[(0, Operand.tmp 58)], type := 50, pos := "pool.go:51", after := #[{ on := 8, ground := Ground.data }], guard := none }) rfl (fun K hK => ?_) ?_
    · skip
      go_simp
      have hcg : ((W3.alloc (.cells #[.int .i64 (NN : Int)] 3)).drew).cell? ⟨W3.heap.size, 0, none⟩ = some (.int .i64 (NN : Int)) := cell_of_row _ _ 0 _ 3 (0, 0) (heap_alloc_new _ _)
      have hCA : Chg W3 ((W3.alloc (.cells #[.int .i64 (NN : Int)] 3)).drew) (· ∈ vblk f.tv) := (Chg.alloc W3 _ _).drew
      have hsA : ((W3.alloc (.cells #[.int .i64 (NN : Int)] 3)).drew).heap.size = W3.heap.size + 1 := by simp
      have hct4 := (World.cell?_of_block (w := W3) (a := ⟨f.fb, 2, none⟩) (hCA.block f.fb hfl Hnv.out)).trans hct
      have hcn4 : ((W3.alloc (.cells #[.int .i64 (NN : Int)] 3)).drew).cell? ⟨pb, 2, none⟩ = some (.int .i64 (NN : Int)) := (World.cell?_of_block (w := W3) (a := ⟨pb, 2, none⟩) (Below.heap_alloc W3 (.cells #[.int .i64 (NN : Int)] 3) pb (block_lt_of_cell hcn))).trans hcn
      have Hro4 : Hid (((W3.alloc (.cells #[.int .i64 (NN : Int)] 3)).drew).ownsRow 0 3 1 f.tv f.ts.length (f.ts.map i64v)) := Lib.hid (own_stay Htm.out fun b hb => Below.heap_alloc W3 _ b (HpP.out.frs _ (List.mem_cons_self ..) |>.lt b (by simp [Fr.blks, hb])))
      have HCA := Lib.hid hCA
      have HsA := Lib.hid hsA
      obtain ⟨gg, hgg⟩ : ∃ gg, W3.heap.size = gg := ⟨_, rfl⟩
      rw [hgg] at hcg
      rw [hgg]
      clear hgg hCA hsA
      generalize (W3.alloc (.cells #[.int .i64 (NN : Int)] 3)).drew = W4 at hcg hct4 hcn4 Hro4 HCA HsA ⊢
      refine hK.out _ _ ?_ (fun hHeld => ?_)
      · exact hcn4
      clear hK K
      try simp only [Act.put, List.setIfInBounds_toArray, List.set_cons_zero, List.set_cons_succ]
      refine wpAnyH_ready (rs := [4]) (by kernel_rfl) (by simp) ?_
      refine AllReadyH.cons (o := { dst := some 54, op := Op.load 50 (Operand.tmp 53), type := 50, pos := "pool.go:51", after := #[{ on := 3, ground := Ground.data }], guard := none }) rfl (fun K hK => ?_) ?_
      · skip
        go_simp
        refine hK.out _ _ ?_ (fun hHeld => ?_)
        · exact hcn4
        clear hK K
        try simp only [Act.put, List.setIfInBounds_toArray, List.set_cons_zero, List.set_cons_succ]
        refine wpAnyH_ready (rs := [10]) (by kernel_rfl) (by simp) ?_
        refine AllReadyH.cons (o := { dst := some 60, op := Op.call { callee := Callee.builtin Builtin.append, args := #[Operand.tmp 54, Operand.tmp 59], argTypes := #[50, 50] }, type := 50, pos := "pool.go:51", after := #[{ on := 4, ground := Ground.data }, { on := 9, ground := Ground.data }], guard := none }) rfl (fun K hK => ?_) ?_
        · skip
          refine oper_tapp _ _ rfl rfl Hro4.out Htl8.out gg NN rfl hcg ?_
          rintro v5 W5 hr5 hc5 hv5 ⟨A5, n5, c5, rfl⟩
          have Hr5 := Lib.hid hr5
          have Hc5 : Hid (Chg W3 W5 (· ∈ vblk f.tv)) := Lib.hid (HCA.out.trans hc5)
          have Hv5 : Hid (∀ b ∈ vblk (.slice A5 n5 c5), b ∈ vblk f.tv ∨ W3.heap.size ≤ b) := Lib.hid (fun b hb => (hv5 b hb).imp id (fun h => by have := HsA.out; omega))
          have hh5 : W5.heap[f.fb]? = W3.heap[f.fb]? := Hc5.out.block f.fb hfl Hnv.out
          have hc5x : W5.cell? ⟨f.fb, 2, none⟩ = some f.tv := (World.cell?_of_block (w := W3) (a := ⟨f.fb, 2, none⟩) hh5).trans hct
          have hf5 : W5.frozen? ⟨f.fb, 2, none⟩ = false := frozen_of_row _ f.fb 2 _ 76 (hh5.trans Hhe.out)
          have hcn5 : W5.cell? ⟨pb, 2, none⟩ = some (.int .i64 (NN : Int)) := (World.cell?_of_block (w := W3) (a := ⟨pb, 2, none⟩) (Hc5.out.block pb (block_lt_of_cell hcn) Hpv.out)).trans hcn
          clear hr5 hc5 hv5 hcg hct4 hh5 hcn4
          refine hK.out _ _ ?_ (fun hHeld => ?_)
          · exact hcn5
          clear hK K
          try simp only [Act.put, List.setIfInBounds_toArray, List.set_cons_zero, List.set_cons_succ]
          refine wpAnyH_take (i := 11) (oi := { dst := some 61, op := Op.nilCheck (Operand.tmp 50), type := 0, pos := "pool.go:51", after := #[{ on := 0, ground := Ground.data }, { on := 0, ground := Ground.phase }, { on := 1, ground := Ground.phase }, { on := 2, ground := Ground.phase }, { on := 3, ground := Ground.phase }, { on := 4, ground := Ground.phase }, { on := 5, ground := Ground.phase }, { on := 6, ground := Ground.phase }, { on := 7, ground := Ground.phase }, { on := 8, ground := Ground.phase }, { on := 9, ground := Ground.phase }, { on := 10, ground := Ground.phase }], guard := none }) (v := ?_) rfl (by kernel_rfl) (by kernel_rfl) (by kernel_rfl) (fun _ _ _ h => h) (Or.inl ⟨by rfl, ?_⟩) (by assumption) ?_
          rotate_left
          · (intro w hSw; (try dsimp only at hSw); go_simp; try with_reducible rfl)
          try simp only [Act.put, List.setIfInBounds_toArray, List.set_cons_zero, List.set_cons_succ]
          refine wpAnyH_take (i := 12) (oi := { dst := some 62, op := Op.fieldAddr 76 (Operand.tmp 61) 2, type := 0, pos := "pool.go:51", after := #[{ on := 11, ground := Ground.data }, { on := 0, ground := Ground.phase }, { on := 1, ground := Ground.phase }, { on := 2, ground := Ground.phase }, { on := 3, ground := Ground.phase }, { on := 4, ground := Ground.phase }, { on := 5, ground := Ground.phase }, { on := 6, ground := Ground.phase }, { on := 7, ground := Ground.phase }, { on := 8, ground := Ground.phase }, { on := 9, ground := Ground.phase }, { on := 10, ground := Ground.phase }], guard := none }) (v := ?_) rfl (by kernel_rfl) (by kernel_rfl) (by kernel_rfl) (fun _ _ _ h => h) (Or.inl ⟨by rfl, ?_⟩) (by assumption) ?_
          rotate_left
          · (intro w hSw; (try dsimp only at hSw); go_simp; try with_reducible rfl)
          try simp only [Act.put, List.setIfInBounds_toArray, List.set_cons_zero, List.set_cons_succ]
          refine wpAnyH_ready (rs := [13]) (by kernel_rfl) (by simp) ?_
          refine AllReadyH.cons (o := { dst := none, op := Op.store 50 (Operand.tmp 62) (Operand.tmp 60), type := 0, pos := "pool.go:51", after := #[{ on := 12, ground := Ground.data }, { on := 10, ground := Ground.data }, { on := 10, ground := Ground.chain }, { on := 0, ground := Ground.phase }, { on := 1, ground := Ground.phase }, { on := 2, ground := Ground.phase }, { on := 3, ground := Ground.phase }, { on := 4, ground := Ground.phase }, { on := 5, ground := Ground.phase }, { on := 6, ground := Ground.phase }, { on := 7, ground := Ground.phase }, { on := 8, ground := Ground.phase }, { on := 9, ground := Ground.phase }, { on := 10, ground := Ground.phase }], guard := none }) rfl (fun K hK => ?_) ?_
          · skip
            go_simp
            have hcn6 : (W5.setCell ⟨f.fb, 2, none⟩ (.slice A5 n5 c5)).cell? ⟨pb, 2, none⟩ = some (.int .i64 (NN : Int)) := (World.cell?_of_block (w := W5) (a := ⟨pb, 2, none⟩) (Below.heap_setCell W5 _ _ pb hpf)).trans hcn5
            refine hK.out _ _ ?_ (fun hHeld => ?_)
            · exact hcn6
            clear hK K
            try simp only [Act.put, List.setIfInBounds_toArray, List.set_cons_zero, List.set_cons_succ]
            refine wpAnyH_done (by kernel_rfl) ?_ _
            refine NoPanic.normal ?_
            have hp6 := HpP.out.timSet Hc5.out Hr5.out Hv5.out (by simp; have := Htl8.out; omega) (by
              intro t ht
              rcases List.mem_append.1 ht with h | h
              · exact Htlt.out t h
              · simp at h
                subst h
                have := HNN.out
                have := Hnow.out
                omega)
            have Hp6 := Lib.hid hp6.1
            have HC6 := Lib.hid (HC2.out.trans (hp6.2.mono fun b hb => own_same (f := f) (f' := { f with pins := f.pins + 1 }) rfl hb))
            dsimp only at HC6
            have HV6 : Hid (∀ q ∈ Fr.blks { f with pins := f.pins + 1, tv := .slice A5 n5 c5, ts := f.ts ++ [NN] }, q ∈ f.blks ∨ W3.heap.size ≤ q) := Lib.hid (fun q hq => by
              simp only [Fr.blks, List.mem_cons] at hq ⊢
              rcases hq with rfl | rfl | hq
              · exact .inl (.inl rfl)
              · exact .inl (.inr (.inl rfl))
              · rcases Hv5.out q hq with h | h
                · exact .inl (.inr (.inr h))
                · exact .inr h)
            have HN5 : Hid (n5 = f.ts.length + 1) := Lib.hid (by
              rcases Hr5.out.2 with ⟨_, h⟩ | ⟨_, _, _, h, _⟩
              · simp at h
              · injection h with _ h _
                rw [h]; simp)
            clear hp6 hHeld
            dsimp only at Hp6
            generalize W5.setCell ⟨f.fb, 2, none⟩ (.slice A5 n5 c5) = W6 at Hp6 HC6 ⊢
            have hI6 := Hp6.out.frs _ (List.mem_cons_self ..)
            have hc26 := hI6.c2
            have hk6 := Hp6.out.c1
            dsimp only at hc26
            clear hI6
            go_upto_region 10 with fail
            by_cases hlen : k < n5
            · have d10 : decide ((n5 : Int) > (k : Int)) = true := decide_eq_true (by omega)
              refine wp_region_noPanic ?_
              refine wp_region_held_drew (S := (fun W => W.cell? ⟨f.fb, 2, none⟩ = some (.slice A5 n5 c5) ∧ W.cell? ⟨pb, 1, none⟩ = some (.int .i64 (k : Int)))) (by kernel_rfl) ?_ (fun hHeld => ?_)
              · exact ⟨hc26, hk6⟩
              refine wpAnyH_take (i := 0) (oi := { dst := some 63, op := Op.move (Operand.tmp 9), type := 71, pos := "pool.go:52", after := #[], guard := none }) (v := ?_) rfl (by kernel_rfl) (by kernel_rfl) (by kernel_rfl) (fun _ _ _ h => h) (Or.inl ⟨by rfl, ?_⟩) (by assumption) ?_
              rotate_left
              · (intro w hSw; (try dsimp only at hSw); go_simp; try with_reducible rfl)
              try simp only [Act.put, List.setIfInBounds_toArray, List.set_cons_zero, List.set_cons_succ]
              refine wpAnyH_take (i := 1) (oi := { dst := some 64, op := Op.nilCheck (Operand.tmp 63), type := 0, pos := "pool.go:52", after := #[{ on := 0, ground := Ground.data }], guard := none }) (v := ?_) rfl (by kernel_rfl) (by kernel_rfl) (by kernel_rfl) (fun _ _ _ h => h) (Or.inl ⟨by rfl, ?_⟩) (by assumption) ?_
              rotate_left
              · (intro w hSw; (try dsimp only at hSw); go_simp; try with_reducible rfl)
              try simp only [Act.put, List.setIfInBounds_toArray, List.set_cons_zero, List.set_cons_succ]
              refine wpAnyH_take (i := 2) (oi := { dst := some 65, op := Op.fieldAddr 76 (Operand.tmp 64) 2, type := 0, pos := "pool.go:52", after := #[{ on := 1, ground := Ground.data }], guard := none }) (v := ?_) rfl (by kernel_rfl) (by kernel_rfl) (by kernel_rfl) (fun _ _ _ h => h) (Or.inl ⟨by rfl, ?_⟩) (by assumption) ?_
              rotate_left
              · (intro w hSw; (try dsimp only at hSw); go_simp; try with_reducible rfl)
              try simp only [Act.put, List.setIfInBounds_toArray, List.set_cons_zero, List.set_cons_succ]
              refine wpAnyH_take (i := 3) (oi := { dst := some 66, op := Op.load 50 (Operand.tmp 65), type := 50, pos := "pool.go:52", after := #[{ on := 2, ground := Ground.data }], guard := none }) (v := ?_) rfl (by kernel_rfl) (by kernel_rfl) (by kernel_rfl) (fun _ _ _ h => h) (Or.inl ⟨by rfl, ?_⟩) (by assumption) ?_
              rotate_left
              · (intro w hSw; (try dsimp only at hSw); go_simp; try with_reducible rfl)
              try simp only [Act.put, List.setIfInBounds_toArray, List.set_cons_zero, List.set_cons_succ]
              refine wpAnyH_take (i := 4) (oi := { dst := some 67, op := Op.call { callee := Callee.builtin Builtin.len, args := #[Operand.tmp 66], argTypes := #[50] }, type := 3, pos := "pool.go:52", after := #[{ on := 3, ground := Ground.data }], guard := none }) (v := ?_) rfl (by kernel_rfl) (by kernel_rfl) (by kernel_rfl) (fun _ _ _ h => h) (Or.inl ⟨by rfl, ?_⟩) (by assumption) ?_
              rotate_left
              · (intro w hSw; (try dsimp only at hSw); go_simp; try with_reducible rfl)
              try simp only [Act.put, List.setIfInBounds_toArray, List.set_cons_zero, List.set_cons_succ]
              refine wpAnyH_take (i := 5) (oi := { dst := some 68, op := Op.move (Operand.tmp 0), type := 24, pos := "pool.go:52", after := #[], guard := none }) (v := ?_) rfl (by kernel_rfl) (by kernel_rfl) (by kernel_rfl) (fun _ _ _ h => h) (Or.inl ⟨by rfl, ?_⟩) (by assumption) ?_
              rotate_left
              · (intro w hSw; (try dsimp only at hSw); go_simp; try with_reducible rfl)
              try simp only [Act.put, List.setIfInBounds_toArray, List.set_cons_zero, List.set_cons_succ]
              refine wpAnyH_take (i := 6) (oi := { dst := some 69, op := Op.nilCheck (Operand.tmp 68), type := 0, pos := "pool.go:52", after := #[{ on := 5, ground := Ground.data }], guard := none }) (v := ?_) rfl (by kernel_rfl) (by kernel_rfl) (by kernel_rfl) (fun _ _ _ h => h) (Or.inl ⟨by rfl, ?_⟩) (by assumption) ?_
              rotate_left
              · (intro w hSw; (try dsimp only at hSw); go_simp; try with_reducible rfl)
              try simp only [Act.put, List.setIfInBounds_toArray, List.set_cons_zero, List.set_cons_succ]
              refine wpAnyH_take (i := 7) (oi := { dst := some 70, op := Op.fieldAddr 61 (Operand.tmp 69) 1, type := 0, pos := "pool.go:52", after := #[{ on := 6, ground := Ground.data }], guard := none }) (v := ?_) rfl (by kernel_rfl) (by kernel_rfl) (by kernel_rfl) (fun _ _ _ h => h) (Or.inl ⟨by rfl, ?_⟩) (by assumption) ?_
              rotate_left
              · (intro w hSw; (try dsimp only at hSw); go_simp; try with_reducible rfl)
              try simp only [Act.put, List.setIfInBounds_toArray, List.set_cons_zero, List.set_cons_succ]
              refine wpAnyH_take (i := 8) (oi := { dst := some 71, op := Op.load 3 (Operand.tmp 70), type := 3, pos := "pool.go:52", after := #[{ on := 7, ground := Ground.data }], guard := none }) (v := ?_) rfl (by kernel_rfl) (by kernel_rfl) (by kernel_rfl) (fun _ _ _ h => h) (Or.inl ⟨by rfl, ?_⟩) (by assumption) ?_
              rotate_left
              · (intro w hSw; (try dsimp only at hSw); go_simp; try with_reducible rfl)
              try simp only [Act.put, List.setIfInBounds_toArray, List.set_cons_zero, List.set_cons_succ]
              refine wpAnyH_take (i := 9) (oi := { dst := some 72, op := Op.binOp BinOp.gtr 3 (Operand.tmp 67) (Operand.tmp 71) 3, type := 4, pos := "pool.go:52", after := #[{ on := 4, ground := Ground.data }, { on := 8, ground := Ground.data }], guard := none }) (v := ?_) rfl (by kernel_rfl) (by kernel_rfl) (by kernel_rfl) (fun _ _ _ h => h) (Or.inl ⟨by rfl, ?_⟩) (by assumption) ?_
              rotate_left
              · (intro w hSw; (try dsimp only at hSw); go_simp; try with_reducible rfl)
              try simp only [Act.put, List.setIfInBounds_toArray, List.set_cons_zero, List.set_cons_succ]
              refine wpAnyH_done (by kernel_rfl) ?_ _
              refine NoPanic.normal ?_
              clear hHeld
              have hc26' : W6.drew.cell? ⟨f.fb, 2, none⟩ = some (.slice A5 n5 c5) := hc26
              have Hp7 := Lib.hid (Hp6.out.below (Below.refl _ _).drew)
              have HC7 := Lib.hid HC6.out.drew
              generalize W6.drew = W7 at Hp7 HC7 hc26' ⊢
              clear hc26 hk6 d10
              have Htm7 := Lib.hid (Hp7.out.frs _ (List.mem_cons_self ..)).tims
              dsimp only at Htm7
              go_wp2_with fail
              refine (Try.del1 Htm7.out (by simp)).mono ?_
              rintro e8 W8 ⟨v8, rfl, hr8, hv8, hc8, A8, n8, c8, rfl⟩
              have hI7 := Hp7.out.frs _ (List.mem_cons_self ..)
              have hh8 := hc8.block f.fb (hI7.lt f.fb (by simp [Fr.blks])) hI7.n2
              have hc28 := (World.cell?_of_block (w := W7) (a := ⟨f.fb, 2, none⟩) hh8).trans hc26'
              have hf8 : W8.frozen? ⟨f.fb, 2, none⟩ = false := frozen_of_row _ f.fb 2 _ 76 (hh8.trans hI7.here)
              obtain ⟨hp8, hcc8⟩ := Hp7.out.timSet hc8 hr8 (fun b hb => .inl (by rw [hv8] at hb; exact hb)) (by simp; have := Htl8.out; omega) (tail_lt hI7.tl)
              have Hp8 := Lib.hid hp8
              have HC8 := Lib.hid (HC7.out.trans' hcc8 (fun b hb h => by
                rcases h with h | h | ⟨g, hg, hq⟩
                · exact .inl h
                · exact .inr (.inl h)
                · rcases List.mem_cons.1 hg with rfl | hg
                  · rcases HV6.out b hq with h | h
                    · exact .inr (.inr ⟨f, by simp, h⟩)
                    · have := HC2.out.size
                      omega
                  · exact .inr (.inr ⟨g, by simp [hg], hq⟩)))
              have HV8 : Hid (∀ q ∈ Fr.blks { f with pins := f.pins + 1, tv := .slice A8 n8 c8, ts := (f.ts ++ [NN]).tail }, q ∈ f.blks ∨ W3.heap.size ≤ q) := Lib.hid (fun q hq => by
                refine HV6.out q ?_
                simp only [Fr.blks, List.mem_cons] at hq ⊢
                rw [hv8] at hq
                exact hq)
              clear hp8 hcc8 hr8 hv8 hc8 hI7 hc26' hh8
              dsimp only at Hp8
              go_upto_region 12 with fail
              generalize W8.setCell ⟨f.fb, 2, none⟩ (.slice A8 n8 c8) = WA at Hp8 HC8 ⊢
              clear hc28 hf8
              have hd0 := (Hp8.out.frs _ (List.mem_cons_self ..)).c0
              have hdc := (Hp8.out.frs _ (List.mem_cons_self ..)).data
              dsimp only at hd0 hdc
              have Hdc := Lib.hid hdc
              clear hdc
              go_wp2_with fail
              refine (Try.clone1 Hdc.out rfl).mono ?_
              rintro e9 W9 ⟨v9, rfl, hr9, hb9⟩
              have Hr9 := Lib.hid hr9
              have Hp9 := Lib.hid (Hp8.out.below hb9)
              have HC9 : Hid (Chg w5 W9 (Own pb mb (f :: T))) := Lib.hid (HC8.out.trans (Chg.below hb9 _))
              have hsz9 := HC8.out.size
              clear hr9 hb9 hd0
              go_wp2_with fail
              go_ret3
              have hB := (Below.refl w5.heap.size w5)
              refine .inr ⟨f, T, w5, HCame.out, ⟨{ f with pins := f.pins + 1, tv := .slice A8 n8 c8, ts := (f.ts ++ [NN]).tail }, v9, rfl, rfl, rfl, ?_, by rw [← HNN.out]; exact Hp9.out, own_mono Hr9.out (by have := hB.size; omega), ?_, (Chg.below hB _).trans HC9.out⟩⟩
              · show _ = pushT k f.ts (now + 1)
                unfold pushT
                rw [← HNN.out, if_pos (by have := HN5.out; simp; omega)]
              · intro q hq
                exact (HV8.out q hq).imp id (fun h => by have := hB.size; have := HC2.out.size; omega)
            · have d10 : decide ((n5 : Int) > (k : Int)) = false := decide_eq_false (by omega)
              refine wp_region_noPanic ?_
              refine wp_region_held_drew (S := (fun W => W.cell? ⟨f.fb, 2, none⟩ = some (.slice A5 n5 c5) ∧ W.cell? ⟨pb, 1, none⟩ = some (.int .i64 (k : Int)))) (by kernel_rfl) ?_ (fun hHeld => ?_)
              · exact ⟨hc26, hk6⟩
              refine wpAnyH_take (i := 0) (oi := { dst := some 63, op := Op.move (Operand.tmp 9), type := 71, pos := "pool.go:52", after := #[], guard := none }) (v := ?_) rfl (by kernel_rfl) (by kernel_rfl) (by kernel_rfl) (fun _ _ _ h => h) (Or.inl ⟨by rfl, ?_⟩) (by assumption) ?_
              rotate_left
              · (intro w hSw; (try dsimp only at hSw); go_simp; try with_reducible rfl)
              try simp only [Act.put, List.setIfInBounds_toArray, List.set_cons_zero, List.set_cons_succ]
              refine wpAnyH_take (i := 1) (oi := { dst := some 64, op := Op.nilCheck (Operand.tmp 63), type := 0, pos := "pool.go:52", after := #[{ on := 0, ground := Ground.data }], guard := none }) (v := ?_) rfl (by kernel_rfl) (by kernel_rfl) (by kernel_rfl) (fun _ _ _ h => h) (Or.inl ⟨by rfl, ?_⟩) (by assumption) ?_
              rotate_left
              · (intro w hSw; (try dsimp only at hSw); go_simp; try with_reducible rfl)
              try simp only [Act.put, List.setIfInBounds_toArray, List.set_cons_zero, List.set_cons_succ]
              refine wpAnyH_take (i := 2) (oi := { dst := some 65, op := Op.fieldAddr 76 (Operand.tmp 64) 2, type := 0, pos := "pool.go:52", after := #[{ on := 1, ground := Ground.data }], guard := none }) (v := ?_) rfl (by kernel_rfl) (by kernel_rfl) (by kernel_rfl) (fun _ _ _ h => h) (Or.inl ⟨by rfl, ?_⟩) (by assumption) ?_
              rotate_left
              · (intro w hSw; (try dsimp only at hSw); go_simp; try with_reducible rfl)
              try simp only [Act.put, List.setIfInBounds_toArray, List.set_cons_zero, List.set_cons_succ]
              refine wpAnyH_take (i := 3) (oi := { dst := some 66, op := Op.load 50 (Operand.tmp 65), type := 50, pos := "pool.go:52", after := #[{ on := 2, ground := Ground.data }], guard := none }) (v := ?_) rfl (by kernel_rfl) (by kernel_rfl) (by kernel_rfl) (fun _ _ _ h => h) (Or.inl ⟨by rfl, ?_⟩) (by assumption) ?_
              rotate_left
              · (intro w hSw; (try dsimp only at hSw); go_simp; try with_reducible rfl)
              try simp only [Act.put, List.setIfInBounds_toArray, List.set_cons_zero, List.set_cons_succ]
              refine wpAnyH_take (i := 4) (oi := { dst := some 67, op := Op.call { callee := Callee.builtin Builtin.len, args := #[Operand.tmp 66], argTypes := #[50] }, type := 3, pos := "pool.go:52", after := #[{ on := 3, ground := Ground.data }], guard := none }) (v := ?_) rfl (by kernel_rfl) (by kernel_rfl) (by kernel_rfl) (fun _ _ _ h => h) (Or.inl ⟨by rfl, ?_⟩) (by assumption) ?_
              rotate_left
              · (intro w hSw; (try dsimp only at hSw); go_simp; try with_reducible rfl)
              try simp only [Act.put, List.setIfInBounds_toArray, List.set_cons_zero, List.set_cons_succ]
              refine wpAnyH_take (i := 5) (oi := { dst := some 68, op := Op.move (Operand.tmp 0), type := 24, pos := "pool.go:52", after := #[], guard := none }) (v := ?_) rfl (by kernel_rfl) (by kernel_rfl) (by kernel_rfl) (fun _ _ _ h => h) (Or.inl ⟨by rfl, ?_⟩) (by assumption) ?_
              rotate_left
              · (intro w hSw; (try dsimp only at hSw); go_simp; try with_reducible rfl)
              try simp only [Act.put, List.setIfInBounds_toArray, List.set_cons_zero, List.set_cons_succ]
              refine wpAnyH_take (i := 6) (oi := { dst := some 69, op := Op.nilCheck (Operand.tmp 68), type := 0, pos := "pool.go:52", after := #[{ on := 5, ground := Ground.data }], guard := none }) (v := ?_) rfl (by kernel_rfl) (by kernel_rfl) (by kernel_rfl) (fun _ _ _ h => h) (Or.inl ⟨by rfl, ?_⟩) (by assumption) ?_
              rotate_left
              · (intro w hSw; (try dsimp only at hSw); go_simp; try with_reducible rfl)
              try simp only [Act.put, List.setIfInBounds_toArray, List.set_cons_zero, List.set_cons_succ]
              refine wpAnyH_take (i := 7) (oi := { dst := some 70, op := Op.fieldAddr 61 (Operand.tmp 69) 1, type := 0, pos := "pool.go:52", after := #[{ on := 6, ground := Ground.data }], guard := none }) (v := ?_) rfl (by kernel_rfl) (by kernel_rfl) (by kernel_rfl) (fun _ _ _ h => h) (Or.inl ⟨by rfl, ?_⟩) (by assumption) ?_
              rotate_left
              · (intro w hSw; (try dsimp only at hSw); go_simp; try with_reducible rfl)
              try simp only [Act.put, List.setIfInBounds_toArray, List.set_cons_zero, List.set_cons_succ]
              refine wpAnyH_take (i := 8) (oi := { dst := some 71, op := Op.load 3 (Operand.tmp 70), type := 3, pos := "pool.go:52", after := #[{ on := 7, ground := Ground.data }], guard := none }) (v := ?_) rfl (by kernel_rfl) (by kernel_rfl) (by kernel_rfl) (fun _ _ _ h => h) (Or.inl ⟨by rfl, ?_⟩) (by assumption) ?_
              rotate_left
              · (intro w hSw; (try dsimp only at hSw); go_simp; try with_reducible rfl)
              try simp only [Act.put, List.setIfInBounds_toArray, List.set_cons_zero, List.set_cons_succ]
              refine wpAnyH_take (i := 9) (oi := { dst := some 72, op := Op.binOp BinOp.gtr 3 (Operand.tmp 67) (Operand.tmp 71) 3, type := 4, pos := "pool.go:52", after := #[{ on := 4, ground := Ground.data }, { on := 8, ground := Ground.data }], guard := none }) (v := ?_) rfl (by kernel_rfl) (by kernel_rfl) (by kernel_rfl) (fun _ _ _ h => h) (Or.inl ⟨by rfl, ?_⟩) (by assumption) ?_
              rotate_left
              · (intro w hSw; (try dsimp only at hSw); go_simp; try with_reducible rfl)
              try simp only [Act.put, List.setIfInBounds_toArray, List.set_cons_zero, List.set_cons_succ]
              refine wpAnyH_done (by kernel_rfl) ?_ _
              refine NoPanic.normal ?_
              clear hHeld
              have hc26' : W6.drew.cell? ⟨f.fb, 2, none⟩ = some (.slice A5 n5 c5) := hc26
              have Hp7 := Lib.hid (Hp6.out.below (Below.refl _ _).drew)
              have HC7 := Lib.hid HC6.out.drew
              generalize W6.drew = W7 at Hp7 HC7 hc26' ⊢
              clear hc26 hk6 d10
              have hd0 := (Hp7.out.frs _ (List.mem_cons_self ..)).c0
              have hdc := (Hp7.out.frs _ (List.mem_cons_self ..)).data
              dsimp only at hd0 hdc
              have Hdc := Lib.hid hdc
              clear hdc
              go_wp2_with fail
              refine (Try.clone1 Hdc.out rfl).mono ?_
              rintro e9 W9 ⟨v9, rfl, hr9, hb9⟩
              have Hr9 := Lib.hid hr9
              have Hp9 := Lib.hid (Hp7.out.below hb9)
              have HC9 : Hid (Chg w5 W9 (Own pb mb (f :: T))) := Lib.hid (HC7.out.trans (Chg.below hb9 _))
              have hsz9 := HC7.out.size
              clear hr9 hb9 hd0
              go_wp2_with fail
              go_ret3
              have hB := (Below.refl w5.heap.size w5)
              refine .inr ⟨f, T, w5, HCame.out, ⟨{ f with pins := f.pins + 1, tv := .slice A5 n5 c5, ts := f.ts ++ [NN] }, v9, rfl, rfl, rfl, ?_, by rw [← HNN.out]; exact Hp9.out, own_mono Hr9.out (by have := hB.size; omega), ?_, (Chg.below hB _).trans HC9.out⟩⟩
              · show _ = pushT k f.ts (now + 1)
                unfold pushT
                rw [← HNN.out, if_neg (by have := HN5.out; simp; omega)]
              · intro q hq
                exact (HV6.out q hq).imp id (fun h => by have := hB.size; have := HC2.out.size; omega)
          exact AllReadyH.nil
        exact AllReadyH.nil
      exact AllReadyH.nil
    exact AllReadyH.nil
end Go.Proofs.Ytjilpkmcddinaaa
end

section
set_option maxRecDepth 100000
namespace Go.Proofs.Ytjilpkmcddinaaa
open Go.RowKit Go.Maps
theorem knownC (w : World) : Calls Try.prog 7 #[] w fun e w' => e = .returned (.bool true) ∧ Below w.heap.size w w' := (Go.FM.law_fast wide ext0_ok known (vs := []) Go.FM.args_nil w).2
def cntTo (S : List Fr) (m : Nat) : Nat := ((List.range m).filter fun j => decide (0 < pinsOf S j)).length
end Go.Proofs.Ytjilpkmcddinaaa
end
