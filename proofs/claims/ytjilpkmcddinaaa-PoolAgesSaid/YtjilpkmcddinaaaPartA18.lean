/-
  Texts of a proof over the translated program: proved evaluators and walks, part 18 of 20.
-/
import Derived.Test.YtjilpkmcddinaaaPartA17
import Derived.ArgAppend
import Derived.Below
import Derived.Carry
import Derived.Deep.RegionHeld3
import Derived.Deep.RegionWith
import Derived.Great.BuildSlice
import Derived.Ground.GgzProg
import Derived.Ground.SlgmProg
import Derived.Handy
import Derived.IntWalk
import Derived.Laws.BitsLemmas
import Derived.Laws.CopyOwn
import Derived.Laws.CopyRow
import Derived.Laws.IdiomStrings
import Derived.Laws.MakeOwn
import Derived.Laws.Rows
import Derived.Lib.Hide
import Derived.Lib.OwnBridge
import Derived.Lib.SlKeysI
import Derived.LoopTactic
import Derived.MapKept
import Derived.Maps.Ext
import Derived.Maps.Own
import Derived.Maps.OwnSet
import Derived.Maps.RangeWalk
import Derived.Maps.Views
import Derived.Orders
import Derived.OwnWalk
import Derived.Scope
import Derived.ScopeJumps
import Derived.Shelf.SlIterI.Nil
import Derived.Shelf.SlIterI.Sorted
import Derived.Shelf.Slices.Delete
import Derived.Shelf.SortM.Plain
import Derived.Shelf.SortM.SortNone
import Derived.Test.YtjilpkmcddinaaaProg
import Derived.WalkKit
import Derived.WalkMore
import Derived.WalkSpells
set_option linter.unusedVariables false
set_option linter.unusedSimpArgs false
set_option linter.unusedSectionVars false
set_option linter.unnecessarySimpa false
section
set_option maxRecDepth 100000
namespace Go.Proofs.Ytjilpkmcddinaaa
open Go.RowKit Go.Maps Go.Shelf Go.Sort Go.Lib
def del_ren : Shelf.Ren where
  f := fun x => match x with
    | 23 => 30
    | n => n
  t := fun x => match x with
    | 22 => 50
    | 3 => 3
    | 4 => 4
    | 0 => 0
    | n => n
  g := fun n => n
theorem Try.del : Lays2.n23 Try.prog del_ren where
  mixed := by kernel_rfl
  f23 := Eq.trans Try.func30 (by kernel_rfl)
  t0 := Try.underlying0
  a0 := Try.isAgg0
  z0 := Try.sizeOf0
  v0 := Try.zeroValue0
  t3 := Try.underlying3
  a3 := Try.isAgg3
  z3 := Try.sizeOf3
  v3 := Try.zeroValue3
  t4 := Try.underlying4
  a4 := Try.isAgg4
  z4 := Try.sizeOf4
  v4 := Try.zeroValue4
  t22 := Try.underlying50
  a22 := Try.isAgg50
  z22 := Try.sizeOf50
  v22 := Try.zeroValue50
  i3 := by kernel_rfl
theorem Try.del1 {w : World} {v : Value} {ts : List Nat} (h : w.ownsRow 0 3 1 v ts.length (ts.map i64v)) (h1 : 1 ≤ ts.length) : Calls Try.prog 30 #[v, .int .i64 0, .int .i64 1] w fun e w' => ∃ v', e = .returned v' ∧ w'.ownsRow 0 3 1 v' ts.tail.length (ts.tail.map i64v) ∧ vblk v' = vblk v ∧ Chg w w' (· ∈ vblk v) ∧ ∃ A n c, v' = .slice A n c := by
  obtain ⟨zs, hzs⟩ : ∃ zs : List Int, zs = ts.map fun t : Nat => (t : Int) := ⟨_, rfl⟩
  have hl : zs.length = ts.length := by rw [hzs, List.length_map]
  have hm : ts.map i64v = zs.map (Value.int .i64) := by rw [hzs, List.map_map]; rfl
  rw [hm] at h
  obtain ⟨g, cap, rfl, _, hlt, hn, hcm, _, hH⟩ := holds_of_ownsRow h (by
    rintro rfl
    rcases h.2 with ⟨_, e⟩ | ⟨_, _, _, e, _⟩
    · omega
    · cases e)
  have hc := Any.slices_Delete_int Try.del g 0 cap 0 1 zs w hH (by omega) (by unfold maxLen at hcm; omega) (by omega) (by omega)
  rw [hl] at hc
  refine hc.mono ?_
  rintro e w' ⟨rfl, q, rfl⟩
  have hlen : (zs.take 0 ++ zs.drop 1 ++ List.replicate (1 - 0) (0 : Int)).length = ts.length := by simp; omega
  have hrow := ownsRow_putRow (q := q) (k := ts.length - 1) h hlen (by omega)
  have htk : (zs.take 0 ++ zs.drop 1 ++ List.replicate (1 - 0) (0 : Int)).take (ts.length - 1) = ts.tail.map fun t : Nat => (t : Int) := by
    rw [List.take_append_of_le_length (by simp; omega), List.take_of_length_le (by simp; omega), hzs]
    simp [List.map_tail]
  rw [htk] at hrow
  refine ⟨_, rfl, ?_, rfl, ⟨rfl, rfl, rfl, by simp [putRow, mapBlock, Sort.ahead], fun b hb hne => ?_⟩, _, _, _, rfl⟩
  · have e1 : ts.tail.length = ts.length - 1 := by simp
    rw [e1]
    rw [List.map_map] at hrow
    exact hrow
  · have hne' : g ≠ b := fun e => hne (by simp [vblk, e])
    simp [putRow, mapBlock, Sort.ahead, Array.getElem?_modify, hne']
theorem Try.info5u : (Try.prog.info? 5).map (fun i => (i.zero, i.size, i.bytes)) = some (some (.int .u8 0), 1, 1) := by kernel_rfl
theorem Try.info3u : (Try.prog.info? 3).map (fun i => (i.zero, i.size, i.bytes)) = some (some (.int .i64 0), 1, 8) := by kernel_rfl
theorem own_mono {w : World} {B B' : Nat} {e : TypeId} {size : Nat} {v : Value} {n : Nat} {xs : List Value} (h : w.ownsRow B e size v n xs) (hb : B' ≤ B) : w.ownsRow B' e size v n xs := by
  refine ⟨h.1, ?_⟩
  rcases h.2 with q | ⟨g, cap, cur, rfl, q, r⟩
  · exact .inl q
  · exact .inr ⟨g, cap, cur, rfl, by omega, r⟩
theorem Try.clone1 {w : World} {b c : Nat} {x : Value} (hx : w.cell? ⟨b, 0, none⟩ = some x) (h1 : x.oneCell' = true) : Calls Try.prog 31 #[.slice (some ⟨b, 0, none⟩) 1 c] w fun e w' => ∃ v', e = .returned v' ∧ w'.ownsRow w.heap.size 5 1 v' 1 [x] ∧ Below w.heap.size w w' := by
  obtain ⟨i5, hi5, hz0, hz1, hz2⟩ := info_parts Try.info5u
  have hnil := Lib.run_eql_slice_nil w 39 5 (some ⟨b, 0, none⟩) 1 c 0 0 Try.underlying39
  have hlt := block_lt_of_cell hx
  go_enter Try.func31, Try.ntmps31
  go_wp2_with (refine wpList_append_grows _ rfl _ _ 39 rfl 5 i5 (.int .u8 0) 1 1 Try.underlying39 hi5 hz0 hz1 hz2 rfl (by decide) _ 0 0 [] rfl (fun h => by cases h) rfl (fun b _ j u h => by simp at h) ⟨b, 0, none⟩ 1 c [x] rfl rfl ?_ ?_ (by omega) (by unfold maxLen; omega) (by omega) ?_)
  · intro j u hu
    have : j = 0 := by
      have := (List.getElem?_eq_some_iff.1 hu).1
      simpa using this
    subst this
    simp at hu
    subst hu
    exact hx
  · intro v' w' hrow hg
    go_wp2_with fail
    go_ret
    refine ⟨_, rfl, own_mono hrow (by omega), ((Below.refl _ w).alloc (Nat.le_refl _) _).grown hg (by simp) (fun k h => by cases h)⟩
end Go.Proofs.Ytjilpkmcddinaaa
end

section
set_option maxRecDepth 100000
namespace Go.Proofs.Ytjilpkmcddinaaa
open Go.RowKit Go.Maps
theorem keyLit (a : Nat) (h : a < 2 ^ 31) : WideAt.IsKeyLit (.int .i64 (a : Int)) := Try.law3.key (key_ok a h)
theorem lit_ne {a b : Nat} (h : a ≠ b) : (Lit.int .i64 (a : Int)) ≠ .int .i64 (b : Int) := by
  intro e
  simp only [Lit.int.injEq, true_and] at e
  omega
theorem KR.put {D : DataW Unit} {S : List Fr} (h : KR D S) (hT : Tidy D) {f : Fr} (hf : f.a < 2 ^ 31) (hS : ∀ g ∈ S, g.a ≠ f.a) : KR (D.put (.int .i64 (f.a : Int)) (.lit (.int .i64 (f.fb : Nat)))) (f :: S) where
  has' := fun a => by
    by_cases e : a = f.a
    · subst e
      rw [has_put_same hT.isMap (keyLit _ hf)]
      simp
    · rw [has_put_other (lit_ne e), h.has' a, List.any_cons]
      have : (f.a == a) = false := by simpa using fun q => e q.symm
      rw [this, Bool.false_or]
  atk := fun g hg z => by
    rcases List.mem_cons.1 hg with rfl | hg
    · exact atKey_put_same hT.isMap (keyLit _ hf) _ _
    · rw [atKey_put_other (lit_ne (hS g hg))]
      exact h.atk g hg z
  size := by
    have hno : has D (.int .i64 (f.a : Int)) = false := by
      rw [h.has' f.a]
      exact List.any_eq_false.2 fun g hg => by simpa using hS g hg
    rw [size_put hT, hno, h.size]
    simp
  keys := fun kl hk => by
    by_cases e : kl = .int .i64 (f.a : Int)
    · exact ⟨f, by simp, e⟩
    · rw [has_put_other e] at hk
      obtain ⟨g, hg, e'⟩ := h.keys kl hk
      exact ⟨g, by simp [hg], e'⟩
theorem KR.del {D : DataW Unit} {f : Fr} {S : List Fr} (h : KR D (f :: S)) (hT : Tidy D) (hf : f.a < 2 ^ 31) (hS : ∀ g ∈ S, g.a ≠ f.a) : KR (D.del (.int .i64 (f.a : Int))) S where
  has' := fun a => by
    by_cases e : a = f.a
    · subst e
      rw [has_del_same]
      exact (List.any_eq_false.2 fun g hg => by simpa using hS g hg).symm
    · rw [has_del_other (lit_ne e), h.has' a, List.any_cons]
      have : (f.a == a) = false := by simpa using fun q => e q.symm
      rw [this, Bool.false_or]
  atk := fun g hg z => by
    rw [atKey_del_other (lit_ne (hS g hg))]
    exact h.atk g (by simp [hg]) z
  size := by
    have hyes : has D (.int .i64 (f.a : Int)) = true := by
      rw [h.has' f.a]
      simp
    have := size_del (k := .int .i64 (f.a : Int)) hT
    rw [hyes, h.size] at this
    simp at this
    omega
  keys := fun kl hk => by
    by_cases e : kl = .int .i64 (f.a : Int)
    · subst e
      rw [has_del_same] at hk
      cases hk
    · rw [has_del_other e] at hk
      obtain ⟨g, hg, e'⟩ := h.keys kl hk
      rcases List.mem_cons.1 hg with rfl | hg
      · exact absurd e' e
      · exact ⟨g, hg, e'⟩
theorem PoolI.len_run {w : World} {pb mb fr k now : Nat} {S : List Fr} (h : PoolI w pb mb fr k now S) (ty : TypeId) : (Builtin.len_ #[59] ty #[.map (some mb)]).run Try.prog w = .ok (.int .i64 (S.length : Int)) w := by
  obtain ⟨D, hD, hK⟩ := h.map
  rw [← hK.size]
  exact hD.len Try.underlying59 ty
theorem PoolI.add {w w' : World} {pb mb fr k now : Nat} {f : Fr} {S : List Fr} (h : PoolI w pb mb fr k now S) (hlt : S.length < fr) (hS : ∀ g ∈ S, g.a ≠ f.a) {D : DataW Unit} (hK : KR D S) (hT : Tidy D)
    (hm : ∃ n, w'.ownsMap Try.prog 3 ptrR mb n (D.put (.int .i64 (f.a : Int)) (.lit (.int .i64 (f.fb : Nat))))) (hb : ∀ q, Own pb mb S q → q ≠ mb → w'.heap[q]? = w.heap[q]?) (hf : FrI w' f) (hfr : ∀ q ∈ f.blks, ¬ Own pb mb S q) : PoolI w' pb mb fr k now (f :: S) where
  here := (hb pb (.inl rfl) h.pm).trans h.here
  map := by
    obtain ⟨n, hm⟩ := hm
    have hK' := hK.put hT (f := f) (by have := hf.hi; omega) hS
    refine ⟨_, ?_, hK'⟩
    have := owns_fit hm
    rw [hK'.size] at this
    exact this
  frs := fun g hg => by
    rcases List.mem_cons.1 hg with rfl | hg
    · exact hf
    · exact (h.frs g hg).stay fun q hq => hb q (.inr (.inr ⟨g, hg, hq⟩)) (fun e => (h.np g hg).2 (e ▸ hq))
  apart := List.pairwise_cons.2 ⟨fun g hg => ⟨fun e => hS g hg e.symm, fun q hq hq' => hfr q hq (.inr (.inr ⟨g, hg, hq'⟩))⟩, h.apart⟩
  np := fun g hg => by
    rcases List.mem_cons.1 hg with rfl | hg
    · exact ⟨fun hq => hfr _ hq (.inl rfl), fun hq => hfr _ hq (.inr (.inl rfl))⟩
    · exact h.np g hg
  pm := h.pm
  k1 := h.k1
  k8 := h.k8
  f1 := h.f1
  f2 := h.f2
  nn := h.nn
  le := hlt
theorem PoolI.del {w w' : World} {pb mb fr k now : Nat} {f : Fr} {S : List Fr} (h : PoolI w pb mb fr k now (f :: S)) {D : DataW Unit} (hK : KR D (f :: S)) (hT : Tidy D)
    (hm : ∃ n, w'.ownsMap Try.prog 3 ptrR mb n (D.del (.int .i64 (f.a : Int)))) (hb : ∀ q, Own pb mb (f :: S) q → q ≠ mb → w'.heap[q]? = w.heap[q]?) : PoolI w' pb mb fr k now S where
  here := (hb pb (.inl rfl) h.pm).trans h.here
  map := by
    obtain ⟨n, hm⟩ := hm
    have h1 := List.pairwise_cons.1 h.apart
    have hK' := hK.del hT (by have := (h.frs f (by simp)).hi; omega) (fun g hg => (h1.1 g hg).1.symm)
    refine ⟨_, ?_, hK'⟩
    have := owns_fit hm
    rw [hK'.size] at this
    exact this
  frs := fun g hg => (h.frs g (by simp [hg])).stay fun q hq => hb q (.inr (.inr ⟨g, by simp [hg], hq⟩)) (fun e => (h.np g (by simp [hg])).2 (e ▸ hq))
  apart := (List.pairwise_cons.1 h.apart).2
  np := fun g hg => h.np g (by simp [hg])
  pm := h.pm
  k1 := h.k1
  k8 := h.k8
  f1 := h.f1
  f2 := h.f2
  nn := h.nn
  le := Nat.le_trans (by simp) h.le
end Go.Proofs.Ytjilpkmcddinaaa
end

section
set_option maxRecDepth 100000
namespace Go.Proofs.Ytjilpkmcddinaaa
open Go.RowKit Go.Maps
structure Dev (Dv : Nat → Nat → World → Prop) : Prop where
  rd : ∀ b1 b2 w a, Dv b1 b2 w → 2 ≤ a → a < 18 → Calls Try.prog 48 #[.pointer (some ⟨b1, 0, none⟩), .int .i64 (a : Nat), .int .i64 1] w fun e w' => RdOk w b1 b2 a e w' ∧ Dv b1 b2 w'
  keep : ∀ b1 b2 w w', Dv b1 b2 w → w'.heap[b1]? = w.heap[b1]? → w'.heap[b2]? = w.heap[b2]? → Dv b1 b2 w'
  lt : ∀ b1 b2 w, Dv b1 b2 w → b1 < w.heap.size ∧ b2 < w.heap.size
theorem Dev.below {Dv : Nat → Nat → World → Prop} (hd : Dev Dv) {b1 b2 : Nat} {w w' : World} (h : Dv b1 b2 w) (hb : Below w.heap.size w w') : Dv b1 b2 w' :=
  hd.keep b1 b2 w w' h (hb.block _ (hd.lt _ _ _ h).1) (hb.block _ (hd.lt _ _ _ h).2)
theorem Dev.chg {Dv : Nat → Nat → World → Prop} (hd : Dev Dv) {b1 b2 : Nat} {w w' : World} {S : Nat → Prop} (h : Dv b1 b2 w) (hb : Chg w w' S) (h1 : ¬ S b1) (h2 : ¬ S b2) : Dv b1 b2 w' :=
  hd.keep b1 b2 w w' h (hb.block _ (hd.lt _ _ _ h).1 h1) (hb.block _ (hd.lt _ _ _ h).2 h2)
def Loaded (Dv : Nat → Nat → World → Prop) (w : World) (pb mb fr k now b1 b2 : Nat) (S T : List Fr) (a : Nat) (e : Ending) (w' : World) : Prop :=
  ∃ f : Fr, e = .returned (.tuple #[.pointer (some ⟨f.fb, 0, none⟩), .int .i64 0]) ∧ f.a = a ∧ f.pins = 0 ∧ f.ts = [] ∧ (∀ q ∈ f.blks, w.heap.size ≤ q) ∧ PoolI w' pb mb fr k now (f :: T) ∧ Dv b1 b2 w' ∧ Chg w w' (fun q => Own pb mb S q ∨ q = b1 ∨ q = b2)
theorem laid {Dv : Nat → Nat → World → Prop} (hd : Dev Dv) {w w1 w2 w3 : World} {pb mb fr k now b1 b2 : Nat} {S T : List Fr} {a : Nat} {db dc : Nat}
    (hp : PoolI w1 pb mb fr k now T) (hc1 : Chg w w1 (fun q => Own pb mb S q ∨ q = b1 ∨ q = b2)) (hdv : Dv b1 b2 w1) (hsub : ∀ q, Own pb mb T q → Own pb mb S q ∨ w.heap.size ≤ q) (hdb : w.heap.size ≤ db) (h1 : 1 ≤ dc) (h2 : dc ≤ maxLen) (hdat : w1.cell? ⟨db, 0, none⟩ = some (.int .u8 (a : Int)))
    (hdo : ¬ Own pb mb T db) (ha1 : 2 ≤ a) (ha2 : a < 18) (hT : ∀ g ∈ T, g.a ≠ a) (hlt : T.length < fr) (hn1 : ¬ Own pb mb T b1) (hn2 : ¬ Own pb mb T b2)
    (he : w2 = w1.alloc (.cells #[.slice (some ⟨db, 0, none⟩) 1 dc, .int .i64 0, .slice none 0 0] 76)) {D : DataW Unit} (hK : KR D T) (hTi : Tidy D)
    (hm : w3.ownsMap Try.prog 3 ptrR mb (T.length + 1) (D.put (.int .i64 (a : Int)) (.lit (.int .i64 (w1.heap.size : Nat))))) (ht : w2.mapTurned w3 mb) :
    Loaded Dv w pb mb fr k now b1 b2 S T a (.returned (.tuple #[.pointer (some ⟨w1.heap.size, 0, none⟩), .int .i64 0])) w3 := by
  have hlo : ∀ q, q < w1.heap.size → q ≠ mb → w3.heap[q]? = w1.heap[q]? := fun q hq hne => by
    have hq2 : q < w2.heap.size := by rw [he]; simp; omega
    refine ((Chg.turned ht).block q hq2 hne).trans ?_
    rw [he]
    exact Below.heap_alloc _ _ _ hq
  have hmlt := hp.lt mb (.inr (.inl rfl))
  have hdlt : db < w1.heap.size := block_lt_of_cell hdat
  have hsz : w2.heap.size = w1.heap.size + 1 := by rw [he]; simp
  have hc12 : w.heap.size ≤ w1.heap.size := hc1.size
  have hnew : w3.heap[w1.heap.size]? = some (.cells #[.slice (some ⟨db, 0, none⟩) 1 dc, .int .i64 0, .slice none 0 0] 76 (0, 0)) := by
    rw [(Chg.turned ht).block w1.heap.size (by omega) (by omega), he]
    exact heap_alloc_new _ _
  refine ⟨⟨a, w1.heap.size, db, dc, 0, .slice none 0 0, []⟩, rfl, rfl, rfl, rfl, ?_, ?_, ?_, ?_⟩
  · intro q hq
    simp [Fr.blks, vblk] at hq
    rcases hq with rfl | rfl
    · exact hc12
    · exact hdb
  · refine hp.add (f := ⟨a, w1.heap.size, db, dc, 0, .slice none 0 0, []⟩) hlt hT hK hTi ⟨_, hm⟩ (fun q hq hne => hlo q (hp.lt q hq) hne) ⟨hnew, ?_, h1, h2, ⟨rfl, .inl ⟨rfl, rfl⟩⟩, ha1, ha2, ?_, ?_, ?_, ?_, ?_, ?_⟩ ?_
    · exact (World.cell?_of_block (w := w1) (hlo db hdlt (fun e => hdo (.inr (.inl e))))).trans hdat
    · show w1.heap.size ≠ db
      omega
    · simp [vblk]
    · simp [vblk]
    · show 0 < 2 ^ 31
      omega
    · intro t ht'
      simp at ht'
    · show 0 ≤ 9
      omega
    · intro q hq
      simp [Fr.blks, vblk] at hq
      rcases hq with rfl | rfl
      · exact fun h => Nat.lt_irrefl _ (hp.lt _ h)
      · exact hdo
  · exact hd.keep b1 b2 w1 w3 hdv (hlo _ (hd.lt _ _ _ hdv).1 (fun e => hn1 (.inr (.inl e)))) (hlo _ (hd.lt _ _ _ hdv).2 (fun e => hn2 (.inr (.inl e))))
  · refine hc1.trans' (S' := (· = mb)) ?_ (fun b _ e => .inl (.inr (.inl e)))
    have hA : Chg w1 w2 (· = mb) := by rw [he]; exact Chg.alloc _ _ _
    exact hA.trans (Chg.turned ht)
end Go.Proofs.Ytjilpkmcddinaaa
end

section
set_option maxRecDepth 100000
namespace Go.Proofs.Ytjilpkmcddinaaa
open Go.RowKit Go.Maps
def Gone (fr k : Nat) (S T : List Fr) : Prop := (S.length < fr ∧ T = S) ∨ (S.length = fr ∧ ∃ g, S.Perm (g :: T) ∧ g.pins = 0 ∧ ∀ h ∈ S, h.pins = 0 → elderB k h g = false)
theorem oper_put {o : Oper} {a : Act} {w : World} {K : Act → World → Prop} {Q : Exit → Act → World → Prop} (m x v : Operand) (hop : o.op = Op.mapUpdate 59 m x v) {mb n : Nat} {D : DataW Unit} (hown : w.ownsMap Try.prog 3 ptrR mb n D) (hn : n < 1000)
    (hm : a.eval m = .map (some mb)) (q : Nat) (hq : q < 2 ^ 31) (hx : a.eval x = .int .i64 (q : Int)) (fb : Nat) (hv : a.eval v = .pointer (some ⟨fb, 0, none⟩))
    (hK : ∀ w', w'.ownsMap Try.prog 3 ptrR mb (n + 1) (D.put (.int .i64 (q : Int)) (.lit (.int .i64 (fb : Nat)))) → w.mapTurned w' mb → K (a.put o.dst undef) w') : o.wp Try.prog a w K Q := by
  obtain ⟨w', hrun, r1, r2⟩ := hown.store Try.law3 Try.underlying59 (by unfold maxLen; omega) (key_ok q hq) (val := .pointer (some ⟨fb, 0, none⟩)) (d := .lit (.int .i64 (fb : Nat))) (ps := []) rfl
  unfold Oper.wp
  simp [execOp, hop, hm, hx, hv, hrun, Result.andThen]
  exact hK w' r1 r2
theorem Try.load {Dv : Nat → Nat → World → Prop} (hd : Dev Dv) {w : World} {pb mb fr k now b1 b2 a : Nat} {S : List Fr} (hp : PoolI w pb mb fr k now S) (hdv : Dv b1 b2 w) (ha1 : 2 ≤ a) (ha2 : a < 18) (hS : ∀ g ∈ S, g.a ≠ a) (h0 : ∀ f ∈ S, 1 ≤ f.ts.length) (hn1 : ¬ Own pb mb S b1) (hn2 : ¬ Own pb mb S b2) :
    Calls Try.prog 29 #[.pointer (some ⟨pb, 0, none⟩), .pointer (some ⟨b1, 0, none⟩), .agg #[.int .i64 (a : Int), .int .i64 1]] w fun e w' =>
      (S.length = fr ∧ (∀ f ∈ S, 0 < f.pins) ∧ e = .returned (.tuple #[.pointer none, .int .i64 8]) ∧ Below w.heap.size w w') ∨ (∃ T, Loaded Dv w pb mb fr k now b1 b2 S T a e w' ∧ Gone fr k S T) := by
  have Hp := Lib.hid hp
  have Hdv := Lib.hid hdv
  have HS := Lib.hid hS
  have H0 := Lib.hid h0
  have Hn1 := Lib.hid hn1
  have Hn2 := Lib.hid hn2
  have hc0 := hp.c0
  have hc3 := hp.c3
  have hlt := hp.lt pb (.inl rfl)
  clear hp hdv hS h0 hn1 hn2
  go_enter Try.func29, Try.ntmps29
  go_upto_region 1 with fail
  have hE0 : (w.alloc (.cells #[.int .i64 (a : Int), .int .i64 1] 38)).cell? ⟨w.heap.size, 0, none⟩ = some (.int .i64 (a : Int)) := cell_of_row _ _ 0 _ 38 (0, 0) (heap_alloc_new _ _)
  have hE1 : (w.alloc (.cells #[.int .i64 (a : Int), .int .i64 1] 38)).cell? ⟨w.heap.size, 1, none⟩ = some (.int .i64 1) := cell_of_row _ _ 1 _ 38 (0, 0) (heap_alloc_new _ _)
  have hb0 := (Below.refl w.heap.size w).alloc (Nat.le_refl _) (.cells #[.int .i64 (a : Int), .int .i64 1] 38)
  have hsz : (w.alloc (.cells #[.int .i64 (a : Int), .int .i64 1] 38)).heap.size = w.heap.size + 1 := by simp
  generalize w.alloc (.cells #[.int .i64 (a : Int), .int .i64 1] 38) = w0 at hE0 hE1 hb0 hsz ⊢
  obtain ⟨eb, heb⟩ : ∃ eb, eb = w.heap.size := ⟨_, rfl⟩
  rw [← heb] at hE0 hE1 ⊢
  have Hp0 := Lib.hid (Hp.out.below hb0)
  have hc0' := Hp0.out.c0
  have hc3' := Hp0.out.c3
  have heb0 : eb < w0.heap.size := by omega
  have hel : w.heap.size ≤ eb := by omega
  clear hc0 hc3 hsz heb
  have hle := Hp0.out.le
  have hf2 := Hp0.out.f2
  obtain ⟨m, hm⟩ : ∃ m, m = S.length := ⟨_, rfl⟩
  have HM := Lib.hid hm
  have hlen : ∀ W, PoolI W pb mb fr k now S → ∀ ty, (Builtin.len_ #[59] ty #[.map (some mb)]).run Try.prog W = .ok (.int .i64 (m : Int)) W := fun W h ty => by rw [hm]; exact h.len_run ty
  rw [← hm] at hle
  clear hm
  have HL := Lib.hid hlen
  clear hlen
  by_cases hfull : m = fr
  · have e1 : ((m : Int) == (fr : Int)) = true := by simp; omega
    refine wp_region_noPanic ?_
    refine wp_region_held_drew (S := (fun W => PoolI W pb mb fr k now S ∧ W.cell? ⟨pb, 3, none⟩ = some (.map (some mb)) ∧ W.cell? ⟨pb, 0, none⟩ = some (.int .i64 (fr : Int)))) (by kernel_rfl) ?_ (fun hHeld => ?_)
    · exact ⟨Hp0.out.below (Below.refl _ _).drew, hc3', hc0'⟩
    refine wpAnyH_take (i := 0) (oi := { dst := some 14, op := Op.move (Operand.tmp 0), type := 24, pos := "pool.go:60", after := #[], guard := none }) (v := ?_) rfl (by kernel_rfl) (by kernel_rfl) (by kernel_rfl) (fun _ _ _ h => h) (Or.inl ⟨by rfl, ?_⟩) (by assumption) ?_
    rotate_left
    · (intro w hSw; (try dsimp only at hSw); go_simp; try with_reducible rfl)
    try simp only [Act.put, List.setIfInBounds_toArray, List.set_cons_zero, List.set_cons_succ]
    refine wpAnyH_take (i := 1) (oi := { dst := some 15, op := Op.nilCheck (Operand.tmp 14), type := 0, pos := "pool.go:60", after := #[{ on := 0, ground := Ground.data }], guard := none }) (v := ?_) rfl (by kernel_rfl) (by kernel_rfl) (by kernel_rfl) (fun _ _ _ h => h) (Or.inl ⟨by rfl, ?_⟩) (by assumption) ?_
    rotate_left
    · (intro w hSw; (try dsimp only at hSw); go_simp; try with_reducible rfl)
    try simp only [Act.put, List.setIfInBounds_toArray, List.set_cons_zero, List.set_cons_succ]
    refine wpAnyH_take (i := 2) (oi := { dst := some 16, op := Op.fieldAddr 61 (Operand.tmp 15) 3, type := 0, pos := "pool.go:60", after := #[{ on := 1, ground := Ground.data }], guard := none }) (v := ?_) rfl (by kernel_rfl) (by kernel_rfl) (by kernel_rfl) (fun _ _ _ h => h) (Or.inl ⟨by rfl, ?_⟩) (by assumption) ?_
    rotate_left
    · (intro w hSw; (try dsimp only at hSw); go_simp; try with_reducible rfl)
    try simp only [Act.put, List.setIfInBounds_toArray, List.set_cons_zero, List.set_cons_succ]
    refine wpAnyH_take (i := 3) (oi := { dst := some 17, op := Op.load 59 (Operand.tmp 16), type := 59, pos := "pool.go:60", after := #[{ on := 2, ground := Ground.data }], guard := none }) (v := ?_) rfl (by kernel_rfl) (by kernel_rfl) (by kernel_rfl) (fun _ _ _ h => h) (Or.inl ⟨by rfl, ?_⟩) (by assumption) ?_
    rotate_left
    · (intro w hSw; (try dsimp only at hSw); go_simp; try with_reducible rfl)
    try simp only [Act.put, List.setIfInBounds_toArray, List.set_cons_zero, List.set_cons_succ]
    refine wpAnyH_take (i := 4) (oi := { dst := some 18, op := Op.call { callee := Callee.builtin Builtin.len, args := #[Operand.tmp 17], argTypes := #[59] }, type := 3, pos := "pool.go:60", after := #[{ on := 3, ground := Ground.data }], guard := none }) (v := ?_) rfl (by kernel_rfl) (by kernel_rfl) (by kernel_rfl) (fun _ _ _ h => h) (Or.inl ⟨by rfl, ?_⟩) (by assumption) ?_
    rotate_left
    · (intro w hSw; (try dsimp only at hSw); have hl := HL.out _ hSw.1 3; go_simp; try with_reducible rfl)
    try simp only [Act.put, List.setIfInBounds_toArray, List.set_cons_zero, List.set_cons_succ]
    refine wpAnyH_take (i := 5) (oi := { dst := some 19, op := Op.move (Operand.tmp 0), type := 24, pos := "pool.go:60", after := #[], guard := none }) (v := ?_) rfl (by kernel_rfl) (by kernel_rfl) (by kernel_rfl) (fun _ _ _ h => h) (Or.inl ⟨by rfl, ?_⟩) (by assumption) ?_
    rotate_left
    · (intro w hSw; (try dsimp only at hSw); go_simp; try with_reducible rfl)
    try simp only [Act.put, List.setIfInBounds_toArray, List.set_cons_zero, List.set_cons_succ]
    refine wpAnyH_take (i := 6) (oi := { dst := some 20, op := Op.nilCheck (Operand.tmp 19), type := 0, pos := "pool.go:60", after := #[{ on := 5, ground := Ground.data }], guard := none }) (v := ?_) rfl (by kernel_rfl) (by kernel_rfl) (by kernel_rfl) (fun _ _ _ h => h) (Or.inl ⟨by rfl, ?_⟩) (by assumption) ?_
    rotate_left
    · (intro w hSw; (try dsimp only at hSw); go_simp; try with_reducible rfl)
    try simp only [Act.put, List.setIfInBounds_toArray, List.set_cons_zero, List.set_cons_succ]
    refine wpAnyH_take (i := 7) (oi := { dst := some 21, op := Op.fieldAddr 61 (Operand.tmp 20) 0, type := 0, pos := "pool.go:60", after := #[{ on := 6, ground := Ground.data }], guard := none }) (v := ?_) rfl (by kernel_rfl) (by kernel_rfl) (by kernel_rfl) (fun _ _ _ h => h) (Or.inl ⟨by rfl, ?_⟩) (by assumption) ?_
    rotate_left
    · (intro w hSw; (try dsimp only at hSw); go_simp; try with_reducible rfl)
    try simp only [Act.put, List.setIfInBounds_toArray, List.set_cons_zero, List.set_cons_succ]
    refine wpAnyH_take (i := 8) (oi := { dst := some 22, op := Op.load 3 (Operand.tmp 21), type := 3, pos := "pool.go:60", after := #[{ on := 7, ground := Ground.data }], guard := none }) (v := ?_) rfl (by kernel_rfl) (by kernel_rfl) (by kernel_rfl) (fun _ _ _ h => h) (Or.inl ⟨by rfl, ?_⟩) (by assumption) ?_
    rotate_left
    · (intro w hSw; (try dsimp only at hSw); go_simp; try with_reducible rfl)
    try simp only [Act.put, List.setIfInBounds_toArray, List.set_cons_zero, List.set_cons_succ]
    refine wpAnyH_take (i := 9) (oi := { dst := some 23, op := Op.binOp BinOp.eql 3 (Operand.tmp 18) (Operand.tmp 22) 3, type := 4, pos := "pool.go:60", after := #[{ on := 4, ground := Ground.data }, { on := 8, ground := Ground.data }], guard := none }) (v := ?_) rfl (by kernel_rfl) (by kernel_rfl) (by kernel_rfl) (fun _ _ _ h => h) (Or.inl ⟨by rfl, ?_⟩) (by assumption) ?_
    rotate_left
    · (intro w hSw; (try dsimp only at hSw); go_simp; try with_reducible rfl)
    try simp only [Act.put, List.setIfInBounds_toArray, List.set_cons_zero, List.set_cons_succ]
    refine wpAnyH_take (i := 10) (oi := { dst := some 8, op := Op.assign (Operand.tmp 23), type := 4, pos := "pool.go:60", after := #[{ on := 9, ground := Ground.data }, { on := 4, ground := Ground.chain }, { on := 0, ground := Ground.phase }, { on := 1, ground := Ground.phase }, { on := 2, ground := Ground.phase }, { on := 3, ground := Ground.phase }, { on := 4, ground := Ground.phase }, { on := 5, ground := Ground.phase }, { on := 6, ground := Ground.phase }, { on := 7, ground := Ground.phase }, { on := 8, ground := Ground.phase }, { on := 9, ground := Ground.phase }], guard := none }) (v := ?_) rfl (by kernel_rfl) (by kernel_rfl) (by kernel_rfl) (fun _ _ _ h => h) (Or.inl ⟨by rfl, ?_⟩) (by assumption) ?_
    rotate_left
    · (intro w hSw; (try dsimp only at hSw); go_simp; try with_reducible rfl)
    try simp only [Act.put, List.setIfInBounds_toArray, List.set_cons_zero, List.set_cons_succ]
    refine wpAnyH_done (by kernel_rfl) ?_ _
    refine NoPanic.normal ?_
    have hb1 : Below w.heap.size w w0.drew := hb0.drew
    have hE0' : w0.drew.cell? ⟨eb, 0, none⟩ = some (.int .i64 (a : Int)) := hE0
    have hE1' : w0.drew.cell? ⟨eb, 1, none⟩ = some (.int .i64 1) := hE1
    have heb1 : eb < w0.drew.heap.size := heb0
    have Hp1 := Lib.hid hHeld.1
    clear hHeld hE0 hE1 hc0' hc3' heb0
    generalize w0.drew = w1 at hb1 hE0' hE1' heb1 Hp1 ⊢
    have Hb1 := Lib.hid hb1
    clear hb1 hb0
    go_wp2_with fail
    refine (Try.victim Hp1.out H0.out).mono ?_
    rintro e4 w4 ⟨best, fnd, rfl, hvic, hb4⟩
    have Hb4 : Hid (Below w.heap.size w w4) := Lib.hid (Hb1.out.trans (hb4.mono Hb1.out.size))
    have Hp4 := Lib.hid (Hp1.out.below hb4)
    have hE0' := cellB hE0' hb4
    have hE1' := cellB hE1' hb4
    have heb1 : eb < w4.heap.size := Nat.lt_of_lt_of_le heb1 hb4.size
    clear hb4
    cases fnd with
    | false =>
      have hall : ∀ f ∈ S, 0 < f.pins := by
        rcases hvic with ⟨_, h⟩ | ⟨h, _⟩
        · exact fun f hf => h f hf (List.mem_map.2 ⟨f, hf, rfl⟩)
        · cases h
      have Hall := Lib.hid hall
      clear hvic hall
      go_wp2_with fail
      go_ret2
      exact .inl ⟨by rw [← HM.out]; exact hfull, Hall.out, rfl, Hb4.out⟩
    | true =>
      obtain ⟨g, hg, hbest, hpg, hmin⟩ : ∃ g ∈ S, best = g.a ∧ g.pins = 0 ∧ ∀ h ∈ S, h.pins = 0 → elderB k h g = false := by
        rcases hvic with ⟨h, _⟩ | ⟨_, g, h1, h2, h3, h4⟩
        · cases h
        · exact ⟨g, h1, h2, h3, fun h hh => h4 h hh (List.mem_map.2 ⟨h, hh, rfl⟩)⟩
      subst hbest
      obtain ⟨T, hper⟩ : ∃ T, S.Perm (g :: T) := by
        obtain ⟨s, t, e⟩ := List.append_of_mem hg
        exact ⟨s ++ t, by rw [e]; exact List.perm_middle⟩
      have Hper := Lib.hid hper
      have Hmin := Lib.hid hmin
      clear hvic hper hmin
      go_wp2_with fail
      have Hdv1 := Lib.hid (hd.below Hdv.out Hb4.out)
      have hl1 := hd.lt _ _ _ Hdv.out
      refine (hd.rd b1 b2 _ a Hdv1.out ha1 ha2).mono ?_
      rintro e2 w2 ⟨hrd, hdv2⟩
      obtain ⟨db, dc, rfl, hdb, hdc1, hdc2, hdat⟩ := hrd.ret
      have hne : ∀ q, Own pb mb S q → q ≠ b1 ∧ q ≠ b2 := fun q hq => ⟨fun e => Hn1.out (e ▸ hq), fun e => Hn2.out (e ▸ hq)⟩
      have Hp2 : Hid (PoolI w2 pb mb fr k now S) := Lib.hid (Hp4.out.stay fun q hq => hrd.fr q (Hp4.out.lt q hq) (hne q hq).1 (hne q hq).2)
      have hE2 : w2.cell? ⟨eb, 0, none⟩ = some (.int .i64 (a : Int)) := (World.cell?_of_block (w := w4) (hrd.fr eb heb1 (by omega) (by omega))).trans hE0'
      have hch : Chg w w2 (fun q => Own pb mb S q ∨ q = b1 ∨ q = b2) := (Chg.below Hb4.out _).trans ⟨hrd.os, hrd.tape, hrd.out, hrd.sz, fun q hq hn => hrd.fr q hq (fun e => hn (.inr (.inl e))) (fun e => hn (.inr (.inr e)))⟩
      have hbsz := Hb4.out.size
      have hdb' : w.heap.size ≤ db := by omega
      have hc3 := Hp2.out.c3
      have heb2 : eb < w2.heap.size := by have := hrd.sz; omega
      have hdo : ¬ Own pb mb S db := fun h => by have := Hp4.out.lt _ h; omega
      have Hch := Lib.hid hch
      have Hdv2 := Lib.hid hdv2
      have Hdat := Lib.hid hdat
      clear hdat hdv2 hch hrd hE0' hE1' hne Hdv1
      have HpG := Lib.hid (Hp2.out.perm Hper.out)
      obtain ⟨D0, hD0, hK0⟩ := HpG.out.map
      have HD0 := Lib.hid hD0
      have HK0 := Lib.hid hK0
      have HTi0 := Lib.hid (hD0.tidy Try.law3)
      have hga : g.a < 2 ^ 31 := by have := (HpG.out.frs g (by simp)).hi; omega
      have hkey := key_ok g.a hga
      have hpm2 := HpG.out.pm
      have hem2 : eb ≠ mb := by have := Hp.out.lt mb (.inr (.inl rfl)); omega
      clear hD0 hK0
      go_wp2_with (refine wpList_delete_own _ rfl _ _ 59 3 rfl 71 Try.law3 Try.underlying59 ptrR mb _ D0 rfl HD0.out _ _ rfl hkey ?_; intro w7 hown7 hturn7; have Hown7 := Lib.hid hown7; have Hturn7 := Lib.hid hturn7; clear hown7 hturn7)
      have hb7 : ∀ q, q < w2.heap.size → q ≠ mb → w7.heap[q]? = w2.heap[q]? := fun q hq hne => (Chg.turned Hturn7.out).block q hq hne
      have HpT : Hid (PoolI w7 pb mb fr k now T) := Lib.hid (HpG.out.del HK0.out HTi0.out ⟨_, Hown7.out⟩ (fun q hq hne => hb7 q (HpG.out.lt q hq) hne))
      have hcT3 := HpT.out.c3
      have hET := (World.cell?_of_block (w := w2) (a := ⟨eb, 0, none⟩) (hb7 eb heb2 hem2)).trans hE2
      have hebT : eb < w7.heap.size := Nat.lt_of_lt_of_le heb2 (Chg.turned Hturn7.out).size
      have HchT : Hid (Chg w w7 (fun q => Own pb mb S q ∨ q = b1 ∨ q = b2)) := Lib.hid (Hch.out.trans' (Chg.turned Hturn7.out) (fun q _ e => .inl (.inr (.inl e))))
      have hl2 := hd.lt _ _ _ Hdv2.out
      have HdvT : Hid (Dv b1 b2 w7) := Lib.hid (hd.keep _ _ _ _ Hdv2.out (hb7 _ hl2.1 (fun e => Hn1.out (.inr (.inl e)))) (hb7 _ hl2.2 (fun e => Hn2.out (.inr (.inl e)))))
      have hTS : ∀ q, Own pb mb T q → Own pb mb S q := fun q h => by
        rcases h with h | h | ⟨f, hf, hq⟩
        · exact .inl h
        · exact .inr (.inl h)
        · exact .inr (.inr ⟨f, Hper.out.mem_iff.2 (by simp [hf]), hq⟩)
      have HoT : Hid (∀ q, Own pb mb T q → Own pb mb S q ∨ w.heap.size ≤ q) := Lib.hid (fun q h => .inl (hTS q h))
      have HdoT : Hid (¬ Own pb mb T db) := Lib.hid (fun h => hdo (hTS _ h))
      have HST : Hid (∀ g ∈ T, g.a ≠ a) := Lib.hid (fun f hf => HS.out f (Hper.out.mem_iff.2 (by simp [hf])))
      have HlT : Hid (T.length < fr) := Lib.hid (by have h1 := Hper.out.length_eq; have h2 := HM.out; simp at h1; omega)
      have Hn1T : Hid (¬ Own pb mb T b1) := Lib.hid (fun h => Hn1.out (hTS _ h))
      have Hn2T : Hid (¬ Own pb mb T b2) := Lib.hid (fun h => Hn2.out (hTS _ h))
      have Hdat := Lib.hid ((World.cell?_of_block (w := w2) (a := ⟨db, 0, none⟩) (hb7 db (block_lt_of_cell Hdat.out) (fun e => hdo (.inr (.inl e))))).trans Hdat.out)
      clear hTS hdo hc3 hE2 hb7
      obtain ⟨D, hD, hK⟩ := HpT.out.map
      have hTi := hD.tidy Try.law3
      have hlb : ∀ q, q < w7.heap.size → ((w7.alloc (.cells #[.slice (some ⟨db, 0, none⟩) 1 dc, .int .i64 0, .slice none 0 0] 76)).drew).heap[q]? = w7.heap[q]? := fun q hq => Below.heap_alloc _ _ _ hq
      have hplt := HpT.out.lt pb (.inl rfl)
      have hmlt := HpT.out.lt mb (.inr (.inl rfl))
      have hpm := HpT.out.pm
      have hD3 := owns_at hD (hlb mb hmlt)
      have hc33 := (World.cell?_of_block (w := w7) (hlb pb hplt)).trans hcT3
      have hE3 := (World.cell?_of_block (w := w7) (a := ⟨eb, 0, none⟩) (hlb eb hebT)).trans hET
      have hTlen : T.length < 1000 := by have := HpT.out.le; omega
      have hem : eb ≠ mb := by have := Hp.out.lt mb (.inr (.inl rfl)); omega
      obtain ⟨B, hB⟩ : ∃ B, B = w7.heap.size := ⟨_, rfl⟩
      rw [← hB]
      have HK := Lib.hid hK
      have HTi := Lib.hid hTi
      have HD3 := Lib.hid hD3
      have HBs := Lib.hid hB
      clear hK hTi hD hlb hB hcT3 hET hD3
      generalize hw3 : (w7.alloc (.cells #[.slice (some ⟨db, 0, none⟩) 1 dc, .int .i64 0, .slice none 0 0] 76)) = w5 at hc33 hE3 HD3 ⊢
      have Hw3 := Lib.hid hw3
      clear hw3
      refine wp_region_noPanic ?_
      refine wp_region_held_drew (S := (fun W => W.cell? ⟨pb, 3, none⟩ = some (.map (some mb)) ∧ W.cell? ⟨eb, 0, none⟩ = some (.int .i64 (a : Int)))) (by kernel_rfl) ?_ (fun hHeld => ?_)
      · exact ⟨hc33, hE3⟩
      refine wpAnyH_take (i := 0) (oi := { dst := some 53, op := Op.move (Operand.tmp 0), type := 24, pos := "pool.go:76", after := #[], guard := none }) (v := ?_) rfl (by kernel_rfl) (by kernel_rfl) (by kernel_rfl) (fun _ _ _ h => h) (Or.inl ⟨by rfl, ?_⟩) (by assumption) ?_
      rotate_left
      · (intro w hSw; (try dsimp only at hSw); go_simp; try with_reducible rfl)
      try simp only [Act.put, List.setIfInBounds_toArray, List.set_cons_zero, List.set_cons_succ]
      refine wpAnyH_take (i := 1) (oi := { dst := some 54, op := Op.nilCheck (Operand.tmp 53), type := 0, pos := "pool.go:76", after := #[{ on := 0, ground := Ground.data }], guard := none }) (v := ?_) rfl (by kernel_rfl) (by kernel_rfl) (by kernel_rfl) (fun _ _ _ h => h) (Or.inl ⟨by rfl, ?_⟩) (by assumption) ?_
      rotate_left
      · (intro w hSw; (try dsimp only at hSw); go_simp; try with_reducible rfl)
      try simp only [Act.put, List.setIfInBounds_toArray, List.set_cons_zero, List.set_cons_succ]
      refine wpAnyH_take (i := 2) (oi := { dst := some 55, op := Op.fieldAddr 61 (Operand.tmp 54) 3, type := 0, pos := "pool.go:76", after := #[{ on := 1, ground := Ground.data }], guard := none }) (v := ?_) rfl (by kernel_rfl) (by kernel_rfl) (by kernel_rfl) (fun _ _ _ h => h) (Or.inl ⟨by rfl, ?_⟩) (by assumption) ?_
      rotate_left
      · (intro w hSw; (try dsimp only at hSw); go_simp; try with_reducible rfl)
      try simp only [Act.put, List.setIfInBounds_toArray, List.set_cons_zero, List.set_cons_succ]
      refine wpAnyH_take (i := 3) (oi := { dst := some 56, op := Op.load 59 (Operand.tmp 55), type := 59, pos := "pool.go:76", after := #[{ on := 2, ground := Ground.data }], guard := none }) (v := ?_) rfl (by kernel_rfl) (by kernel_rfl) (by kernel_rfl) (fun _ _ _ h => h) (Or.inl ⟨by rfl, ?_⟩) (by assumption) ?_
      rotate_left
      · (intro w hSw; (try dsimp only at hSw); go_simp; try with_reducible rfl)
      try simp only [Act.put, List.setIfInBounds_toArray, List.set_cons_zero, List.set_cons_succ]
      refine wpAnyH_take (i := 4) (oi := { dst := some 57, op := Op.fieldAddr 38 (Operand.tmp 5) 0, type := 0, pos := "pool.go:76", after := #[], guard := none }) (v := ?_) rfl (by kernel_rfl) (by kernel_rfl) (by kernel_rfl) (fun _ _ _ h => h) (Or.inl ⟨by rfl, ?_⟩) (by assumption) ?_
      rotate_left
      · (intro w hSw; (try dsimp only at hSw); go_simp; try with_reducible rfl)
      try simp only [Act.put, List.setIfInBounds_toArray, List.set_cons_zero, List.set_cons_succ]
      refine wpAnyH_take (i := 5) (oi := { dst := some 58, op := Op.load 3 (Operand.tmp 57), type := 3, pos := "pool.go:76", after := #[{ on := 4, ground := Ground.data }], guard := none }) (v := ?_) rfl (by kernel_rfl) (by kernel_rfl) (by kernel_rfl) (fun _ _ _ h => h) (Or.inl ⟨by rfl, ?_⟩) (by assumption) ?_
      rotate_left
      · (intro w hSw; (try dsimp only at hSw); go_simp; try with_reducible rfl)
      try simp only [Act.put, List.setIfInBounds_toArray, List.set_cons_zero, List.set_cons_succ]
      refine wpAnyH_take (i := 6) (oi := { dst := some 59, op := Op.move (Operand.tmp 13), type := 71, pos := "pool.go:76", after := #[], guard := none }) (v := ?_) rfl (by kernel_rfl) (by kernel_rfl) (by kernel_rfl) (fun _ _ _ h => h) (Or.inl ⟨by rfl, ?_⟩) (by assumption) ?_
      rotate_left
      · (intro w hSw; (try dsimp only at hSw); go_simp; try with_reducible rfl)
      try simp only [Act.put, List.setIfInBounds_toArray, List.set_cons_zero, List.set_cons_succ]
      refine wpAnyH_ready (rs := [7]) (by kernel_rfl) (by simp) ?_
      refine AllReadyH.cons (o := { dst := none, op := Op.mapUpdate 59 (Operand.tmp 56) (Operand.tmp 58) (Operand.tmp 59), type := 0, pos := "pool.go:76", after := #[{ on := 3, ground := Ground.data }, { on := 5, ground := Ground.data }, { on := 6, ground := Ground.data }, { on := 0, ground := Ground.phase }, { on := 1, ground := Ground.phase }, { on := 2, ground := Ground.phase }, { on := 3, ground := Ground.phase }, { on := 4, ground := Ground.phase }, { on := 5, ground := Ground.phase }, { on := 6, ground := Ground.phase }], guard := none }) rfl (fun K hK => ?_) AllReadyH.nil
      refine oper_put _ _ _ rfl HD3.out hTlen rfl a (by omega) rfl B rfl ?_
      intro w6 hown6 hturn6
      have hc6 : w6.cell? ⟨pb, 3, none⟩ = some (.map (some mb)) := (World.cell?_of_block (w := w5.drew) ((Chg.turned hturn6).block pb (block_lt_of_cell hc33) hpm)).trans hc33
      have hE6 : w6.cell? ⟨eb, 0, none⟩ = some (.int .i64 (a : Int)) := (World.cell?_of_block (w := w5.drew) ((Chg.turned hturn6).block eb (block_lt_of_cell hE3) hem)).trans hE3
      have Hown6 := Lib.hid hown6
      have Hturn6 := Lib.hid hturn6
      clear hown6 hturn6
      refine hK.out _ _ ?_ (fun hHeld => ?_)
      · exact ⟨hc6, hE6⟩
      clear hK K
      try simp only [Act.put, List.setIfInBounds_toArray, List.set_cons_zero, List.set_cons_succ]
      refine wpAnyH_done (by kernel_rfl) ?_ _
      refine NoPanic.normal ?_
      clear hHeld hc6 hE6
      go_wp2_with fail
      go_ret2
      refine .inr ⟨T, ?_, .inr ⟨by rw [← HM.out]; exact hfull, g, Hper.out, hpg, Hmin.out⟩⟩
      have hBv := HBs.out
      subst hBv
      exact laid hd (w1 := w7.drew) (w2 := w5.drew) (HpT.out.below (Below.refl _ _).drew) (HchT.out.drew) (hd.keep _ _ _ _ HdvT.out rfl rfl) HoT.out hdb' hdc1 hdc2 Hdat.out HdoT.out ha1 ha2 HST.out HlT.out Hn1T.out Hn2T.out (by rw [← Hw3.out]; rfl) HK.out HTi.out Hown6.out Hturn6.out
  · have e1 : ((m : Int) == (fr : Int)) = false := by simp; omega
    refine wp_region_noPanic ?_
    refine wp_region_held_drew (S := (fun W => PoolI W pb mb fr k now S ∧ W.cell? ⟨pb, 3, none⟩ = some (.map (some mb)) ∧ W.cell? ⟨pb, 0, none⟩ = some (.int .i64 (fr : Int)))) (by kernel_rfl) ?_ (fun hHeld => ?_)
    · exact ⟨Hp0.out.below (Below.refl _ _).drew, hc3', hc0'⟩
    refine wpAnyH_take (i := 0) (oi := { dst := some 14, op := Op.move (Operand.tmp 0), type := 24, pos := "pool.go:60", after := #[], guard := none }) (v := ?_) rfl (by kernel_rfl) (by kernel_rfl) (by kernel_rfl) (fun _ _ _ h => h) (Or.inl ⟨by rfl, ?_⟩) (by assumption) ?_
    rotate_left
    · (intro w hSw; (try dsimp only at hSw); go_simp; try with_reducible rfl)
    try simp only [Act.put, List.setIfInBounds_toArray, List.set_cons_zero, List.set_cons_succ]
    refine wpAnyH_take (i := 1) (oi := { dst := some 15, op := Op.nilCheck (Operand.tmp 14), type := 0, pos := "pool.go:60", after := #[{ on := 0, ground := Ground.data }], guard := none }) (v := ?_) rfl (by kernel_rfl) (by kernel_rfl) (by kernel_rfl) (fun _ _ _ h => h) (Or.inl ⟨by rfl, ?_⟩) (by assumption) ?_
    rotate_left
    · (intro w hSw; (try dsimp only at hSw); go_simp; try with_reducible rfl)
    try simp only [Act.put, List.setIfInBounds_toArray, List.set_cons_zero, List.set_cons_succ]
    refine wpAnyH_take (i := 2) (oi := { dst := some 16, op := Op.fieldAddr 61 (Operand.tmp 15) 3, type := 0, pos := "pool.go:60", after := #[{ on := 1, ground := Ground.data }], guard := none }) (v := ?_) rfl (by kernel_rfl) (by kernel_rfl) (by kernel_rfl) (fun _ _ _ h => h) (Or.inl ⟨by rfl, ?_⟩) (by assumption) ?_
    rotate_left
    · (intro w hSw; (try dsimp only at hSw); go_simp; try with_reducible rfl)
    try simp only [Act.put, List.setIfInBounds_toArray, List.set_cons_zero, List.set_cons_succ]
    refine wpAnyH_take (i := 3) (oi := { dst := some 17, op := Op.load 59 (Operand.tmp 16), type := 59, pos := "pool.go:60", after := #[{ on := 2, ground := Ground.data }], guard := none }) (v := ?_) rfl (by kernel_rfl) (by kernel_rfl) (by kernel_rfl) (fun _ _ _ h => h) (Or.inl ⟨by rfl, ?_⟩) (by assumption) ?_
    rotate_left
    · (intro w hSw; (try dsimp only at hSw); go_simp; try with_reducible rfl)
    try simp only [Act.put, List.setIfInBounds_toArray, List.set_cons_zero, List.set_cons_succ]
    refine wpAnyH_take (i := 4) (oi := { dst := some 18, op := Op.call { callee := Callee.builtin Builtin.len, args := #[Operand.tmp 17], argTypes := #[59] }, type := 3, pos := "pool.go:60", after := #[{ on := 3, ground := Ground.data }], guard := none }) (v := ?_) rfl (by kernel_rfl) (by kernel_rfl) (by kernel_rfl) (fun _ _ _ h => h) (Or.inl ⟨by rfl, ?_⟩) (by assumption) ?_
    rotate_left
    · (intro w hSw; (try dsimp only at hSw); have hl := HL.out _ hSw.1 3; go_simp; try with_reducible rfl)
    try simp only [Act.put, List.setIfInBounds_toArray, List.set_cons_zero, List.set_cons_succ]
    refine wpAnyH_take (i := 5) (oi := { dst := some 19, op := Op.move (Operand.tmp 0), type := 24, pos := "pool.go:60", after := #[], guard := none }) (v := ?_) rfl (by kernel_rfl) (by kernel_rfl) (by kernel_rfl) (fun _ _ _ h => h) (Or.inl ⟨by rfl, ?_⟩) (by assumption) ?_
    rotate_left
    · (intro w hSw; (try dsimp only at hSw); go_simp; try with_reducible rfl)
    try simp only [Act.put, List.setIfInBounds_toArray, List.set_cons_zero, List.set_cons_succ]
    refine wpAnyH_take (i := 6) (oi := { dst := some 20, op := Op.nilCheck (Operand.tmp 19), type := 0, pos := "pool.go:60", after := #[{ on := 5, ground := Ground.data }], guard := none }) (v := ?_) rfl (by kernel_rfl) (by kernel_rfl) (by kernel_rfl) (fun _ _ _ h => h) (Or.inl ⟨by rfl, ?_⟩) (by assumption) ?_
    rotate_left
    · (intro w hSw; (try dsimp only at hSw); go_simp; try with_reducible rfl)
    try simp only [Act.put, List.setIfInBounds_toArray, List.set_cons_zero, List.set_cons_succ]
    refine wpAnyH_take (i := 7) (oi := { dst := some 21, op := Op.fieldAddr 61 (Operand.tmp 20) 0, type := 0, pos := "pool.go:60", after := #[{ on := 6, ground := Ground.data }], guard := none }) (v := ?_) rfl (by kernel_rfl) (by kernel_rfl) (by kernel_rfl) (fun _ _ _ h => h) (Or.inl ⟨by rfl, ?_⟩) (by assumption) ?_
    rotate_left
    · (intro w hSw; (try dsimp only at hSw); go_simp; try with_reducible rfl)
    try simp only [Act.put, List.setIfInBounds_toArray, List.set_cons_zero, List.set_cons_succ]
    refine wpAnyH_take (i := 8) (oi := { dst := some 22, op := Op.load 3 (Operand.tmp 21), type := 3, pos := "pool.go:60", after := #[{ on := 7, ground := Ground.data }], guard := none }) (v := ?_) rfl (by kernel_rfl) (by kernel_rfl) (by kernel_rfl) (fun _ _ _ h => h) (Or.inl ⟨by rfl, ?_⟩) (by assumption) ?_
    rotate_left
    · (intro w hSw; (try dsimp only at hSw); go_simp; try with_reducible rfl)
    try simp only [Act.put, List.setIfInBounds_toArray, List.set_cons_zero, List.set_cons_succ]
    refine wpAnyH_take (i := 9) (oi := { dst := some 23, op := Op.binOp BinOp.eql 3 (Operand.tmp 18) (Operand.tmp 22) 3, type := 4, pos := "pool.go:60", after := #[{ on := 4, ground := Ground.data }, { on := 8, ground := Ground.data }], guard := none }) (v := ?_) rfl (by kernel_rfl) (by kernel_rfl) (by kernel_rfl) (fun _ _ _ h => h) (Or.inl ⟨by rfl, ?_⟩) (by assumption) ?_
    rotate_left
    · (intro w hSw; (try dsimp only at hSw); go_simp; try with_reducible rfl)
    try simp only [Act.put, List.setIfInBounds_toArray, List.set_cons_zero, List.set_cons_succ]
    refine wpAnyH_take (i := 10) (oi := { dst := some 8, op := Op.assign (Operand.tmp 23), type := 4, pos := "pool.go:60", after := #[{ on := 9, ground := Ground.data }, { on := 4, ground := Ground.chain }, { on := 0, ground := Ground.phase }, { on := 1, ground := Ground.phase }, { on := 2, ground := Ground.phase }, { on := 3, ground := Ground.phase }, { on := 4, ground := Ground.phase }, { on := 5, ground := Ground.phase }, { on := 6, ground := Ground.phase }, { on := 7, ground := Ground.phase }, { on := 8, ground := Ground.phase }, { on := 9, ground := Ground.phase }], guard := none }) (v := ?_) rfl (by kernel_rfl) (by kernel_rfl) (by kernel_rfl) (fun _ _ _ h => h) (Or.inl ⟨by rfl, ?_⟩) (by assumption) ?_
    rotate_left
    · (intro w hSw; (try dsimp only at hSw); go_simp; try with_reducible rfl)
    try simp only [Act.put, List.setIfInBounds_toArray, List.set_cons_zero, List.set_cons_succ]
    refine wpAnyH_done (by kernel_rfl) ?_ _
    refine NoPanic.normal ?_
    have hb1 : Below w.heap.size w w0.drew := hb0.drew
    have hE0' : w0.drew.cell? ⟨eb, 0, none⟩ = some (.int .i64 (a : Int)) := hE0
    have hE1' : w0.drew.cell? ⟨eb, 1, none⟩ = some (.int .i64 1) := hE1
    have heb1 : eb < w0.drew.heap.size := heb0
    have Hp1 := Lib.hid hHeld.1
    clear hHeld hE0 hE1 hc0' hc3' heb0
    generalize w0.drew = w1 at hb1 hE0' hE1' heb1 Hp1 ⊢
    have Hb1 := Lib.hid hb1
    clear hb1 hb0
    go_wp2_with fail
    have Hdv1 := Lib.hid (hd.below Hdv.out Hb1.out)
    have hl1 := hd.lt _ _ _ Hdv.out
    refine (hd.rd b1 b2 _ a Hdv1.out ha1 ha2).mono ?_
    rintro e2 w2 ⟨hrd, hdv2⟩
    obtain ⟨db, dc, rfl, hdb, hdc1, hdc2, hdat⟩ := hrd.ret
    have hne : ∀ q, Own pb mb S q → q ≠ b1 ∧ q ≠ b2 := fun q hq => ⟨fun e => Hn1.out (e ▸ hq), fun e => Hn2.out (e ▸ hq)⟩
    have Hp2 : Hid (PoolI w2 pb mb fr k now S) := Lib.hid (Hp1.out.stay fun q hq => hrd.fr q (Hp1.out.lt q hq) (hne q hq).1 (hne q hq).2)
    have hE2 : w2.cell? ⟨eb, 0, none⟩ = some (.int .i64 (a : Int)) := (World.cell?_of_block (w := w1) (hrd.fr eb heb1 (by omega) (by omega))).trans hE0'
    have hch : Chg w w2 (fun q => Own pb mb S q ∨ q = b1 ∨ q = b2) := (Chg.below Hb1.out _).trans ⟨hrd.os, hrd.tape, hrd.out, hrd.sz, fun q hq hn => hrd.fr q hq (fun e => hn (.inr (.inl e))) (fun e => hn (.inr (.inr e)))⟩
    have hbsz := Hb1.out.size
    have hdb' : w.heap.size ≤ db := by omega
    have hc3 := Hp2.out.c3
    have heb2 : eb < w2.heap.size := by have := hrd.sz; omega
    have hdo : ¬ Own pb mb S db := fun h => by have := Hp1.out.lt _ h; omega
    have Hch := Lib.hid hch
    have Hdv2 := Lib.hid hdv2
    have Hdat := Lib.hid hdat
    clear hdat hdv2 hch hrd hE0' hE1' hne Hdv1
    obtain ⟨T, hT⟩ : ∃ T, T = S := ⟨_, rfl⟩
    have HpT : Hid (PoolI w2 pb mb fr k now T) := by rw [hT]; exact Hp2
    have hcT3 := hc3
    have hET := hE2
    have hebT := heb2
    have HchT := Hch
    have HdvT := Hdv2
    have HoT : Hid (∀ q, Own pb mb T q → Own pb mb S q ∨ w.heap.size ≤ q) := Lib.hid (fun q h => .inl (hT ▸ h))
    have HdoT : Hid (¬ Own pb mb T db) := Lib.hid (by rw [hT]; exact hdo)
    have HST : Hid (∀ g ∈ T, g.a ≠ a) := by rw [hT]; exact HS
    have HlT : Hid (T.length < fr) := Lib.hid (by rw [hT, ← HM.out]; omega)
    have Hn1T : Hid (¬ Own pb mb T b1) := by rw [hT]; exact Hn1
    have Hn2T : Hid (¬ Own pb mb T b2) := by rw [hT]; exact Hn2
    have HT := Lib.hid hT
    clear hT hdo hc3 hE2 heb2 Hdv2 Hch
    go_upto_region 13 with fail
    obtain ⟨D, hD, hK⟩ := HpT.out.map
    have hTi := hD.tidy Try.law3
    have hlb : ∀ q, q < w2.heap.size → ((w2.alloc (.cells #[.slice (some ⟨db, 0, none⟩) 1 dc, .int .i64 0, .slice none 0 0] 76)).drew).heap[q]? = w2.heap[q]? := fun q hq => Below.heap_alloc _ _ _ hq
    have hplt := HpT.out.lt pb (.inl rfl)
    have hmlt := HpT.out.lt mb (.inr (.inl rfl))
    have hpm := HpT.out.pm
    have hD3 := owns_at hD (hlb mb hmlt)
    have hc33 := (World.cell?_of_block (w := w2) (hlb pb hplt)).trans hcT3
    have hE3 := (World.cell?_of_block (w := w2) (a := ⟨eb, 0, none⟩) (hlb eb hebT)).trans hET
    have hTlen : T.length < 1000 := by have := HpT.out.le; omega
    have hem : eb ≠ mb := by have := Hp.out.lt mb (.inr (.inl rfl)); omega
    obtain ⟨B, hB⟩ : ∃ B, B = w2.heap.size := ⟨_, rfl⟩
    rw [← hB]
    have HK := Lib.hid hK
    have HTi := Lib.hid hTi
    have HD3 := Lib.hid hD3
    have HBs := Lib.hid hB
    clear hK hTi hD hlb hB hcT3 hET hD3
    generalize hw3 : (w2.alloc (.cells #[.slice (some ⟨db, 0, none⟩) 1 dc, .int .i64 0, .slice none 0 0] 76)) = w5 at hc33 hE3 HD3 ⊢
    have Hw3 := Lib.hid hw3
    clear hw3
    refine wp_region_noPanic ?_
    refine wp_region_held_drew (S := (fun W => W.cell? ⟨pb, 3, none⟩ = some (.map (some mb)) ∧ W.cell? ⟨eb, 0, none⟩ = some (.int .i64 (a : Int)))) (by kernel_rfl) ?_ (fun hHeld => ?_)
    · exact ⟨hc33, hE3⟩
    refine wpAnyH_take (i := 0) (oi := { dst := some 53, op := Op.move (Operand.tmp 0), type := 24, pos := "pool.go:76", after := #[], guard := none }) (v := ?_) rfl (by kernel_rfl) (by kernel_rfl) (by kernel_rfl) (fun _ _ _ h => h) (Or.inl ⟨by rfl, ?_⟩) (by assumption) ?_
    rotate_left
    · (intro w hSw; (try dsimp only at hSw); go_simp; try with_reducible rfl)
    try simp only [Act.put, List.setIfInBounds_toArray, List.set_cons_zero, List.set_cons_succ]
    refine wpAnyH_take (i := 1) (oi := { dst := some 54, op := Op.nilCheck (Operand.tmp 53), type := 0, pos := "pool.go:76", after := #[{ on := 0, ground := Ground.data }], guard := none }) (v := ?_) rfl (by kernel_rfl) (by kernel_rfl) (by kernel_rfl) (fun _ _ _ h => h) (Or.inl ⟨by rfl, ?_⟩) (by assumption) ?_
    rotate_left
    · (intro w hSw; (try dsimp only at hSw); go_simp; try with_reducible rfl)
    try simp only [Act.put, List.setIfInBounds_toArray, List.set_cons_zero, List.set_cons_succ]
    refine wpAnyH_take (i := 2) (oi := { dst := some 55, op := Op.fieldAddr 61 (Operand.tmp 54) 3, type := 0, pos := "pool.go:76", after := #[{ on := 1, ground := Ground.data }], guard := none }) (v := ?_) rfl (by kernel_rfl) (by kernel_rfl) (by kernel_rfl) (fun _ _ _ h => h) (Or.inl ⟨by rfl, ?_⟩) (by assumption) ?_
    rotate_left
    · (intro w hSw; (try dsimp only at hSw); go_simp; try with_reducible rfl)
    try simp only [Act.put, List.setIfInBounds_toArray, List.set_cons_zero, List.set_cons_succ]
    refine wpAnyH_take (i := 3) (oi := { dst := some 56, op := Op.load 59 (Operand.tmp 55), type := 59, pos := "pool.go:76", after := #[{ on := 2, ground := Ground.data }], guard := none }) (v := ?_) rfl (by kernel_rfl) (by kernel_rfl) (by kernel_rfl) (fun _ _ _ h => h) (Or.inl ⟨by rfl, ?_⟩) (by assumption) ?_
    rotate_left
    · (intro w hSw; (try dsimp only at hSw); go_simp; try with_reducible rfl)
    try simp only [Act.put, List.setIfInBounds_toArray, List.set_cons_zero, List.set_cons_succ]
    refine wpAnyH_take (i := 4) (oi := { dst := some 57, op := Op.fieldAddr 38 (Operand.tmp 5) 0, type := 0, pos := "pool.go:76", after := #[], guard := none }) (v := ?_) rfl (by kernel_rfl) (by kernel_rfl) (by kernel_rfl) (fun _ _ _ h => h) (Or.inl ⟨by rfl, ?_⟩) (by assumption) ?_
    rotate_left
    · (intro w hSw; (try dsimp only at hSw); go_simp; try with_reducible rfl)
    try simp only [Act.put, List.setIfInBounds_toArray, List.set_cons_zero, List.set_cons_succ]
    refine wpAnyH_take (i := 5) (oi := { dst := some 58, op := Op.load 3 (Operand.tmp 57), type := 3, pos := "pool.go:76", after := #[{ on := 4, ground := Ground.data }], guard := none }) (v := ?_) rfl (by kernel_rfl) (by kernel_rfl) (by kernel_rfl) (fun _ _ _ h => h) (Or.inl ⟨by rfl, ?_⟩) (by assumption) ?_
    rotate_left
    · (intro w hSw; (try dsimp only at hSw); go_simp; try with_reducible rfl)
    try simp only [Act.put, List.setIfInBounds_toArray, List.set_cons_zero, List.set_cons_succ]
    refine wpAnyH_take (i := 6) (oi := { dst := some 59, op := Op.move (Operand.tmp 13), type := 71, pos := "pool.go:76", after := #[], guard := none }) (v := ?_) rfl (by kernel_rfl) (by kernel_rfl) (by kernel_rfl) (fun _ _ _ h => h) (Or.inl ⟨by rfl, ?_⟩) (by assumption) ?_
    rotate_left
    · (intro w hSw; (try dsimp only at hSw); go_simp; try with_reducible rfl)
    try simp only [Act.put, List.setIfInBounds_toArray, List.set_cons_zero, List.set_cons_succ]
    refine wpAnyH_ready (rs := [7]) (by kernel_rfl) (by simp) ?_
    refine AllReadyH.cons (o := { dst := none, op := Op.mapUpdate 59 (Operand.tmp 56) (Operand.tmp 58) (Operand.tmp 59), type := 0, pos := "pool.go:76", after := #[{ on := 3, ground := Ground.data }, { on := 5, ground := Ground.data }, { on := 6, ground := Ground.data }, { on := 0, ground := Ground.phase }, { on := 1, ground := Ground.phase }, { on := 2, ground := Ground.phase }, { on := 3, ground := Ground.phase }, { on := 4, ground := Ground.phase }, { on := 5, ground := Ground.phase }, { on := 6, ground := Ground.phase }], guard := none }) rfl (fun K hK => ?_) AllReadyH.nil
    refine oper_put _ _ _ rfl HD3.out hTlen rfl a (by omega) rfl B rfl ?_
    intro w6 hown6 hturn6
    have hc6 : w6.cell? ⟨pb, 3, none⟩ = some (.map (some mb)) := (World.cell?_of_block (w := w5.drew) ((Chg.turned hturn6).block pb (block_lt_of_cell hc33) hpm)).trans hc33
    have hE6 : w6.cell? ⟨eb, 0, none⟩ = some (.int .i64 (a : Int)) := (World.cell?_of_block (w := w5.drew) ((Chg.turned hturn6).block eb (block_lt_of_cell hE3) hem)).trans hE3
    have Hown6 := Lib.hid hown6
    have Hturn6 := Lib.hid hturn6
    clear hown6 hturn6
    refine hK.out _ _ ?_ (fun hHeld => ?_)
    · exact ⟨hc6, hE6⟩
    clear hK K
    try simp only [Act.put, List.setIfInBounds_toArray, List.set_cons_zero, List.set_cons_succ]
    refine wpAnyH_done (by kernel_rfl) ?_ _
    refine NoPanic.normal ?_
    clear hHeld hc6 hE6
    go_wp2_with fail
    go_ret2
    refine .inr ⟨T, ?_, .inl ⟨by rw [← HM.out]; omega, HT.out⟩⟩
    have hBv := HBs.out
    subst hBv
    exact laid hd (w1 := w2.drew) (w2 := w5.drew) (HpT.out.below (Below.refl _ _).drew) (HchT.out.drew) (hd.keep _ _ _ _ HdvT.out rfl rfl) HoT.out hdb' hdc1 hdc2 Hdat.out HdoT.out ha1 ha2 HST.out HlT.out Hn1T.out Hn2T.out (by rw [← Hw3.out]; rfl) HK.out HTi.out Hown6.out Hturn6.out
end Go.Proofs.Ytjilpkmcddinaaa
end
