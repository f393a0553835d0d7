/-
  Texts of a proof over the translated program: proved evaluators and walks, part 14 of 20.
-/
import Derived.Test.YtjilpkmcddinaaaPartA13
import Derived.ArgAppend
import Derived.Below
import Derived.Great.BuildSlice
import Derived.Ground.GgzProg
import Derived.Ground.SlgmProg
import Derived.Handy
import Derived.IntWalk
import Derived.Laws.BitsLemmas
import Derived.Laws.CopyOwn
import Derived.Laws.CopyRow
import Derived.Laws.IdiomStrings
import Derived.Laws.MakeOwn
import Derived.Laws.Rows
import Derived.Lib.Hide
import Derived.Lib.SlKeysI
import Derived.LoopTactic
import Derived.MapKept
import Derived.Maps.Own
import Derived.Maps.OwnSet
import Derived.Maps.RangeWalk
import Derived.Maps.Views
import Derived.Orders
import Derived.OwnWalk
import Derived.Scope
import Derived.ScopeJumps
import Derived.Shelf.SlIterI.Nil
import Derived.Shelf.SlIterI.Sorted
import Derived.Shelf.SortM.Plain
import Derived.Shelf.SortM.SortNone
import Derived.Test.YtjilpkmcddinaaaProg
import Derived.WalkKit
import Derived.WalkMore
set_option linter.unusedVariables false
set_option linter.unusedSimpArgs false
set_option linter.unusedSectionVars false
set_option linter.unnecessarySimpa false
section
set_option maxRecDepth 100000
namespace Go.Proofs.Ytjilpkmcddinaaa
open Go.RowKit Go.Maps Go.ChangeMaps Go.MapKept Go.WideShapes
open Go.WideElems (Fit rd rg pl rd_val elemAt rd_key rg_of)
def vblk (v : Value) : List Nat := match v with | .slice (some a) _ _ => [a.block] | _ => []
structure Chg (w w' : World) (S : Nat → Prop) : Prop where
  os : w'.os = w.os
  tape : w'.tape = w.tape
  output : w'.output = w.output
  size : w.heap.size ≤ w'.heap.size
  block : ∀ b, b < w.heap.size → ¬ S b → w'.heap[b]? = w.heap[b]?
theorem Chg.refl (w : World) (S : Nat → Prop) : Chg w w S := ⟨rfl, rfl, rfl, Nat.le_refl _, fun _ _ _ => rfl⟩
theorem Chg.trans {w w1 w2 : World} {S : Nat → Prop} (h : Chg w w1 S) (h' : Chg w1 w2 S) : Chg w w2 S :=
  ⟨h'.os.trans h.os, h'.tape.trans h.tape, h'.output.trans h.output, Nat.le_trans h.size h'.size, fun b hb hs => (h'.block b (Nat.lt_of_lt_of_le hb h.size) hs).trans (h.block b hb hs)⟩
theorem Chg.trans' {w w1 w2 : World} {S S' : Nat → Prop} (h : Chg w w1 S) (h' : Chg w1 w2 S') (hs : ∀ b, b < w.heap.size → S' b → S b) : Chg w w2 S :=
  ⟨h'.os.trans h.os, h'.tape.trans h.tape, h'.output.trans h.output, Nat.le_trans h.size h'.size, fun b hb hn => (h'.block b (Nat.lt_of_lt_of_le hb h.size) (fun q => hn (hs b hb q))).trans (h.block b hb hn)⟩
theorem Chg.mono {w w' : World} {S S' : Nat → Prop} (h : Chg w w' S) (hs : ∀ b, S b → S' b) : Chg w w' S' := ⟨h.os, h.tape, h.output, h.size, fun b hb hn => h.block b hb (fun q => hn (hs b q))⟩
theorem Chg.drew {w w' : World} {S : Nat → Prop} (h : Chg w w' S) : Chg w w'.drew S := ⟨h.os, h.tape, h.output, h.size, h.block⟩
theorem Chg.below {w w' : World} (h : Below w.heap.size w w') (S : Nat → Prop) : Chg w w' S := ⟨h.os, h.tape, h.output, h.size, fun b hb _ => h.block b hb⟩
theorem Chg.alloc (w : World) (o : Obj) (S : Nat → Prop) : Chg w (w.alloc o) S := ⟨rfl, rfl, rfl, by simp, fun b hb _ => Below.heap_alloc w o b hb⟩
theorem Chg.grown {w w' : World} {v : Value} (h : w.grownBy w' v.ownBlock) : Chg w w' (· ∈ vblk v) := ⟨h.os, h.tape, h.output, h.size, fun b hb hn => h.block b hb (fun e => hn (by
  cases v <;> simp [Value.ownBlock] at e
  rename_i a _ _
  cases a <;> simp [Value.ownBlock] at e
  simp [vblk, e]))⟩
theorem Chg.setCell (w : World) (A : Addr) (u : Value) : Chg w (w.setCell A u) (· = A.block) := ⟨rfl, rfl, rfl, by simp [World.setCell], fun b _ hn => Below.heap_setCell w A u b hn⟩
theorem Chg.turned {w w' : World} {b : Nat} (h : w.mapTurned w' b) : Chg w w' (· = b) := ⟨h.grown.os, h.grown.tape, h.grown.output, h.grown.size, fun q hq hn => h.grown.block q hq (fun e => hn (Option.some.inj e))⟩
theorem own_stay {w w' : World} {e : TypeId} {size : Nat} {v : Value} {n : Nat} {xs : List Value} (h : w.ownsRow 0 e size v n xs) (hb : ∀ b ∈ vblk v, w'.heap[b]? = w.heap[b]?) : w'.ownsRow 0 e size v n xs := by
  refine ⟨h.1, ?_⟩
  rcases h.2 with q | ⟨g, cap, cur, rfl, q, hg, r⟩
  · exact .inl q
  · exact .inr ⟨g, cap, cur, rfl, q, (hb g (by simp [vblk])).trans hg, r⟩
def ptrR : Value → Option (DataW Unit × List MemPlace) := fun v => match v with
  | .pointer (some ⟨b, 0, none⟩) => some (.lit (.int .i64 (b : Nat)), [])
  | _ => none
theorem ptrR_some {v : Value} {y : DataW Unit × List MemPlace} (h : ptrR v = some y) : ∃ b, v = .pointer (some ⟨b, 0, none⟩) ∧ y = (.lit (.int .i64 (b : Nat)), []) := by
  unfold ptrR at h
  split at h
  · simp only [Option.some.injEq] at h
    exact ⟨_, rfl, h.symm⟩
  · cases h
structure Fr where
  a : Nat
  fb : Nat
  db : Nat
  dc : Nat
  pins : Nat
  tv : Value
  ts : List Nat
def i64v (n : Nat) : Value := .int .i64 (n : Int)
def Fr.blks (f : Fr) : List Nat := f.fb :: f.db :: vblk f.tv
structure FrI (w : World) (f : Fr) : Prop where
  here : w.heap[f.fb]? = some (.cells #[.slice (some ⟨f.db, 0, none⟩) 1 f.dc, .int .i64 (f.pins : Int), f.tv] 76 (0, 0))
  data : w.cell? ⟨f.db, 0, none⟩ = some (.int .u8 (f.a : Int))
  dc1 : 1 ≤ f.dc
  dc2 : f.dc ≤ maxLen
  tims : w.ownsRow 0 3 1 f.tv f.ts.length (f.ts.map i64v)
  lo : 2 ≤ f.a
  hi : f.a < 18
  n1 : f.fb ≠ f.db
  n2 : f.fb ∉ vblk f.tv
  n3 : f.db ∉ vblk f.tv
  ps : f.pins < 2 ^ 31
  tl : ∀ t ∈ f.ts, t < 2 ^ 31
  tn : f.ts.length ≤ 9
theorem FrI.stay {w w' : World} {f : Fr} (h : FrI w f) (hb : ∀ q ∈ f.blks, w'.heap[q]? = w.heap[q]?) : FrI w' f where
  here := (hb _ (by simp [Fr.blks])).trans h.here
  data := (World.cell?_of_block (w := w) (hb _ (by simp [Fr.blks]))).trans h.data
  dc1 := h.dc1
  dc2 := h.dc2
  tims := own_stay h.tims fun b hb' => hb b (by simp [Fr.blks, hb'])
  lo := h.lo
  hi := h.hi
  n1 := h.n1
  n2 := h.n2
  n3 := h.n3
  ps := h.ps
  tl := h.tl
  tn := h.tn
theorem FrI.lt {w : World} {f : Fr} (h : FrI w f) : ∀ q ∈ f.blks, q < w.heap.size := by
  intro q hq
  simp only [Fr.blks, List.mem_cons] at hq
  rcases hq with rfl | rfl | hq
  · exact (Array.getElem?_eq_some_iff.1 h.here).1
  · exact block_lt_of_cell h.data
  · rcases h.tims.2 with ⟨e, _⟩ | ⟨g, cap, cur, e, _, hg, _⟩
    · rw [e] at hq; simp [vblk] at hq
    · rw [e] at hq
      simp only [vblk, List.mem_cons, List.not_mem_nil, or_false] at hq
      subst hq
      exact (Array.getElem?_eq_some_iff.1 hg).1
structure KR (D : DataW Unit) (S : List Fr) : Prop where
  has' : ∀ a : Nat, has D (.int .i64 (a : Int)) = S.any (fun f => f.a == a)
  atk : ∀ f ∈ S, ∀ z, D.atKey (.int .i64 (f.a : Int)) z = .lit (.int .i64 (f.fb : Nat))
  size : size D = S.length
  keys : ∀ kl, has D kl = true → ∃ f ∈ S, kl = .int .i64 (f.a : Int)
structure PoolI (w : World) (pb mb fr k now : Nat) (S : List Fr) : Prop where
  here : w.heap[pb]? = some (.cells #[.int .i64 (fr : Int), .int .i64 (k : Int), .int .i64 (now : Int), .map (some mb)] 61 (0, 0))
  map : ∃ D, w.ownsMap Try.prog 3 ptrR mb S.length D ∧ KR D S
  frs : ∀ f ∈ S, FrI w f
  apart : S.Pairwise (fun f g => f.a ≠ g.a ∧ ∀ q ∈ f.blks, q ∉ g.blks)
  np : ∀ f ∈ S, pb ∉ f.blks ∧ mb ∉ f.blks
  pm : pb ≠ mb
  k1 : 1 ≤ k
  k8 : k ≤ 8
  f1 : 1 ≤ fr
  f2 : fr ≤ 256
  nn : now < 2 ^ 31
  le : S.length ≤ fr
def Own (pb mb : Nat) (S : List Fr) (q : Nat) : Prop := q = pb ∨ q = mb ∨ ∃ f ∈ S, q ∈ f.blks
theorem owns_at {w w' : World} {P : Program} {k : TypeId} {R : Value → Option (DataW Unit × List MemPlace)} {b n : Nat} {D : DataW Unit} (h : w.ownsMap P k R b n D) (e : w'.heap[b]? = w.heap[b]?) : w'.ownsMap P k R b n D := by
  obtain ⟨es, cl, hb, r⟩ := h
  exact ⟨es, cl, e.trans hb, r⟩
theorem owns_fit {w : World} {P : Program} {k : TypeId} {R : Value → Option (DataW Unit × List MemPlace)} {b n : Nat} {D : DataW Unit} (h : w.ownsMap P k R b n D) : w.ownsMap P k R b (size D) D := by
  obtain ⟨es, cl, hb, F, hs, rfl⟩ := h
  refine ⟨es, cl, hb, F, ?_, rfl⟩
  simp [Maps.size, length_sorted]
theorem owns_lt {w : World} {P : Program} {k : TypeId} {R : Value → Option (DataW Unit × List MemPlace)} {b n : Nat} {D : DataW Unit} (h : w.ownsMap P k R b n D) : b < w.heap.size := by
  obtain ⟨es, cl, hb, _⟩ := h
  exact (Array.getElem?_eq_some_iff.1 hb).1
theorem PoolI.lt {w : World} {pb mb fr k now : Nat} {S : List Fr} (h : PoolI w pb mb fr k now S) : ∀ q, Own pb mb S q → q < w.heap.size := by
  rintro q (rfl | rfl | ⟨f, hf, hq⟩)
  · exact (Array.getElem?_eq_some_iff.1 h.here).1
  · obtain ⟨D, hD, _⟩ := h.map
    exact owns_lt hD
  · exact (h.frs f hf).lt q hq
theorem PoolI.stay {w w' : World} {pb mb fr k now : Nat} {S : List Fr} (h : PoolI w pb mb fr k now S) (hb : ∀ q, Own pb mb S q → w'.heap[q]? = w.heap[q]?) : PoolI w' pb mb fr k now S where
  here := (hb _ (.inl rfl)).trans h.here
  map := by
    obtain ⟨D, hD, hK⟩ := h.map
    exact ⟨D, owns_at hD (hb _ (.inr (.inl rfl))), hK⟩
  frs := fun f hf => (h.frs f hf).stay fun q hq => hb q (.inr (.inr ⟨f, hf, hq⟩))
  apart := h.apart
  np := h.np
  pm := h.pm
  k1 := h.k1
  k8 := h.k8
  f1 := h.f1
  f2 := h.f2
  nn := h.nn
  le := h.le
theorem PoolI.below {w w' : World} {pb mb fr k now : Nat} {S : List Fr} (h : PoolI w pb mb fr k now S) (hb : Below w.heap.size w w') : PoolI w' pb mb fr k now S := h.stay fun q hq => hb.block q (h.lt q hq)
theorem KR.perm {D : DataW Unit} {S T : List Fr} (h : KR D S) (p : S.Perm T) : KR D T where
  has' := fun a => by rw [h.has' a]; exact p.any_eq
  atk := fun f hf => h.atk f (p.mem_iff.2 hf)
  size := by rw [h.size]; exact p.length_eq
  keys := fun kl hk => by obtain ⟨f, hf, e⟩ := h.keys kl hk; exact ⟨f, p.mem_iff.1 hf, e⟩
theorem PoolI.perm {w : World} {pb mb fr k now : Nat} {S T : List Fr} (h : PoolI w pb mb fr k now S) (p : S.Perm T) : PoolI w pb mb fr k now T where
  here := h.here
  map := by
    obtain ⟨D, hD, hK⟩ := h.map
    exact ⟨D, by rw [← p.length_eq]; exact hD, hK.perm p⟩
  frs := fun f hf => h.frs f (p.mem_iff.2 hf)
  apart := (p.pairwise_iff (fun {f g} hh => ⟨hh.1.symm, fun q h1 h2 => hh.2 q h2 h1⟩)).1 h.apart
  np := fun f hf => h.np f (p.mem_iff.2 hf)
  pm := h.pm
  k1 := h.k1
  k8 := h.k8
  f1 := h.f1
  f2 := h.f2
  nn := h.nn
  le := by rw [← p.length_eq]; exact h.le
theorem Own.perm {pb mb : Nat} {S T : List Fr} (p : S.Perm T) {q : Nat} (h : Own pb mb S q) : Own pb mb T q := by
  rcases h with h | h | ⟨f, hf, hq⟩
  · exact .inl h
  · exact .inr (.inl h)
  · exact .inr (.inr ⟨f, p.mem_iff.1 hf, hq⟩)
theorem key_ok (a : Nat) (h : a < 2 ^ 31) : keyOf Try.prog 3 (.int .i64 (a : Int)) = some (.int .i64 (a : Int)) := keyOf_int_mk Try.underlying3 (by simp [Lit.wf, IntKind.min, IntKind.max, IntKind.signed, IntKind.bits]; omega)
theorem PoolI.upd {w w' : World} {pb mb fr k now now' : Nat} {f f' : Fr} {S : List Fr} (h : PoolI w pb mb fr k now (f :: S))
    (hp : w'.heap[pb]? = some (.cells #[.int .i64 (fr : Int), .int .i64 (k : Int), .int .i64 (now' : Int), .map (some mb)] 61 (0, 0))) (hm : w'.heap[mb]? = w.heap[mb]?)
    (hS : ∀ g ∈ S, ∀ q ∈ g.blks, w'.heap[q]? = w.heap[q]?) (hf : FrI w' f') (ha : f'.a = f.a) (hfb : f'.fb = f.fb) (hbl : ∀ q ∈ f'.blks, q ∈ f.blks ∨ w.heap.size ≤ q) (hn : now' < 2 ^ 31) :
    PoolI w' pb mb fr k now' (f' :: S) where
  here := hp
  map := by
    obtain ⟨D, hD, hK⟩ := h.map
    refine ⟨D, owns_at hD hm, ?_, ?_, ?_, ?_⟩
    · intro a
      rw [hK.has' a, List.any_cons, List.any_cons, ha]
    · intro g hg z
      rcases List.mem_cons.1 hg with rfl | hg
      · rw [ha, hfb]; exact hK.atk f (by simp) z
      · exact hK.atk g (by simp [hg]) z
    · rw [hK.size]; rfl
    · intro kl hk
      obtain ⟨g, hg, e⟩ := hK.keys kl hk
      rcases List.mem_cons.1 hg with rfl | hg
      · exact ⟨f', by simp, by rw [ha]; exact e⟩
      · exact ⟨g, by simp [hg], e⟩
  frs := fun g hg => by
    rcases List.mem_cons.1 hg with rfl | hg
    · exact hf
    · exact (h.frs g (by simp [hg])).stay (hS g hg)
  apart := by
    have h1 := List.pairwise_cons.1 h.apart
    refine List.pairwise_cons.2 ⟨fun g hg => ⟨by rw [ha]; exact (h1.1 g hg).1, fun q hq hq' => ?_⟩, h1.2⟩
    rcases hbl q hq with q1 | q1
    · exact (h1.1 g hg).2 q q1 hq'
    · exact Nat.not_lt.2 q1 ((h.frs g (by simp [hg])).lt q hq')
  np := fun g hg => by
    rcases List.mem_cons.1 hg with rfl | hg
    · have hn := h.np f (by simp)
      have lp := h.lt pb (.inl rfl)
      have lm := h.lt mb (.inr (.inl rfl))
      refine ⟨fun hq => ?_, fun hq => ?_⟩
      · rcases hbl _ hq with q1 | q1
        · exact hn.1 q1
        · omega
      · rcases hbl _ hq with q1 | q1
        · exact hn.2 q1
        · omega
    · exact h.np g (by simp [hg])
  pm := h.pm
  k1 := h.k1
  k8 := h.k8
  f1 := h.f1
  f2 := h.f2
  nn := hn
  le := h.le
end Go.Proofs.Ytjilpkmcddinaaa
end
