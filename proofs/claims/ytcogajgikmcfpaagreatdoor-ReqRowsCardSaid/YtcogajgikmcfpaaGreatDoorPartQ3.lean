/-
  Texts of a proof over the translated program: proved evaluators and walks, part 3 of 20.
-/
import Derived.Test.YtcogajgikmcfpaaGreatDoorPartQ2
import Derived.Below
import Derived.Deep.Draws
import Derived.Handy
import Derived.Laws.AppendOwn
import Derived.Laws.OwnMore
import Derived.Laws.Rows
import Derived.Lib.Hide
import Derived.OwnWalk
import Derived.ScopeJumps
import Derived.WalkKit
import Derived.Laws.CopyRow
set_option linter.unusedVariables false
set_option linter.unusedSimpArgs false
set_option linter.unusedSectionVars false
set_option linter.unnecessarySimpa false
section
namespace Go.NR
open Go.RowKit
theorem wp_scope_once {P : Program} {c R : Code} {a : Act} {w : World} {Q : Exit → Act → World → Prop} (l : Nat) (J : Act → World → Prop) (μ : Act → World → Nat) (hf : findLabel c l = some (Code.skip.seq R))
    (first : (∀ a w, J a w → R.wp P (Exit.jump l J Q) a w) → c.wp P (Exit.jump l J Q) a w) (pass : ∀ a w, J a w → R.wp P (Exit.jump l (fun a' w' => J a' w' ∧ μ a' w' < μ a w) Q) a w) : (Code.scope c).wp P Q a w := by
  refine wp_scope_jumps l J μ hf (first fun a' w' h => ?_) (fun a w h => wp_seq (wp_skip (pass a w h)))
  refine Code.wp_mono ?_ (pass a' w' h)
  intro e a2 w2 h2
  cases e <;> first | exact h2 | exact ⟨h2.1, h2.2.1⟩
structure Chg (w w' : World) (S : Nat → Prop) : Prop where
  os : w'.os = w.os
  tape : w'.tape = w.tape
  output : w'.output = w.output
  size : w.heap.size ≤ w'.heap.size
  block : ∀ b, b < w.heap.size → ¬ S b → w'.heap[b]? = w.heap[b]?
theorem Chg.refl (w : World) (S : Nat → Prop) : Chg w w S := ⟨rfl, rfl, rfl, Nat.le_refl _, fun _ _ _ => rfl⟩
theorem Chg.trans {w w1 w2 : World} {S : Nat → Prop} (h : Chg w w1 S) (h' : Chg w1 w2 S) : Chg w w2 S :=
  ⟨h'.os.trans h.os, h'.tape.trans h.tape, h'.output.trans h.output, Nat.le_trans h.size h'.size, fun b hb hs => (h'.block b (Nat.lt_of_lt_of_le hb h.size) hs).trans (h.block b hb hs)⟩
theorem Chg.trans' {w w1 w2 : World} {S S' : Nat → Prop} (h : Chg w w1 S) (h' : Chg w1 w2 S') (hs : ∀ b, b < w.heap.size → S' b → S b) : Chg w w2 S :=
  ⟨h'.os.trans h.os, h'.tape.trans h.tape, h'.output.trans h.output, Nat.le_trans h.size h'.size, fun b hb hn => (h'.block b (Nat.lt_of_lt_of_le hb h.size) (fun q => hn (hs b hb q))).trans (h.block b hb hn)⟩
theorem Chg.mono {w w' : World} {S S' : Nat → Prop} (h : Chg w w' S) (hs : ∀ b, S b → S' b) : Chg w w' S' := ⟨h.os, h.tape, h.output, h.size, fun b hb hn => h.block b hb (fun q => hn (hs b q))⟩
theorem Chg.drew {w w' : World} {S : Nat → Prop} (h : Chg w w' S) : Chg w w'.drew S := ⟨h.os, h.tape, h.output, h.size, h.block⟩
theorem Chg.drewN {w w' : World} {S : Nat → Prop} (h : Chg w w' S) (n : Nat) : Chg w (w'.drewN n) S := ⟨h.os, h.tape, h.output, h.size, h.block⟩
theorem Chg.below {w w' : World} (h : Below w.heap.size w w') (S : Nat → Prop) : Chg w w' S := ⟨h.os, h.tape, h.output, h.size, fun b hb _ => h.block b hb⟩
theorem Chg.call {w w1 w2 : World} {S : Nat → Prop} (h : Chg w w1 S) (hb : Below w1.heap.size w1 w2) : Chg w w2 S := h.trans (Chg.below hb S)
theorem Chg.alloc (w : World) (o : Obj) (S : Nat → Prop) : Chg w (w.alloc o) S := ⟨rfl, rfl, rfl, by simp, fun b hb _ => Below.heap_alloc w o b hb⟩
theorem Chg.alloc' {w w1 : World} {S : Nat → Prop} (h : Chg w w1 S) (o : Obj) : Chg w (w1.alloc o) S := h.trans (Chg.alloc w1 o S)
theorem Chg.setCell (w : World) (A : Addr) (u : Value) : Chg w (w.setCell A u) (· = A.block) := ⟨rfl, rfl, rfl, by simp [World.setCell], fun b _ hn => Below.heap_setCell w A u b hn⟩
theorem Chg.isBelow {w w' : World} {S : Nat → Prop} {B : Nat} (h : Chg w w' S) (hB : B ≤ w.heap.size) (hs : ∀ b, b < B → ¬ S b) : Below B w w' := ⟨h.os, h.tape, h.output, h.size, fun b hb => h.block b (Nat.lt_of_lt_of_le hb hB) (hs b hb)⟩
theorem Chg.setRow {w w1 : World} {S : Nat → Prop} (h : Chg w w1 S) (g : Nat) (cs : Array Value) (hg : g < w.heap.size → S g) : Chg w (w1.setRow g cs) S :=
  ⟨h.os, h.tape, h.output, by have := h.size; simpa [World.setRow] using this, fun b hb hn => by
    have hne : b ≠ g := fun e => hn (e ▸ hg (e ▸ hb))
    have : (w1.setRow g cs).heap[b]? = w1.heap[b]? := by
      unfold World.setRow
      simp [Array.getElem?_modify, Ne.symm hne]
    exact this.trans (h.block b hb hn)⟩
theorem Chg.set {w w1 : World} {S : Nat → Prop} (h : Chg w w1 S) (A : Addr) (u : Value) (hg : A.block < w.heap.size → S A.block) : Chg w (w1.setCell A u) S :=
  h.trans' (Chg.setCell w1 A u) fun b hb e => by have e : b = A.block := e; subst e; exact hg hb
theorem Chg.grown {w w1 w2 : World} {S : Nat → Prop} {r : Option Nat} (h : Chg w w1 S) (hg : w1.grownBy w2 r) (hr : ∀ k, r = some k → k < w.heap.size → S k) : Chg w w2 S :=
  ⟨hg.os.trans h.os, hg.tape.trans h.tape, hg.output.trans h.output, Nat.le_trans h.size hg.size, fun b hb hn => (hg.block b (Nat.lt_of_lt_of_le hb h.size) fun e => hn (hr b e.symm hb)).trans (h.block b hb hn)⟩
theorem setRow_here (w : World) (g : Nat) (cs cur : Array Value) (e : Nat) (h : w.heap[g]? = some (.cells cur e (0, 0))) : (w.setRow g cs).heap[g]? = some (.cells cs e (0, 0)) := setRow_heap w g cur _ e _ h
theorem setRow_else (w : World) (g : Nat) (cs : Array Value) (k : Nat) (h : k ≠ g) : (w.setRow g cs).heap[k]? = w.heap[k]? := by
  unfold World.setRow
  simp [Array.getElem?_modify, Ne.symm h]
theorem setRow_size (w : World) (g : Nat) (cs : Array Value) : (w.setRow g cs).heap.size = w.heap.size := by simp [World.setRow]
theorem heap_lt {w : World} {b : Nat} {o : Obj} (h : w.heap[b]? = some o) : b < w.heap.size := (Array.getElem?_eq_some_iff.1 h).1
theorem own_stay {w w' : World} {B : Nat} {e : TypeId} {size : Nat} {v : Value} {n : Nat} {xs : List Value} (h : w.ownsRow B e size v n xs) (hb : ∀ k, v.ownBlock = some k → w'.heap[k]? = w.heap[k]?) : w'.ownsRow B e size v n xs := by
  refine ⟨h.1, ?_⟩
  rcases h.2 with q | ⟨g, cap, cur, rfl, q, hg, r⟩
  · exact .inl q
  · exact .inr ⟨g, cap, cur, rfl, q, (hb g rfl).trans hg, r⟩
theorem own_below {w w' : World} {B : Nat} {e : TypeId} {size : Nat} {v : Value} {n : Nat} {xs : List Value} (h : w.ownsRow B e size v n xs) (hb : Below w.heap.size w w') : w'.ownsRow B e size v n xs :=
  own_stay h fun k hk => hb.block k (h.lt k hk).2
theorem own_chg {w w' : World} {B : Nat} {e : TypeId} {size : Nat} {v : Value} {n : Nat} {xs : List Value} {S : Nat → Prop} (h : w.ownsRow B e size v n xs) (hc : Chg w w' S) (hs : ∀ k, v.ownBlock = some k → ¬ S k) : w'.ownsRow B e size v n xs :=
  own_stay h fun k hk => hc.block k (h.lt k hk).2 (hs k hk)
theorem own_mono {w : World} {B B' : Nat} {e : TypeId} {size : Nat} {v : Value} {n : Nat} {xs : List Value} (h : w.ownsRow B e size v n xs) (hb : B' ≤ B) : w.ownsRow B' e size v n xs := by
  refine ⟨h.1, ?_⟩
  rcases h.2 with q | ⟨g, cap, cur, rfl, q, r⟩
  · exact .inl q
  · exact .inr ⟨g, cap, cur, rfl, Nat.le_trans hb q, r⟩
structure Elems (P : Program) (T e : TypeId) (size bytes : Nat) (z : Value) : Prop where
  under : P.underlying T = some (.slice e)
  info : (P.info? e).map (fun i => (i.zero, i.size, i.bytes)) = some (some z, size, bytes)
  cells : z.cells.size = size
  pos : 0 < size
  small : bytes ≤ 4096
theorem wpList_app {P : Program} {T e : TypeId} {size bytes : Nat} {z : Value} (E : Elems P T e size bytes z) {ops : Array Oper} {rest : List Oper} {o : Oper} {a : Act} {w : World} {Q : Exit → Act → World → Prop} (hgd : o.guard = none) (s x : Operand)
    (ho : o.op = .call { callee := .builtin .append, args := #[s, x], argTypes := #[T, T] })
    (B : Nat) (v : Value) (n : Nat) (xs : List Value) (hs : a.eval s = v) (hown : w.ownsRow B e size v n xs)
    (g m c : Nat) (news : List Value) (hx : a.eval x = .slice (some ⟨g, 0, none⟩) m c) (hl : news.length = m * size) (hnews : ∀ j u, news[j]? = some u → w.cell? ⟨g, j, none⟩ = some u) (h1 : ∀ u ∈ news, u.oneCell' = true)
    (h63 : n + m ≤ 1073741824) (hbase : B ≤ w.heap.size)
    (h : ∀ v' w', w'.ownsRow B e size v' (n + m) (xs ++ news) → w.grownBy w' v.ownBlock → wpList P ops Q rest (a.put o.dst v') w') : wpList P ops Q (o :: rest) a w := by
  obtain ⟨i, hi, hq⟩ := Option.map_eq_some_iff.1 E.info
  simp only [Prod.mk.injEq] at hq
  obtain ⟨q1, q2, q3⟩ := hq
  refine wpList_append_own w hgd s x T ho B e i z size bytes E.under hi q1 q2 q3 E.cells E.pos v n xs hs hown ⟨g, 0, none⟩ m c news hx hl ?_ h1 (by unfold maxLen; omega) ?_ hbase fun v' w' h2 h3 _ => h v' w' h2 h3
  · intro j u hj
    have e : (⟨g, 0, none⟩ : Addr).add j = ⟨g, j, none⟩ := by unfold Addr.add; split <;> simp_all
    rw [e]
    exact hnews j u hj
  · have := E.small
    calc (n + m) * bytes ≤ 1073741824 * 4096 := Nat.mul_le_mul h63 this
      _ ≤ 140737488355328 := by decide
theorem append_where {P : Program} {T e : TypeId} {size bytes : Nat} {z : Value} (E : Elems P T e size bytes z) (ty : TypeId) (w : World) (B : Nat) (v : Value) (n : Nat) (xs : List Value) (hown : w.ownsRow B e size v n xs)
    (g m c : Nat) (news : List Value) (hl : news.length = m * size) (hnews : ∀ j u, news[j]? = some u → w.cell? ⟨g, j, none⟩ = some u) (h1 : ∀ u ∈ news, u.oneCell' = true)
    (h63 : n + m ≤ 1073741824) (hm : 0 < m) (v' : Value) (w' : World) (hr : (Builtin.append_ #[T, T] ty #[v, .slice (some ⟨g, 0, none⟩) m c]).run P w = .ok v' w') : ∀ k, v'.ownBlock = some k → v.ownBlock = some k ∨ w.heap.size ≤ k := by
  obtain ⟨i, hi, hq⟩ := Option.map_eq_some_iff.1 E.info
  simp only [Prod.mk.injEq] at hq
  obtain ⟨q1, q2, q3⟩ := hq
  have hn' : ∀ j u, news[j]? = some u → w.cell? ((⟨g, 0, none⟩ : Addr).add j) = some u := by
    intro j u hj
    have e : (⟨g, 0, none⟩ : Addr).add j = ⟨g, j, none⟩ := by unfold Addr.add; split <;> simp_all
    rw [e]
    exact hnews j u hj
  have hsm := E.small
  rcases hown.2 with ⟨rfl, rfl⟩ | ⟨g', cap, cur, rfl, hbg, hg, hnc, hcm, hcs, htake⟩
  · have hnw := run_append_nil (P := P) w T ty e i z E.under hi q1 ⟨g, 0, none⟩ m c news (by rw [q2]; exact hl) hn' hm (by omega) (by
      rw [q3]
      calc m * bytes ≤ 1073741824 * 4096 := Nat.mul_le_mul (by omega) hsm
        _ ≤ 281474976710656 := by decide)
    rw [hnw] at hr
    simp only [Result.ok.injEq] at hr
    intro k hk
    rw [← hr.1] at hk
    simp [Value.ownBlock] at hk
    exact .inr (by omega)
  · by_cases hroom : n + m ≤ cap
    · have hf := run_append_room (P := P) w T ty e i E.under hi g' n cap cur hg ⟨g, 0, none⟩ m c news (by rw [q2]; exact hl) hn' h1 hroom (by rw [q2, hl, hcs, ← Nat.add_mul]; exact Nat.mul_le_mul_right _ hroom)
      rw [hf] at hr
      simp only [Result.ok.injEq] at hr
      intro k hk
      rw [← hr.1] at hk
      exact .inl hk
    · have holds : ∀ j u, xs[j]? = some u → w.cell? ((⟨g', 0, none⟩ : Addr).add j) = some u := hown.cells (g := g') rfl
      have hf := run_append_grow (P := P) w T ty e i z E.under hi q1 ⟨g', 0, none⟩ n cap xs (by rw [q2]; exact hown.1) holds ⟨g, 0, none⟩ m c news (by rw [q2]; exact hl) hn' (by omega) (by omega) (growslice_fits (by omega) (by
        rw [q3]
        calc (n + m) * bytes ≤ 1073741824 * 4096 := Nat.mul_le_mul h63 hsm
          _ ≤ 140737488355328 := by decide))
      rw [hf] at hr
      simp only [Result.ok.injEq] at hr
      intro k hk
      rw [← hr.1] at hk
      simp [Value.ownBlock] at hk
      exact .inr (by omega)
theorem oper_app {P : Program} {T e : TypeId} {size bytes : Nat} {z : Value} (E : Elems P T e size bytes z) {o : Oper} {a : Act} {w : World} {K : Act → World → Prop} {Q : Exit → Act → World → Prop} (s x : Operand)
    (ho : o.op = .call { callee := .builtin .append, args := #[s, x], argTypes := #[T, T] })
    (B : Nat) (v : Value) (n : Nat) (xs : List Value) (hs : a.eval s = v) (hown : w.ownsRow B e size v n xs)
    (g m c : Nat) (news : List Value) (hx : a.eval x = .slice (some ⟨g, 0, none⟩) m c) (hl : news.length = m * size) (hnews : ∀ j u, news[j]? = some u → w.cell? ⟨g, j, none⟩ = some u) (h1 : ∀ u ∈ news, u.oneCell' = true)
    (h63 : n + m ≤ 1073741824) (hm : 0 < m) (hbase : B ≤ w.heap.size)
    (h : ∀ v' w', w'.ownsRow B e size v' (n + m) (xs ++ news) → w.grownBy w' v.ownBlock → (∀ k, v'.ownBlock = some k → v.ownBlock = some k ∨ w.heap.size ≤ k) → K (a.put o.dst v') w') : o.wp P a w K Q := by
  obtain ⟨i, hi, hq⟩ := Option.map_eq_some_iff.1 E.info
  simp only [Prod.mk.injEq] at hq
  obtain ⟨q1, q2, q3⟩ := hq
  have hn' : ∀ j u, news[j]? = some u → w.cell? ((⟨g, 0, none⟩ : Addr).add j) = some u := by
    intro j u hj
    have e : (⟨g, 0, none⟩ : Addr).add j = ⟨g, j, none⟩ := by unfold Addr.add; split <;> simp_all
    rw [e]
    exact hnews j u hj
  have hsm := E.small
  obtain ⟨v', w', hr, h2, h3, _⟩ := run_append_own (P := P) w B T o.type e i z size bytes E.under hi q1 q2 q3 E.cells E.pos v n xs hown ⟨g, 0, none⟩ m c news hl hn' h1 (by unfold maxLen; omega) (by
    calc (n + m) * bytes ≤ 1073741824 * 4096 := Nat.mul_le_mul h63 hsm
      _ ≤ 140737488355328 := by decide) hbase
  have h4 := append_where E o.type w B v n xs hown g m c news hl hnews h1 h63 hm v' w' hr
  unfold Oper.wp execOp
  simp only [ho, resolve, invoke, builtin, Sem.run_bind, Sem.run_pure, Result.andThen_ok, List.map_toArray, List.map_cons, List.map_nil, hs, hx, hr]
  exact h v' w' h2 h3 h4
theorem own_at {w : World} {B : Nat} {e : TypeId} {size : Nat} {v : Value} {n : Nat} {xs : List Value} (h : w.ownsRow B e size v n xs) (hn : n ≠ 0) : ∃ g c, v = .slice (some ⟨g, 0, none⟩) n c ∧ B ≤ g ∧ g < w.heap.size ∧ n ≤ c ∧ c ≤ maxLen ∧ (∀ j, j < n * size → w.cell? ⟨g, j, none⟩ = xs[j]?) ∧ ∀ j, w.frozen? ⟨g, j, none⟩ = false := by
  rcases h.2 with ⟨_, q⟩ | ⟨g, cap, cur, rfl, q, hg, h1, h2, r⟩
  · exact absurd q hn
  · exact ⟨g, cap, rfl, q, heap_lt hg, h1, h2, fun j hj => h.cellAt j hj, fun j => h.frozenAt j⟩
theorem cell_of_block {w : World} {g : Nat} {cs : Array Value} {e : Nat} (h : w.heap[g]? = some (.cells cs e (0, 0))) (j : Nat) : w.cell? ⟨g, j, none⟩ = cs[j]? := cell_of_row w g j _ e _ h
theorem wrapi {x : Int} (h1 : -9223372036854775808 ≤ x) (h2 : x < 9223372036854775808) : IntKind.i64.wrap x = x := by rw [IntKind.wrap_i64]; omega
end Go.NR
end

section
namespace Go.FM
noncomputable section
inductive HV where
  | int (k : IntKind) (n : Int)
  | bool (b : Bool)
  | flt (k : FloatKind) (b : Nat)
  | cpx (k : FloatKind) (a b : Nat)
  | str (n d : Nat)
  | ptr (k off : Nat)
  | nilp | nili | nilf
  | fn (f : FuncId) (caps : List (Nat × Nat))
  | nils
  | slc (k o n es : Nat) (cl : Bool)
  | agg (cs : List HV)
  | tup (vs : List HV)
  | und
  | dead
  | md (k : IntKind) (m r : Nat)
  | ub
  | mp (k : Nat)
  | nilm
  | any
  | sy (k : IntKind) (i : Nat)
  | par (k : IntKind) (r : Nat)
  deriving Inhabited
structure ME where
  (key : Int) (val : HV) (born : Nat)
  deriving Inhabited
inductive HB where
  | no
  | cells (cs : List HV)
  | byt (n d : Nat)
  | map (es : List ME) (cl : Nat)
  deriving Inhabited
inductive HO where
  | no
  | own (pre : Nat) (b : HB)
  | sh (b : HB)
  deriving Inhabited
def HO.body (o : HO) : HB := HO.casesOn o .no (fun _ b => b) fun b => b
inductive HT where
  | nil
  | leaf (o : HO)
  | node (a b c d : HT)
  deriving Inhabited
structure Q (α : Type) where
  (a b c d : α)
abbrev F := Q (Q (Q (Q HV)))
abbrev L := List HV
structure S where
  f : F
  h : HT
  c : Nat
def sel4 {α : Type} (i : Nat) (a b c d : α) : α := Bool.rec (motive := fun _ => α) (Bool.rec (motive := fun _ => α) a b (Nat.ble 1 i)) (Bool.rec (motive := fun _ => α) c d (Nat.ble 3 i)) (Nat.ble 2 i)
def leafO (t : HT) : HO := HT.rec (motive := fun _ => HO) .no (fun o => o) (fun _ _ _ _ _ _ _ _ => .no) t
def kid (i : Nat) (t : HT) : HT := HT.rec (motive := fun _ => Nat → HT) (fun _ => .nil) (fun _ _ => .nil) (fun a b c d _ _ _ _ i => sel4 i a b c d) t i
def HT.get (n k : Nat) (t : HT) : HO := Nat.rec (motive := fun _ => Nat → HT → HO) (fun _ t => leafO t) (fun _ ih k t => ih (Nat.div k 4) (kid (Nat.mod k 4) t)) n k t
def setKid (i : Nat) (f : HT → HT) (t : HT) : HT :=
  HT.rec (motive := fun _ => Nat → (HT → HT) → HT) (fun i f => sel4 i (.node (f .nil) .nil .nil .nil) (.node .nil (f .nil) .nil .nil) (.node .nil .nil (f .nil) .nil) (.node .nil .nil .nil (f .nil)))
    (fun o _ _ => .leaf o) (fun a b c d _ _ _ _ i f => sel4 i (.node (f a) b c d) (.node a (f b) c d) (.node a b (f c) d) (.node a b c (f d))) t i f
def HT.set (n k : Nat) (o : HO) (t : HT) : HT := Nat.rec (motive := fun _ => Nat → HO → HT → HT) (fun _ o _ => .leaf o) (fun _ ih k o t => setKid (Nat.mod k 4) (ih (Nat.div k 4) o) t) n k o t
def hd (l : L) : HV := List.rec (motive := fun _ => HV) .dead (fun v _ _ => v) l
def tl (l : L) : L := List.rec (motive := fun _ => L) [] (fun _ r _ => r) l
def lget (n : Nat) (l : L) : HV := Nat.rec (motive := fun _ => L → HV) (fun l => hd l) (fun _ ih l => ih (tl l)) n l
def p8 (n : Nat) : Nat := Nat.pow 256 n
def bAt (d i : Nat) : Nat := Nat.mod (Nat.div d (p8 i)) 256
def bCut (d lo n : Nat) : Nat := Nat.mod (Nat.div d (p8 lo)) (p8 n)
def bLay (d lo m e : Nat) : Nat := Nat.add (Nat.add (Nat.mod d (p8 lo)) (Nat.mul e (p8 lo))) (Nat.mul (Nat.div d (p8 (Nat.add lo m))) (p8 (Nat.add lo m)))
def byteV (b : Nat) : HV := .int .u8 (.ofNat b)
def Q.get {α : Type} (i : Nat) (q : Q α) : α := sel4 i q.a q.b q.c q.d
def Q.upd {α : Type} (i : Nat) (f : α → α) (q : Q α) : Q α := Q.casesOn q fun a b c d => sel4 i ⟨f a, b, c, d⟩ ⟨a, f b, c, d⟩ ⟨a, b, f c, d⟩ ⟨a, b, c, f d⟩
def fget (r : Nat) (f : F) : HV := Q.get (r % 4) (Q.get (r / 4 % 4) (Q.get (r / 16 % 4) (Q.get (r / 64) f)))
def fset (r : Nat) (v : HV) (f : F) : F := Q.upd (r / 64) (Q.upd (r / 16 % 4) (Q.upd (r / 4 % 4) (Q.upd (r % 4) fun _ => v))) f
inductive G where
  | c (v : HV)
  | f (f : L → F → HV)
def G.ev (g : G) (t : L) (s : F) : HV := G.rec (motive := fun _ => L → F → HV) (fun v _ _ => v) (fun f t s => f t s) g t s
inductive P where
  | skip
  | loc
  | var (u : HV → F → F)
def selG {β : Type} (i : Nat) (k : (∀ {α : Type}, Q α → α) → β) : β := sel4 i (k fun {_} q => q.a) (k fun {_} q => q.b) (k fun {_} q => q.c) (k fun {_} q => q.d)
def updA {α : Type} (f : α → α) (q : Q α) : Q α := Q.casesOn q fun a b c d => ⟨f a, b, c, d⟩
def updB {α : Type} (f : α → α) (q : Q α) : Q α := Q.casesOn q fun a b c d => ⟨a, f b, c, d⟩
def updC {α : Type} (f : α → α) (q : Q α) : Q α := Q.casesOn q fun a b c d => ⟨a, b, f c, d⟩
def updD {α : Type} (f : α → α) (q : Q α) : Q α := Q.casesOn q fun a b c d => ⟨a, b, c, f d⟩
def selU {β : Type} (i : Nat) (k : (∀ {α : Type}, (α → α) → Q α → Q α) → β) : β := sel4 i (k updA) (k updB) (k updC) (k updD)
def gVar (r : Nat) : G := selG (Nat.div r 64) fun p0 => selG (Nat.mod (Nat.div r 16) 4) fun p1 => selG (Nat.mod (Nat.div r 4) 4) fun p2 => selG (Nat.mod r 4) fun p3 => .f fun _ s => p3 (p2 (p1 (p0 s)))
def pVar (r : Nat) : P := selU (Nat.div r 64) fun u0 => selU (Nat.mod (Nat.div r 16) 4) fun u1 => selU (Nat.mod (Nat.div r 4) 4) fun u2 => selU (Nat.mod r 4) fun u3 => .var fun v s => u0 (u1 (u2 (u3 fun _ => v))) s
def packB : List UInt8 → Nat
  | [] => 0
  | b :: r => b.toNat + 256 * packB r
def constHV : Value → HV
  | .bool b => .bool b
  | .int k n => .int k n
  | .float k b => .flt k b
  | .complex k a b => .cpx k a b
  | .pointer none => .nilp
  | .nilIface => .nili
  | .nilFunc => .nilf
  | .string s => .str s.size (packB s.data.toList)
  | .slice none 0 0 => .nils
  | .map none => .nilm
  | _ => .dead
def HV.isCell : HV → Bool
  | .agg _ => false
  | .tup _ => false
  | .und => false
  | .dead => false
  | .any => false
  | _ => true
def constV : Value → HV
  | .agg cs => ((cs.toList.map constHV).all HV.isCell).casesOn .dead (.agg (cs.toList.map constHV))
  | v => constHV v
def HV.cells : HV → List HV
  | .agg cs => cs
  | v => [v]
def ikN (a : IntKind) : Nat := IntKind.rec (motive := fun _ => Nat) 0 1 2 3 4 5 6 7 a
def ikEq (a b : IntKind) : Bool := Nat.beq (ikN a) (ikN b)
def top (k : IntKind) : Nat := IntKind.rec (motive := fun _ => Nat) 127 32767 2147483647 9223372036854775807 255 65535 4294967295 18446744073709551615 k
def wrapN (k : IntKind) (n : Nat) : HV := (Nat.ble n (top k)).casesOn (.int k (k.wrap (.ofNat n))) (.int k (.ofNat n))
def wrapF (k : IntKind) (r : Int) : HV := Int.casesOn r (fun n => wrapN k n) fun n => .int k (k.wrap (.negSucc n))
def int2b (y : HV) : IntKind → Int → (IntKind → Int → Int → HV) → HV :=
  HV.rec (motive_1 := fun _ => IntKind → Int → (IntKind → Int → Int → HV) → HV) (motive_2 := fun _ => Unit)
    (fun k' b k a f => (ikEq k k').casesOn .dead (f k a b)) (fun _ _ _ _ => .dead) (fun _ _ _ _ _ => .dead) (fun _ _ _ _ _ _ => .dead) (fun _ _ _ _ _ => .dead) (fun _ _ _ _ _ => .dead) (fun _ _ _ => .dead) (fun _ _ _ => .dead) (fun _ _ _ => .dead) (fun _ _ _ _ _ => .dead) (fun _ _ _ => .dead) (fun _ _ _ _ _ _ _ _ => .dead) (fun _ _ _ _ _ => .dead) (fun _ _ _ _ _ => .dead) (fun _ _ _ => .dead) (fun _ _ _ => .dead) (fun _ _ _ _ _ _ => .dead) (fun _ _ _ => .dead) (fun _ _ _ _ => .dead) (fun _ _ _ => .dead) (fun _ _ _ => .dead) (fun _ _ _ _ _ => .dead) (fun _ _ _ _ _ => .dead) () (fun _ _ _ _ => ()) y
def int2 (f : IntKind → Int → Int → HV) (x y : HV) : HV :=
  HV.rec (motive_1 := fun _ => HV → (IntKind → Int → Int → HV) → HV) (motive_2 := fun _ => Unit)
    (fun k a y f => int2b y k a f) (fun _ _ _ => .dead) (fun _ _ _ _ => .dead) (fun _ _ _ _ _ => .dead) (fun _ _ _ _ => .dead) (fun _ _ _ _ => .dead) (fun _ _ => .dead) (fun _ _ => .dead) (fun _ _ => .dead) (fun _ _ _ _ => .dead) (fun _ _ => .dead) (fun _ _ _ _ _ _ _ => .dead) (fun _ _ _ _ => .dead) (fun _ _ _ _ => .dead) (fun _ _ => .dead) (fun _ _ => .dead) (fun _ _ _ _ _ => .dead) (fun _ _ => .dead) (fun _ _ _ => .dead) (fun _ _ => .dead) (fun _ _ => .dead) (fun _ _ _ _ => .dead) (fun _ _ _ _ => .dead) () (fun _ _ _ _ => ()) x y f
def nat2 (f : IntKind → Nat → Nat → HV) (g : IntKind → Int → Int → HV) (k : IntKind) (a b : Int) : HV :=
  Int.casesOn a (fun m => Int.casesOn b (fun n => f k m n) fun _ => g k a b) fun _ => g k a b
def subN (k : IntKind) (m n : Nat) : HV := (Nat.ble n m).casesOn (.int k (k.wrap (Int.sub (.ofNat m) (.ofNat n)))) (wrapN k (Nat.sub m n))
def andI (k : IntKind) (a b : Int) : Int := k.wrap (BitVec.ofInt k.bits a &&& BitVec.ofInt k.bits b).toNat
def orI (k : IntKind) (a b : Int) : Int := k.wrap (BitVec.ofInt k.bits a ||| BitVec.ofInt k.bits b).toNat
def xorI (k : IntKind) (a b : Int) : Int := k.wrap (BitVec.ofInt k.bits a ^^^ BitVec.ofInt k.bits b).toNat
def andNotI (k : IntKind) (a b : Int) : Int := k.wrap (BitVec.ofInt k.bits a &&& ~~~BitVec.ofInt k.bits b).toNat
inductive F1 where
  | f (f : HV → HV)
  | no
inductive F2 where
  | f (f : HV → HV → HV)
  | no
def fAdd : HV → HV → HV := int2 (nat2 (fun k m n => wrapN k (Nat.add m n)) fun k a b => .int k (k.wrap (a + b)))
def fSub : HV → HV → HV := int2 (nat2 subN fun k a b => .int k (k.wrap (a - b)))
def fMul : HV → HV → HV := int2 (nat2 (fun k m n => wrapN k (Nat.mul m n)) fun k a b => .int k (k.wrap (a * b)))
def fQuo : HV → HV → HV := int2 (nat2 (fun k m n => (Nat.beq n 0).casesOn (wrapN k (Nat.div m n)) .dead) fun k a b => if b = 0 then .dead else .int k (k.wrap (a.tdiv b)))
def fRem : HV → HV → HV := int2 (nat2 (fun k m n => (Nat.beq n 0).casesOn (.int k (.ofNat (Nat.mod m n))) .dead) fun k a b => if b = 0 then .dead else .int k (a.tmod b))
def fAnd : HV → HV → HV := int2 fun k a b => .int k (andI k a b)
def fOr : HV → HV → HV := int2 fun k a b => .int k (orI k a b)
def fXor : HV → HV → HV := int2 fun k a b => .int k (xorI k a b)
def fAndNot : HV → HV → HV := int2 fun k a b => .int k (andNotI k a b)
def fEql : HV → HV → HV := int2 (nat2 (fun _ m n => .bool (Nat.beq m n)) fun _ a b => .bool (a == b))
def fNeq : HV → HV → HV := int2 (nat2 (fun _ m n => .bool (Bool.not (Nat.beq m n))) fun _ a b => .bool (a != b))
def fLss : HV → HV → HV := int2 (nat2 (fun _ m n => .bool (Nat.blt m n)) fun _ a b => .bool (decide (a < b)))
def fLeq : HV → HV → HV := int2 (nat2 (fun _ m n => .bool (Nat.ble m n)) fun _ a b => .bool (decide (a ≤ b)))
def fGtr : HV → HV → HV := int2 (nat2 (fun _ m n => .bool (Nat.blt n m)) fun _ a b => .bool (decide (a > b)))
def fGeq : HV → HV → HV := int2 (nat2 (fun _ m n => .bool (Nat.ble n m)) fun _ a b => .bool (decide (a ≥ b)))
def intF (op : BinOp) : F2 := match op with
  | .add => .f fAdd | .sub => .f fSub | .mul => .f fMul | .quo => .f fQuo | .rem => .f fRem
  | .and => .f fAnd | .or => .f fOr | .xor => .f fXor | .andNot => .f fAndNot
  | .eql => .f fEql | .neq => .f fNeq | .lss => .f fLss | .leq => .f fLeq | .gtr => .f fGtr | .geq => .f fGeq
  | _ => .no
def shl (x y : HV) : HV := match x with
  | .int k a => match y with
    | .int _ b => if b < 0 then .dead else wrapF k (a * .ofNat (Nat.pow 2 (Nat.min b.toNat k.bits)))
    | _ => .dead
  | _ => .dead
def shr (x y : HV) : HV := match x with
  | .int k a => match y with
    | .int _ b => if b < 0 then .dead else match a with
      | .ofNat m => .int k (.ofNat (Nat.div m (Nat.pow 2 (Nat.min b.toNat k.bits))))
      | a => .int k (a.fdiv (2 ^ (min b.toNat k.bits)))
    | _ => .dead
  | _ => .dead
def remM (k : IntKind) (m r : Nat) (y : HV) : HV := match y with
  | .int k' (.ofNat b) => if ikEq k k' && !(Nat.beq b 0) && Nat.beq (Nat.mod m b) 0 then .int k (.ofNat (Nat.mod r b)) else .dead
  | _ => .dead
def andM (k : IntKind) (m r : Nat) (y : HV) : HV := match y with
  | .int k' (.ofNat b) => if ikEq k .u8 && ikEq k' .u8 && Nat.beq b 1 then (if Nat.beq (Nat.mod m 2) 0 then .int k (.ofNat (Nat.mod r 2)) else .md k 1 0) else .dead
  | _ => .dead
def eqlM (k : IntKind) (m r : Nat) (y : HV) : HV := match y with
  | .int k' (.ofNat b) => if ikEq k k' then (if Nat.beq (Nat.mod b m) r then .ub else .bool false) else .dead
  | _ => .dead
def shrM (k : IntKind) (m r : Nat) (y : HV) : HV := match y with
  | .int _ (.ofNat b) => if Nat.beq (Nat.mod m (Nat.pow 2 (Nat.min b k.bits))) 0 then .md k (Nat.div m (Nat.pow 2 (Nat.min b k.bits))) (Nat.div r (Nat.pow 2 (Nat.min b k.bits))) else .md k 1 0
  | _ => .dead
def mdW (q : IntKind → Nat → Nat → HV → HV) (f : HV → HV → HV) (x y : HV) : HV :=
  HV.rec (motive_1 := fun _ => (IntKind → Nat → Nat → HV → HV) → (HV → HV → HV) → HV → HV) (motive_2 := fun _ => Unit)
    (fun a0 a1 q f y => f (.int a0 a1) y)
    (fun a0 q f y => f (.bool a0) y)
    (fun a0 a1 q f y => f (.flt a0 a1) y)
    (fun a0 a1 a2 q f y => f (.cpx a0 a1 a2) y)
    (fun a0 a1 q f y => f (.str a0 a1) y)
    (fun a0 a1 q f y => f (.ptr a0 a1) y)
    (fun q f y => f (.nilp ) y)
    (fun q f y => f (.nili ) y)
    (fun q f y => f (.nilf ) y)
    (fun a0 a1 q f y => f (.fn a0 a1) y)
    (fun q f y => f (.nils ) y)
    (fun a0 a1 a2 a3 a4 q f y => f (.slc a0 a1 a2 a3 a4) y)
    (fun a0 a1 q f y => f (.agg a0) y)
    (fun a0 a1 q f y => f (.tup a0) y)
    (fun q f y => f (.und ) y)
    (fun q f y => f (.dead ) y)
    (fun k m r q f y => q k m r y)
    (fun q f y => f (.ub ) y)
    (fun a0 q f y => f (.mp a0) y)
    (fun q f y => f (.nilm ) y)
    (fun q f y => f (.any ) y)
    (fun a0 a1 q f y => f (.sy a0 a1) y)
    (fun a0 a1 q f y => f (.par a0 a1) y) () (fun _ _ _ _ => ()) x q f y
def syB (k : IntKind) (i : Nat) (y : HV) (q : Nat → Nat → Bool) : HV := match y with
  | .sy k' j => if ikEq k k' then .bool (q i j) else .dead
  | _ => .dead
def syW (q : Nat → Nat → Bool) (f : HV → HV → HV) (x y : HV) : HV :=
  HV.rec (motive_1 := fun _ => (Nat → Nat → Bool) → (HV → HV → HV) → HV → HV) (motive_2 := fun _ => Unit)
    (fun a0 a1 q f y => f (.int a0 a1) y)
    (fun a0 q f y => f (.bool a0) y)
    (fun a0 a1 q f y => f (.flt a0 a1) y)
    (fun a0 a1 a2 q f y => f (.cpx a0 a1 a2) y)
    (fun a0 a1 q f y => f (.str a0 a1) y)
    (fun a0 a1 q f y => f (.ptr a0 a1) y)
    (fun q f y => f (.nilp ) y)
    (fun q f y => f (.nili ) y)
    (fun q f y => f (.nilf ) y)
    (fun a0 a1 q f y => f (.fn a0 a1) y)
    (fun q f y => f (.nils ) y)
    (fun a0 a1 a2 a3 a4 q f y => f (.slc a0 a1 a2 a3 a4) y)
    (fun a0 a1 q f y => f (.agg a0) y)
    (fun a0 a1 q f y => f (.tup a0) y)
    (fun q f y => f (.und ) y)
    (fun q f y => f (.dead ) y)
    (fun a0 a1 a2 q f y => f (.md a0 a1 a2) y)
    (fun q f y => f (.ub ) y)
    (fun a0 q f y => f (.mp a0) y)
    (fun q f y => f (.nilm ) y)
    (fun q f y => f (.any ) y)
    (fun k i q f y => syB k i y q)
    (fun a0 a1 q f y => f (.par a0 a1) y) () (fun _ _ _ _ => ()) x q f y
def parB (k : IntKind) (r : Nat) (y : HV) : HV := match y with
  | .int k' (.ofNat b) => if ikEq k k' && Nat.beq b 1 then .int k (.ofNat r) else .dead
  | _ => .dead
def parW (f : HV → HV → HV) (x y : HV) : HV :=
  HV.rec (motive_1 := fun _ => (HV → HV → HV) → HV → HV) (motive_2 := fun _ => Unit)
    (fun a0 a1 f y => f (.int a0 a1) y)
    (fun a0 f y => f (.bool a0) y)
    (fun a0 a1 f y => f (.flt a0 a1) y)
    (fun a0 a1 a2 f y => f (.cpx a0 a1 a2) y)
    (fun a0 a1 f y => f (.str a0 a1) y)
    (fun a0 a1 f y => f (.ptr a0 a1) y)
    (fun f y => f (.nilp ) y)
    (fun f y => f (.nili ) y)
    (fun f y => f (.nilf ) y)
    (fun a0 a1 f y => f (.fn a0 a1) y)
    (fun f y => f (.nils ) y)
    (fun a0 a1 a2 a3 a4 f y => f (.slc a0 a1 a2 a3 a4) y)
    (fun a0 a1 f y => f (.agg a0) y)
    (fun a0 a1 f y => f (.tup a0) y)
    (fun f y => f (.und ) y)
    (fun f y => f (.dead ) y)
    (fun a0 a1 a2 f y => f (.md a0 a1 a2) y)
    (fun f y => f (.ub ) y)
    (fun a0 f y => f (.mp a0) y)
    (fun f y => f (.nilm ) y)
    (fun f y => f (.any ) y)
    (fun a0 a1 f y => f (.sy a0 a1) y)
    (fun k r f y => parB k r y) () (fun _ _ _ _ => ()) x f y
def mdF (op : BinOp) (q : F2) : F2 := match q with
  | .f f => match op with
    | .rem => .f (mdW remM f)
    | .and => .f (parW (mdW andM f))
    | .eql => .f (syW Nat.beq (mdW eqlM f))
    | .neq => .f (syW (fun i j => Bool.not (Nat.beq i j)) f)
    | .lss => .f (syW Nat.blt f)
    | .leq => .f (syW Nat.ble f)
    | .gtr => .f (syW (fun i j => Nat.blt j i) f)
    | .geq => .f (syW (fun i j => Nat.ble j i) f)
    | _ => .f f
  | .no => .no
def fltA (op : BinOp) (k : FloatKind) (a b : Nat) : Option Nat :=
  match op with
  | .add => k.format.add a b
  | .sub => k.format.sub a b
  | .mul => k.format.mul a b
  | .quo => k.format.div a b
  | _ => none
def fltV (op : BinOp) (k : FloatKind) (a b : Nat) : HV :=
  let c := k.format.order a b
  match op with
  | .add | .sub | .mul | .quo => match fltA op k a b with | some r => .flt k r | none => .dead
  | .eql => .bool (c == some .eq)
  | .neq => .bool (c != some .eq)
  | .lss => .bool (c == some .lt)
  | .leq => .bool (c == some .lt || c == some .eq)
  | .gtr => .bool (c == some .gt)
  | .geq => .bool (c == some .gt || c == some .eq)
  | _ => .dead
def fltF (op : BinOp) (x y : HV) : HV := match x, y with
  | .flt k a, .flt k' b => if k = k' then fltV op k a b else .dead
  | _, _ => .dead
def cpxV (op : BinOp) (k : FloatKind) (xr xi yr yi : Nat) : HV :=
  match op with
  | .add | .sub => match fltA op k xr yr, fltA op k xi yi with
    | some a, some b => .cpx k a b
    | _, _ => .dead
  | .mul => if k = .f64 then
      match fltA .mul k xr yr, fltA .mul k xi yi, fltA .mul k xr yi, fltA .mul k xi yr with
      | some ac, some bd, some ad, some bc => match fltA .sub k ac bd, fltA .add k ad bc with
        | some a, some b => .cpx k a b
        | _, _ => .dead
      | _, _, _, _ => .dead
    else .dead
  | .eql => .bool ((k.format.order xr yr == some .eq) && (k.format.order xi yi == some .eq))
  | .neq => .bool !((k.format.order xr yr == some .eq) && (k.format.order xi yi == some .eq))
  | _ => .dead
def cpxF (op : BinOp) (x y : HV) : HV := match x, y with
  | .cpx k a b, .cpx k' c d => if k = k' then cpxV op k a b c d else .dead
  | _, _ => .dead
def bLess : Nat → Nat → Nat → Nat → Nat → Bool
  | 0, _, _, _, _ => false
  | f + 1, n, d, m, e => match m with
    | 0 => false
    | m + 1 => match n with
      | 0 => true
      | n + 1 => if Nat.blt (Nat.mod d 256) (Nat.mod e 256) then true else if Nat.blt (Nat.mod e 256) (Nat.mod d 256) then false else bLess f n (Nat.div d 256) m (Nat.div e 256)
def sEq (n d m e : Nat) : Bool := (Nat.beq n m).casesOn false (Nat.beq d e)
def sLess (n d m e : Nat) : Bool := bLess (Nat.add n 1) n d m e
def strV (op : BinOp) (n d m e : Nat) : HV :=
  match op with
  | .add => if Nat.ble (Nat.add n m) 9223372036854775807 then .str (Nat.add n m) (Nat.add d (Nat.mul e (p8 n))) else .dead
  | .eql => .bool (sEq n d m e)
  | .neq => .bool (!(sEq n d m e))
  | .lss => .bool (sLess n d m e)
  | .leq => .bool (sLess n d m e || sEq n d m e)
  | .gtr => .bool (!(sLess n d m e || sEq n d m e))
  | .geq => .bool (!(sLess n d m e))
  | _ => .dead
def strF (op : BinOp) (x y : HV) : HV := match x with
  | .str n d => match y with
    | .str m e => strV op n d m e
    | _ => .dead
  | _ => .dead
def boolF (op : BinOp) (x y : HV) : HV := match x, y with
  | .bool a, .bool b => match op with
    | .eql => .bool (a == b)
    | .neq => .bool (!(a == b))
    | _ => .dead
  | _, _ => .dead
def nilP (x y : HV) : Option Bool := match x, y with
  | .nilp, .nilp => some true
  | .ptr _ _, .nilp => some false
  | .nilp, .ptr _ _ => some false
  | _, _ => none
def nilS (x y : HV) : Option Bool := match x, y with
  | .nils, .nils => some true
  | .slc _ _ _ _ _, .nils => some false
  | _, _ => none
def nilFn (x y : HV) : Option Bool := match x, y with
  | .nilf, .nilf => some true
  | .fn _ _, .nilf => some false
  | _, _ => none
def nilI (x y : HV) : Option Bool := match x, y with
  | .nili, .nili => some true
  | _, _ => none
def nilF (q : HV → HV → Option Bool) (op : BinOp) (x y : HV) : HV := match q x y with
  | some b => match op with
    | .eql => .bool b
    | .neq => .bool (!b)
    | _ => .dead
  | none => .dead
section
variable (Pr : Program)
def sizeT (t : TypeId) : Option Nat := (Pr.info? t).map (·.size)
def bytesT (t : TypeId) : Option Nat := (Pr.info? t).map (·.bytes)
def zeroT (t : TypeId) : HV := match (Pr.info? t).bind (·.zero) with
  | some v => constV v
  | none => .dead
def aggT (t : TypeId) : Option Bool := match Pr.underlying t with
  | some (.struct _) => some true
  | some (.array _ _) => some true
  | some _ => some false
  | none => none
def elemT (t : TypeId) : Option TypeId := match Pr.underlying t with
  | some (.slice e) => some e
  | _ => none
def isU8 (t : TypeId) : Bool := match Pr.underlying t with
  | some (.int .u8) => true
  | _ => false
def partV (agg : Bool) (n off : Nat) (cs : List HV) : HV :=
  agg.casesOn (lget off cs) (if Nat.ble (Nat.add off n) cs.length then .agg ((cs.drop off).take n) else .dead)
def eqFs (eq : TypeId → HV → HV → Option Bool) : List Field → List HV → List HV → Option Bool
  | [], _, _ => some true
  | f :: r, xs, ys =>
    if f.name = "_" then eqFs eq r xs ys else
    match sizeT Pr f.type, aggT Pr f.type with
    | some n, some b => match eq f.type (partV b n f.offset xs) (partV b n f.offset ys) with
      | some true => eqFs eq r xs ys
      | some false => some false
      | none => none
    | _, _ => none
def eqIn : Nat → TypeId → HV → HV → Option Bool
  | 0 => fun _ _ _ => none
  | d + 1 => fun t x y =>
    match Pr.underlying t, x, y with
    | some .bool, .bool a, .bool b => some (a == b)
    | some (.int _), .int k a, .int k' b => if k = k' then some (a == b) else none
    | some (.float _), .flt k a, .flt k' b => if k = k' then some (Op.floatEq k a b) else none
    | some (.complex _), .cpx k a b, .cpx k' a' b' => if k = k' then some (Op.floatEq k a a' && Op.floatEq k b b') else none
    | some .string, .str n a, .str m b => some (sEq n a m b)
    | some (.struct fields), .agg xs, .agg ys =>
      if Pr.stoodInHeld t then none else eqFs Pr (fun t x y => eqIn d t x y) fields.toList xs ys
    | _, _, _ => none
def aggF (op : BinOp) (t : TypeId) (x y : HV) : HV := match x, y with
  | .agg a, .agg b => if Pr.eqGuardType Pr.depth t then .dead else match op, eqIn Pr 10000 t (.agg a) (.agg b) with
    | .eql, some b => .bool b
    | .neq, some b => .bool (!b)
    | _, _ => .dead
  | _, _ => .dead
def binF (op : BinOp) (t : TypeId) : F2 := match op with
  | .shl => .f shl
  | .shr => .f (mdW shrM shr)
  | op => match Pr.underlying t with
    | some (.int _) => mdF op (intF op)
    | some .bool => .f (boolF op)
    | some (.float _) => .f (fltF op)
    | some (.complex _) => .f (cpxF op)
    | some .string => .f (strF op)
    | some (.pointer _) => .f (nilF nilP op)
    | some (.slice _) => .f (nilF nilS op)
    | some (.func _ _ _) => .f (nilF nilFn op)
    | some (.struct _) => .f (aggF Pr op t)
    | _ => .no
def isConstO : Operand → Bool
  | .const _ => true
  | _ => false
def binG (op : BinOp) (t : TypeId) (x y : Operand) : F2 := match Pr.underlying t with
  | some (.interface _) => if isConstO x || isConstO y then .f (nilF nilI op) else .no
  | _ => binF Pr op t
def unV (op : UnOp) (x : HV) : HV := match x with
  | .int k n => match op with
    | .neg => .int k (k.wrap (0 - n))
    | .xor => .int k (k.wrap (BitVec.ofInt k.bits (if k.signed then -1 else k.max) ^^^ BitVec.ofInt k.bits n).toNat)
    | _ => .dead
  | .flt k b => match op with | .neg => .flt k (Op.negFloat k b) | _ => .dead
  | .cpx k a b => match op with | .neg => .cpx k (Op.negFloat k a) (Op.negFloat k b) | _ => .dead
  | .bool b => match op with | .not => .bool (!b) | _ => .dead
  | _ => .dead
def toInt (k : IntKind) (x : HV) : HV := match x with
  | .int _ n => wrapF k n
  | .flt s b => match (s.decode b).toInt .zero with
    | some n => if k.min ≤ n ∧ n ≤ k.max then .int k n else .dead
    | none => .dead
  | .md k' m r => if Nat.ble (top k') (top k) then .md k m r else .dead
  | _ => .dead
def toFlt (k : FloatKind) (x : HV) : HV := match x with
  | .int _ n => .flt k (k.nearest n)
  | .flt s b => if s = k then .flt k b else .dead
  | _ => .dead
def idStr (x : HV) : HV := match x with
  | .str n d => .str n d
  | _ => .dead
inductive CR where
  | ok (v : HV) (h : HT) (c : Nat)
  | x (why : Nat)
variable (D : Nat)
def toStr (h : HT) (x : HV) : HV := match x with
  | .nils => .str 0 0
  | .slc k o n _ _ => match (HT.get D k h).body with
    | .byt m d => if Nat.ble (Nat.add o n) m then .str n (bCut d o n) else .dead
    | _ => .dead
  | _ => .dead
inductive H1 where
  | p (f : HV → HV)
  | f (f : HT → HV → HV)
  | no
def convF (src dst : TypeId) : H1 := match Pr.underlying src, Pr.underlying dst with
  | some _, some (.int k) => .p (toInt k)
  | some _, some (.float k) => .p (toFlt k)
  | some .string, some .string => .p idStr
  | some (.slice e), some .string => if isU8 Pr e then .f (toStr D) else .no
  | _, _ => .no
def loadO (agg : Bool) (n off : Nat) (o : HB) : HV := HB.casesOn o .dead (fun cs => partV agg n off cs)
  (fun m d => agg.casesOn ((Nat.blt off m).casesOn .dead (byteV (bAt d off))) .dead) fun _ _ => .dead
def load (agg : Bool) (n : Nat) (h : HT) (x : HV) : HV := match x with
  | .ptr k off => loadO agg n off (HT.get D k h).body
  | _ => .dead
def loadF (t : TypeId) : H1 := match sizeT Pr t, aggT Pr t with
  | some n, some b => .f (load D b n)
  | _, _ => .no
def layL (cs : List HV) (off : Nat) (ds : List HV) : Option (List HV) :=
  if Nat.ble (Nat.add off ds.length) cs.length then some (cs.take off ++ (ds ++ cs.drop (off + ds.length))) else none
def u8Of (v : HV) : Option Nat := match v with
  | .int k (.ofNat b) => if ikEq k .u8 && Nat.blt b 256 then some b else none
  | _ => none
def storeO (n off : Nat) (v : HV) (o : HB) : HB := match o with
  | .cells cs => if v.cells.length = n ∧ v.cells.all HV.isCell then match layL cs off v.cells with
      | some ds => .cells ds
      | none => .no else .no
  | .byt m d => match u8Of v with
    | some b => if Nat.blt off m && Nat.beq n 1 then .byt m (bLay d off 1 b) else .no
    | none => .no
  | _ => .no
def unpre (pre : Nat) (h : HT) : HT := pre.casesOn h fun k => HT.set D k .no h
def putO (k : Nat) (f : HB → HB) (v : HV) (h : HT) (c : Nat) : CR := HO.casesOn (HT.get D k h) (.x 1) (fun pre b => HB.casesOn (f b) (.x 1) (fun cs => .ok v (HT.set D k (.own 0 (.cells cs)) (unpre D pre h)) c) (fun n d => .ok v (HT.set D k (.own 0 (.byt n d)) (unpre D pre h)) c) fun _ _ => .x 80) fun _ => .x 17
def store (n : Nat) (h : HT) (c : Nat) (x y : HV) : CR := match x with
  | .ptr k off => putO D k (storeO n off y) .und h c
  | _ => .x 2
def fieldAddr (off : Nat) (x : HV) : HV := match x with
  | .ptr k o => .ptr k (Nat.add o off)
  | _ => .dead
def fieldAddrF (t : TypeId) (i : Nat) : F1 := match Pr.underlying t with
  | some (.struct fields) => match fields[i]? with
    | some fd => match sizeT Pr fd.type with
      | some (_ + 1) => .f (fieldAddr fd.offset)
      | _ => .no
    | none => .no
  | _ => .no
def fieldV (agg : Bool) (n off : Nat) (x : HV) : HV := match x with
  | .agg cs => partV agg n off cs
  | _ => .dead
def fieldF (t : TypeId) (i : Nat) : F1 := match Pr.underlying t with
  | some (.struct fields) => match fields[i]? with
    | some fd => match sizeT Pr fd.type, aggT Pr fd.type with
      | some n, some b => .f (fieldV b n fd.offset)
      | _, _ => .no
    | none => .no
  | _ => .no
def natOf (v : HV) : Option Nat := match v with
  | .int _ (.ofNat n) => some n
  | _ => none
def indexAddrS (sz : Nat) (x y : HV) : HV := match x with
  | .slc k o n es _ => match natOf y with
    | some i => (Nat.blt i n).casesOn .dead ((Nat.beq es sz).casesOn .dead (.ptr k (Nat.add o (Nat.mul i es))))
    | none => .dead
  | _ => .dead
def indexAddrA (len n : Nat) (x y : HV) : HV := match x with
  | .ptr k o => match natOf y with
    | some i => (Nat.blt i len).casesOn .dead (.ptr k (Nat.add o (Nat.mul i n)))
    | none => .dead
  | _ => .dead
def indexAddrF (t : TypeId) : F2 := match Pr.underlying t with
  | some (.slice e) => match sizeT Pr e with
    | some n => .f (indexAddrS n)
    | none => .no
  | some (.array len e) => match sizeT Pr e with
    | some n => .f (indexAddrA len n)
    | none => .no
  | _ => .no
def indexV (len n : Nat) (agg : Bool) (x y : HV) : HV := match x, natOf y with
  | .agg cs, some i => if Nat.blt i len then partV agg n (Nat.mul i n) cs else .dead
  | _, _ => .dead
def indexStr (x y : HV) : HV := match x, natOf y with
  | .str n d, some i => if Nat.blt i n then byteV (bAt d i) else .dead
  | _, _ => .dead
def indexF (t : TypeId) : F2 := match Pr.underlying t with
  | some .string => .f indexStr
  | some (.array len e) => match sizeT Pr e, aggT Pr e with
    | some n, some b => .f (indexV len n b)
    | _, _ => .no
  | _ => .no
def boundM (most : Nat) (v : HV) : Option Nat := match natOf v with
  | some i => if Nat.ble i most then some i else none
  | none => none
def boundH (hh : Bool) (dflt : Nat) (v : HV) : Option Nat := hh.casesOn (some dflt) (boundM dflt v)
def sliceStr (hh : Bool) (x lo hi : HV) : HV := match x with
  | .str n d => match boundH hh n hi with
    | some h => match boundM h lo with
      | some l => .str (Nat.sub h l) (bCut d l (Nat.sub h l))
      | none => .dead
    | none => .dead
  | _ => .dead
def sliceSlc (hh : Bool) (sz : Nat) (x lo hi : HV) : HV := match x with
  | .slc k o n es cl => match boundH hh n hi with
    | some h => match boundM h lo with
      | some l => (cl && !(Nat.beq h n) || !(Nat.beq es sz)).casesOn (.slc k (Nat.add o (Nat.mul l es)) (Nat.sub h l) es cl) .dead
      | none => .dead
    | none => .dead
  | .nils => match boundH hh 0 hi with
    | some _ => match boundM 0 lo with
      | some _ => .nils
      | none => .dead
    | none => .dead
  | _ => .dead
def sliceClip (sz : Nat) (x lo hi mx : HV) : HV := match x with
  | .slc k o n es cl => match natOf mx, natOf hi with
    | some m, some h => if Nat.ble m n && Nat.beq h m && Nat.beq es sz then match boundM h lo with
      | some l => .slc k (Nat.add o (Nat.mul l es)) (Nat.sub h l) es true
      | none => .dead else if Nat.ble m n && Nat.ble h m && Nat.beq es sz then match boundM h lo with
      | some _ => .any
      | none => .dead else .dead
    | _, _ => .dead
  | .nils => match natOf mx, natOf hi, boundM 0 lo with
    | some 0, some 0, some _ => .nils
    | _, _, _ => .dead
  | _ => .dead
inductive F3 where
  | f (f : HV → HV → HV → HV)
  | no
def sliceF (hh : Bool) (t : TypeId) : F3 := match Pr.underlying t with
  | some .string => .f (sliceStr hh)
  | some (.slice e) => match sizeT Pr e with
    | some n => .f (sliceSlc hh n)
    | none => .no
  | _ => .no
def pickV (c a b : HV) : HV := match c with
  | .bool t => t.casesOn b a
  | _ => .dead
def nilCheck (x : HV) : HV := match x with
  | .ptr k o => .ptr k o
  | .fn f cs => .fn f cs
  | _ => .dead
def extractV (i : Nat) (x : HV) : HV := match x with
  | .tup vs => lget i vs
  | _ => .dead
inductive FN where
  | f (f : List HV → HV)
  | no
def fillL (place : Nat → Option (Nat × Nat)) (cells : List HV) : List (Nat × HV) → Option (List HV)
  | [] => some cells
  | (i, v) :: rest =>
    match place i with
    | none => none
    | some (off, size) =>
      if v.cells.length = size ∧ v.cells.all HV.isCell then
        match layL cells off v.cells with
        | some cells' => fillL place cells' rest
        | none => none
      else none
def placesT : List Field → Option (List (Nat × Nat))
  | [] => some []
  | f :: r => match sizeT Pr f.type, placesT r with
    | some n, some l => some ((f.offset, n) :: l)
    | _, _ => none
def aggOf (o : Option (List HV)) : HV := match o with
  | some cs => .agg cs
  | none => .dead
def buildF (t : TypeId) (is : List Nat) : FN := match zeroT Pr t, Pr.underlying t with
  | .agg z, some (.struct fields) => match placesT Pr fields.toList with
    | some places => .f fun vs => aggOf (fillL (places[·]?) z (is.zip vs))
    | none => .no
  | .agg z, some (.array _ e) => match sizeT Pr e with
    | some n => .f fun vs => aggOf (fillL (fun i => some (i * n, n)) z (is.zip vs))
    | none => .no
  | _, _ => .no
def bytesL : List HV → Option Nat
  | [] => some 0
  | v :: r => match u8Of v, bytesL r with
    | some b, some d => some (Nat.add b (Nat.mul 256 d))
    | _, _ => none
def objOf (u8 : Bool) (cs : List HV) : HB := u8.casesOn (if cs.all HV.isCell then .cells cs else .no) (match bytesL cs with
  | some d => .byt cs.length d
  | none => .no)
def zero8 (z : List HV) : Bool := match z with
  | [v] => match u8Of v with
    | some 0 => true
    | _ => false
  | _ => false
def repO (u8 : Bool) (l : Nat) (z : List HV) : HB := u8.casesOn ((z.all HV.isCell).casesOn .no (.cells (List.replicate l z).flatten)) ((zero8 z).casesOn .no (.byt l 0))
def newO (pre : Nat) (o : HB) (v : HV) (h : HT) (c : Nat) : CR := (Nat.blt c (Nat.pow 4 D)).casesOn (.x 3) (HB.casesOn o (.x 4) (fun cs => .ok v (HT.set D c (.own pre (.cells cs)) h) (Nat.succ c)) (fun n d => .ok v (HT.set D c (.own pre (.byt n d)) h) (Nat.succ c)) fun es cl => .ok v (HT.set D c (.own pre (.map es cl)) h) (Nat.succ c))
inductive AN where
  | f (f : HT → Nat → List HV → CR)
  | no
def allocF (e : TypeId) : AN := match zeroT Pr e with
  | .dead => .no
  | z => (z.cells.all HV.isCell).casesOn .no (.f fun h c _ => newO D 0 (.cells z.cells) (.ptr c 0) h c)
def boxF (e : TypeId) : AN := match sizeT Pr e with
  | some n => .f fun h c vs => match vs with
    | [v] => if v.cells.length = n ∧ v.cells.all HV.isCell then newO D 0 (.cells v.cells) (.ptr c 0) h c else .x 5
    | _ => .x 5
  | none => .no
def buildSliceF (t : TypeId) (len : Nat) (is : List Nat) : AN := match elemT Pr t with
  | some e => match sizeT Pr e, zeroT Pr e with
    | some _, .dead => .no
    | some n, z => if n = 0 ∨ len * n > 16777216 ∨ z.cells.length ≠ n then .no else
      .f fun h c vs => match fillL (fun i => some (i * n, n)) ((List.replicate len z.cells).flatten) (is.zip vs) with
        | some cs => newO D 0 (objOf (isU8 Pr e) cs) (.slc c 0 len n false) h c
        | none => .x 6
    | _, _ => .no
  | none => .no
def makeSliceF (t : TypeId) : AN := match elemT Pr t with
  | some e => match sizeT Pr e, bytesT Pr e, zeroT Pr e with
    | some n, some by_, z => if n = 0 ∨ z.cells.length ≠ n then .no else
      .f fun h c vs => match vs with
        | [l, co] => match natOf l, natOf co with
          | some l, some co => if Nat.ble l co && Nat.ble co 9223372036854775807 && Nat.ble (Nat.mul by_ co) 281474976710656 then
              newO D 0 (repO (isU8 Pr e) l z.cells) (.slc c 0 l n false) h c else .x 7
          | _, _ => .x 7
        | _ => .x 7
    | _, _, _ => .no
  | none => .no
inductive Src where
  | byt (n d : Nat)
  | cells (n : Nat) (cs : List HV)
  | no
def srcOf (es : Nat) (h : HT) (x : HV) : Src := match x with
  | .str n d => (Nat.beq es 1).casesOn .no (.byt n d)
  | .nils => .cells 0 []
  | .slc k o n es' _ => (Nat.beq es es').casesOn .no (match (HT.get D k h).body with
    | .byt m d => if Nat.ble (Nat.add o n) m && Nat.beq es 1 then .byt n (bCut d o n) else .no
    | .cells cs => if Nat.ble (Nat.add o (Nat.mul n es)) cs.length then .cells n ((cs.drop o).take (Nat.mul n es)) else .no
    | _ => .no)
  | _ => .no
def Src.len : Src → Nat
  | .byt n _ => n
  | .cells n _ => n
  | .no => 0
def Src.obj (u8 : Bool) (s : Src) : HB := match s with
  | .byt n d => u8.casesOn .no (.byt n d)
  | .cells n cs => u8.casesOn (.cells cs) ((Nat.beq n 0).casesOn .no (.byt 0 0))
  | .no => .no
def joinO (o : Nat) (n : Nat) (x y : HB) : HB := match x, y with
  | .byt m d, .byt m' e => if Nat.ble (Nat.add o n) m then .byt (Nat.add n m') (Nat.add (bCut d o n) (Nat.mul e (p8 n))) else .no
  | .cells cs, .cells ds => if Nat.ble (Nat.add o n) cs.length then .cells ((cs.drop o).take n ++ ds) else .no
  | _, _ => .no
def overO (o : Nat) (y x : HB) : HB := match x, y with
  | .byt m d, .byt m' e => if Nat.ble (Nat.add o m') m then .byt m (bLay d o m' e) else .no
  | .cells cs, .cells ds => match layL cs o ds with
    | some cs => .cells cs
    | none => .no
  | _, _ => .no
def sizeO : HB → Nat
  | .byt n _ => n
  | .cells cs => cs.length
  | _ => 0
def append (u8 : Bool) (es by_ : Nat) (h : HT) (c : Nat) (x y : HV) : CR :=
  let s := srcOf D es h y
  let m := s.len
  match s.obj u8 with
  | .no => .x 8
  | ob => match x with
    | .nils => if Nat.beq m 0 then .ok .nils h c else if Nat.ble (Nat.mul m by_) 140737488355328 then newO D 0 ob (.slc c 0 m es false) h c else .x 9
    | .slc k o n es' cl => if Nat.beq m 0 then .ok (.slc k o n es' cl) h c else
      if Nat.beq es es' && Nat.ble (Nat.mul (Nat.add n m) by_) 140737488355328 then
      match HT.get D k h with
      | .own pre x =>
        let e := Nat.add o (Nat.mul n es)
        if cl then newO D 0 (joinO o (Nat.mul n es) x ob) (.slc c 0 (Nat.add n m) es false) h c
        else if Nat.beq e (sizeO x) && Nat.beq o 0 then newO D (Nat.succ k) (joinO o (Nat.mul n es) x ob) (.slc c 0 (Nat.add n m) es false) (HT.set D k (.sh x) (unpre D pre h)) c
        else if Nat.ble (Nat.add e (Nat.mul m es)) (sizeO x) then putO D k (overO e ob) (.slc k o (Nat.add n m) es false) h c
        else .x 11
      | .sh x => if cl then newO D 0 (joinO o (Nat.mul n es) x ob) (.slc c 0 (Nat.add n m) es false) h c else .x 18
      | .no => .x 11
      else .x 11
    | _ => .x 12
inductive E2 where
  | f (f : HT → Nat → HV → HV → CR)
  | no
def appendF (t t2 : TypeId) : E2 := match Pr.underlying t2 with
  | some (.slice _) | some .string => match elemT Pr t with
    | some e => match sizeT Pr e, bytesT Pr e, zeroT Pr e with
      | some es, some by_, z => if es = 0 ∨ by_ = 0 ∨ z.cells.length ≠ es ∨ z.cells.all HV.isCell = false then .no else .f (append D (isU8 Pr e) es by_)
      | _, _, _ => .no
    | none => .no
  | _ => .no
def cutSrc (es m : Nat) (s : Src) : Src := match s with
  | .byt n d => .byt m (bCut d 0 m)
  | .cells n cs => .cells m (cs.take (Nat.mul m es))
  | .no => .no
def copy (u8 : Bool) (es : Nat) (h : HT) (c : Nat) (x y : HV) : CR :=
  let s := srcOf D es h y
  match s with
  | .no => .x 13
  | s => match x with
    | .nils => .ok (.int .i64 (.ofNat 0)) h c
    | .slc k o n es' _ =>
      let m := Nat.min s.len n
      if Nat.beq m 0 then .ok (.int .i64 (.ofNat 0)) h c else
      if Nat.beq es es' then putO D k (overO o ((cutSrc es m s).obj u8)) (.int .i64 (.ofNat m)) h c else .x 14
    | _ => .x 14
def copyF (t : TypeId) : E2 := match elemT Pr t with
  | some e => match sizeT Pr e with
    | some es => .f (copy D (isU8 Pr e) es)
    | none => .no
  | none => .no
def clearE (u8 : Bool) (z : List HV) (h : HT) (c : Nat) (x _y : HV) : CR := match x with
  | .nils => .ok .und h c
  | .slc k o n _ _ => if Nat.beq n 0 then .ok .und h c else
    putO D k (overO o (repO u8 n z)) .und h c
  | _ => .x 15
def clearF (t : TypeId) : E2 := match elemT Pr t with
  | some e => match sizeT Pr e, zeroT Pr e with
    | some es, z => if es = 0 ∨ z.cells.length ≠ es then .no else .f (clearE D (isU8 Pr e) z.cells)
    | _, _ => .no
  | none => .no
def storeF (t : TypeId) : E2 := match sizeT Pr t with
  | some n => .f (store D n)
  | none => .no
def lenStr (x : HV) : HV := match x with
  | .str n _ => .int .i64 (.ofNat n)
  | _ => .dead
def lenSlc (x : HV) : HV := match x with
  | .slc _ _ n _ _ => .int .i64 (.ofNat n)
  | .nils => .int .i64 (.ofNat 0)
  | _ => .dead
def lenF (t : TypeId) : F1 := match Pr.underlying t with
  | some .string => .f lenStr
  | some (.slice _) => .f lenSlc
  | some (.array n _) => .f fun _ => .int .i64 (.ofNat n)
  | some (.pointer a) => match Pr.underlying a with
    | some (.array n _) => .f fun _ => .int .i64 (.ofNat n)
    | _ => .no
  | _ => .no
def minF (k : FloatKind) (a b : Nat) : HV := match k.format.order a b with
  | some .lt => .flt k a
  | some .gt => .flt k b
  | some .eq => .flt k (if (k.decode a).neg then a else b)
  | none => .dead
def maxF (k : FloatKind) (a b : Nat) : HV := match k.format.order a b with
  | some .lt => .flt k b
  | some .gt => .flt k a
  | some .eq => .flt k (if (k.decode a).neg then b else a)
  | none => .dead
def minV (x y : HV) : HV := match x, y with
  | .int k a, .int _ b => .int k (if b < a then b else a)
  | .flt k a, .flt k' b => if k = k' then minF k a b else .dead
  | _, _ => .dead
def maxV (x y : HV) : HV := match x, y with
  | .int k a, .int _ b => .int k (if b > a then b else a)
  | .flt k a, .flt k' b => if k = k' then maxF k a b else .dead
  | _, _ => .dead
def realV (x : HV) : HV := match x with
  | .cpx k a _ => .flt k a
  | _ => .dead
def imagV (x : HV) : HV := match x with
  | .cpx k _ b => .flt k b
  | _ => .dead
def cpxOf (x y : HV) : HV := match x, y with
  | .flt k a, .flt k' b => if k = k' then .cpx k a b else .dead
  | _, _ => .dead
def uM : Nat := 1099511627776
def keyEq (a b : Int) : Bool := match a, b with
  | .ofNat m, .ofNat n => Nat.beq m n
  | .negSucc m, .negSucc n => Nat.beq m n
  | _, _ => false
def findM (key : Int) : List ME → Option HV
  | [] => none
  | e :: r => if keyEq e.key key then some e.val else findM key r
def bornM (key : Int) : List ME → Option Nat
  | [] => none
  | e :: r => if keyEq e.key key then some e.born else bornM key r
def putM (key : Int) (v : HV) : List ME → Option (List ME)
  | [] => none
  | e :: r => if keyEq e.key key then some (⟨e.key, v, e.born⟩ :: r) else match putM key v r with
    | some l => some (e :: l)
    | none => none
def storeM (born : Nat) (v : HV) : List ME → Option (List ME)
  | [] => none
  | e :: r => if Nat.beq e.born born then some (⟨e.key, v, e.born⟩ :: r) else match storeM born v r with
    | some l => some (e :: l)
    | none => none
def delM (key : Int) : List ME → List ME
  | [] => []
  | e :: r => if keyEq e.key key then r else e :: delM key r
def okTup (ok : Bool) (v : HV) (b : Bool) : HV := if ok then .tup [v, .bool b] else v
def liveV : HV → Bool
  | .dead => false
  | .any => false
  | .tup _ => false
  | _ => true
def lookV (z : HV) (ok : Bool) (h : HT) (m : HV) (key : Int) : HV := match m with
  | .nilm => okTup ok z false
  | .mp k => match (HT.get D k h).body with
    | .map es _ => match findM key es with
      | some v => okTup ok v true
      | none => okTup ok z false
    | _ => .dead
  | _ => .dead
def lookupV (z : HV) (ok : Bool) (h : HT) (x : HV) : HV := match x with
  | .tup [m, .int k key] => if ikEq k .i64 then lookV D z ok h m key else .dead
  | _ => .dead
def mapT (t : TypeId) : Option TypeId := match Pr.underlying t with
  | some (.map kt et) => match Pr.underlying kt with
    | some (.int .i64) => some et
    | _ => none
  | _ => none
def lookupF (t : TypeId) (ok : Bool) : H1 := match mapT Pr t with
  | some et => if liveV (zeroT Pr et) then .f (lookupV D (zeroT Pr et) ok) else .no
  | none => .no
def setM (k : Nat) (v : HV) (es : List ME) (cl : Nat) (h : HT) (c : Nat) : CR := .ok v (HT.set D k (.own 0 (.map es cl)) h) c
def updE (h : HT) (c : Nat) (x y : HV) : CR := match x, y with
  | .mp k, .tup [.int ik key, v] => if ikEq ik .i64 && liveV v then match HT.get D k h with
    | .own 0 (.map es cl) => match putM key v es with
      | some l => setM D k .und l cl h c
      | none => (Nat.beq (Nat.succ cl) uM).casesOn (setM D k .und (es ++ [⟨key, v, cl⟩]) (Nat.succ cl) h c) (.x 86)
    | _ => .x 81 else .x 81
  | _, _ => .x 82
def updF (t : TypeId) : E2 := match mapT Pr t with
  | some _ => .f (updE D)
  | none => .no
def entE (z : HV) (h : HT) (c : Nat) (x y : HV) : CR := match x, y with
  | .mp k, .int ik key => if ikEq ik .i64 then match HT.get D k h with
    | .own 0 (.map es cl) => if Nat.blt cl uM then match findM key es, bornM key es with
      | some v, some b => setM D k (.tup [v, .int .i64 (.ofNat b)]) es cl h c
      | none, none => (Nat.beq (Nat.succ cl) uM).casesOn (setM D k (.tup [z, .int .i64 (.ofNat cl)]) (es ++ [⟨key, z, cl⟩]) (Nat.succ cl) h c) (.x 86)
      | _, _ => .x 81 else .x 85
    | _ => .x 81 else .x 81
  | _, _ => .x 82
def entF (t : TypeId) : E2 := match mapT Pr t with
  | some et => if liveV (zeroT Pr et) then .f (entE D (zeroT Pr et)) else .no
  | none => .no
def entStE (h : HT) (c : Nat) (x y : HV) : CR := match x, y with
  | .mp k, .tup [.int _ (.ofNat born), v] => if liveV v then match HT.get D k h with
    | .own 0 (.map es cl) => if Nat.blt cl uM then match storeM born v es with
      | some l => setM D k .und l cl h c
      | none => .x 80 else .x 85
    | _ => .x 81 else .x 81
  | _, _ => .x 82
def clrE (h : HT) (c : Nat) (x _y : HV) : CR := match x with
  | .mp k => match HT.get D k h with
    | .own 0 (.map _ cl) => setM D k .und [] cl h c
    | _ => .x 83
  | .nilm => .ok .und h c
  | _ => .x 84
def delE (h : HT) (c : Nat) (x y : HV) : CR := match x, y with
  | .mp k, .int ik key => if ikEq ik .i64 then match HT.get D k h with
    | .own 0 (.map es cl) => setM D k (.tup []) (delM key es) cl h c
    | _ => .x 83 else .x 83
  | .nilm, .int ik _ => if ikEq ik .i64 then .ok (.tup []) h c else .x 83
  | _, _ => .x 84
def delF (t : TypeId) : E2 := match mapT Pr t with
  | some _ => .f (delE D)
  | none => .no
def lenM (h : HT) (x : HV) : HV := match x with
  | .nilm => .int .i64 (.ofNat 0)
  | .mp k => match (HT.get D k h).body with
    | .map es _ => .int .i64 (.ofNat es.length)
    | _ => .dead
  | _ => .dead
def makeM (h : HT) (c : Nat) (_ : List HV) : CR := newO D 0 (.map [] 0) (.mp c) h c
def sliceWide (hh : Bool) (sz : Nat) (h : HT) (x lo hi : HV) : HV := match x with
  | .slc k o n es cl => if hh && (!cl && Nat.beq es sz) then match natOf hi with
    | some b => if Nat.blt n b && Nat.ble (Nat.add o (Nat.mul b es)) (sizeO (HT.get D k h).body) then match boundM b lo with
      | some l => .slc k (Nat.add o (Nat.mul l es)) (Nat.sub b l) es false
      | none => .dead else .dead
    | none => .dead else .dead
  | _ => .dead
def orV (v w : HV) : HV := match v with
  | .dead => w
  | v => v
def sliceH (hh : Bool) (sz : Nat) (h : HT) (v : HV) : HV := match v with
  | .tup [x, lo, hi] => orV (sliceSlc hh sz x lo hi) (sliceWide D hh sz h x lo hi)
  | _ => .dead
def tripG (x y z : G) : G := .f fun t s => .tup [x.ev t s, y.ev t s, z.ev t s]
def pairG (x y : G) : G := .f fun t s => .tup [x.ev t s, y.ev t s]
inductive FOp where
  | u1 (st : P) (f : HV → HV) (x : G)
  | u2 (st : P) (f : HV → HV → HV) (x y : G)
  | u3 (st : P) (f : HV → HV → HV → HV) (x y z : G)
  | un (st : P) (f : List HV → HV) (xs : List G)
  | h1 (st : P) (f : HT → HV → HV) (x : G)
  | al (st : P) (f : HT → Nat → List HV → CR) (xs : List G)
  | e2 (st : P) (f : HT → Nat → HV → HV → CR) (x y : G)
  | call (st : P) (f : FuncId) (xs : List G)
  | calv (st : P) (g : G) (xs : List G)
  | grd (g : G) (want : Bool) (st : P) (o : FOp)
  | bad (why : Nat)
inductive FOps where
  | nil
  | cons (o : FOp) (r : FOps)
inductive DOps where
  | nil
  | pure (o : FOp) (r : DOps)
  | read (o : FOp) (back fwd : Nat) (r : DOps)
  | new (o : FOp) (chk : List G) (r : DOps)
  | eff (o : FOp) (chk : List G) (r : DOps)
inductive FCode where
  | skip
  | ops (l : FOps)
  | draw (l : DOps)
  | seq (a b : FCode)
  | cond (g : G) (a b : FCode)
  | block (id : Nat) (c : FCode)
  | loop (c : FCode)
  | exit (id : Nat)
  | scope (c : Code) (r : FCode)
  | goto (l : Nat)
  | ret
  | bad (why : Nat)
def idx (t : Nat) : List Nat → Option Nat
  | [] => none
  | a :: r => (Nat.beq a t).casesOn (match idx t r with | some j => some (j + 1) | none => none) (some 0)
def rank (gl : Nat) : Nat → Nat
  | 0 => 0
  | t + 1 => (Nat.testBit gl t).casesOn (rank gl t) (Nat.succ (rank gl t))
def gLoc (j : Nat) : G := .f fun t _ => lget j t
def opnd (gl : Nat) (reg : List Nat) (o : Operand) : G := match o with
  | .tmp t => match idx t reg with
    | some j => gLoc j
    | none => (Nat.testBit gl t).casesOn (.c .dead) (gVar (rank gl t))
  | .const v => .c (constV v)
  | .func f => .c (.fn f [])
  | .global _ => .c .dead
def dstP (gl : Nat) (d : Option Nat) : P := match d with
  | none => .skip
  | some t => (Nat.testBit gl t).casesOn .loc (pVar (rank gl t))
def opnds (gl : Nat) (reg : List Nat) (l : List Operand) : List G := l.map (opnd gl reg)
def optG (gl : Nat) (reg : List Nat) (o : Option Operand) : G := match o with
  | none => .c (.int .i64 (.ofNat 0))
  | some o => opnd gl reg o
def oF1 (st : P) (f : F1) (x : G) : FOp := match f with | .f f => .u1 st f x | .no => .bad 20
def oF2 (st : P) (f : F2) (x y : G) : FOp := match f with | .f f => .u2 st f x y | .no => .bad 21
def oF3 (st : P) (f : F3) (x y z : G) : FOp := match f with | .f f => .u3 st f x y z | .no => .bad 22
def oFN (st : P) (f : FN) (xs : List G) : FOp := match f with | .f f => .un st f xs | .no => .bad 23
def oE2 (st : P) (f : E2) (x y : G) : FOp := match f with | .f f => .e2 st f x y | .no => .bad 24
def oAN (st : P) (f : AN) (xs : List G) : FOp := match f with | .f f => .al st f xs | .no => .bad 25
def oH1 (st : P) (f : H1) (x : G) : FOp := match f with | .p f => .u1 st f x | .f f => .h1 st f x | .no => .bad 26
def makeFn (f : FuncId) (vs : List HV) : HV := .fn f (vs.map fun v => match v with | .ptr k o => (k, o) | _ => (0, 0))
def allPtr (vs : List HV) : Bool := vs.all fun v => match v with | .ptr _ _ => true | _ => false
def makeFnF (f : FuncId) (vs : List HV) : HV := (allPtr vs).casesOn .dead (makeFn f vs)
def compBi (gl : Nat) (reg : List Nat) (st : P) (b : Builtin) (ts : List TypeId) (as : List Operand) : FOp :=
  let o := opnd gl reg
  match b, ts, as with
  | .len, t :: _, [a] => match Pr.underlying t with
    | some (.map _ _) => .h1 st (lenM D) (o a)
    | _ => oF1 st (lenF Pr t) (o a)
  | .delete, t :: _, [a, b] => oE2 st (delF Pr D t) (o a) (o b)
  | .append, [t, t2], [a, b] => oE2 st (appendF Pr D t t2) (o a) (o b)
  | .copy, t :: _, [a, b] => oE2 st (copyF Pr D t) (o a) (o b)
  | .clear, t :: _, [a] => match Pr.underlying t with
    | some (.map _ _) => .e2 st (clrE D) (o a) (.c .und)
    | _ => oE2 st (clearF Pr D t) (o a) (.c .und)
  | .min, _, [a, b] => .u2 st minV (o a) (o b)
  | .max, _, [a, b] => .u2 st maxV (o a) (o b)
  | .real, _, [a] => .u1 st realV (o a)
  | .imag, _, [a] => .u1 st imagV (o a)
  | .complex, _, [a, b] => .u2 st cpxOf (o a) (o b)
  | _, _, _ => .bad 27
def cmpName : String := "internal/bytealg.abigen_runtime_cmpstring"
def isCmp (f : FuncId) : Bool := match Pr.funcs[f]? with
  | some fn => fn.body.isNone && (fn.name == cmpName && fn.origin == "")
  | none => false
def cmpN (n a m b : Nat) : Int := match (List.range (Nat.min n m)).find? fun i => !(Nat.beq (bAt a i) (bAt b i)) with
  | some i => if Nat.blt (bAt a i) (bAt b i) then -1 else 1
  | none => if Nat.blt n m then -1 else if Nat.blt m n then 1 else 0
def cmpV (x y : HV) : HV := match x, y with
  | .str n a, .str m b => .int .i64 (cmpN n a m b)
  | _, _ => .dead
def cmpOp (gl : Nat) (reg : List Nat) (st : P) (as : List Operand) : FOp := match as with
  | [a, b] => .u2 st cmpV (opnd gl reg a) (opnd gl reg b)
  | _ => .bad 36
def idV (v : HV) : HV := v
def clipN (sz : Nat) (vs : List HV) : HV := match vs with
  | [x, lo, hi, mx] => sliceClip sz x lo hi mx
  | _ => .dead
def compOp (gl : Nat) (reg : List Nat) (dst : Option Nat) (op : Op) : FOp :=
  let st := dstP gl dst
  let o := opnd gl reg
  match op with
  | .move x => .u1 st idV (o x)
  | .assign x => .u1 st idV (o x)
  | .pick c a b => .u3 st pickV (o c) (o a) (o b)
  | .alloc e => oAN st (allocF Pr D e) []
  | .box e v => oAN st (boxF Pr D e) [o v]
  | .build t ps => oFN st (buildF Pr t (ps.toList.map (·.1))) (ps.toList.map fun p => o p.2)
  | .buildSlice t len ps => oAN st (buildSliceF Pr D t len (ps.toList.map (·.1))) (ps.toList.map fun p => o p.2)
  | .load t x => oH1 st (loadF Pr D t) (o x)
  | .store t x y => oE2 st (storeF Pr D t) (o x) (o y)
  | .nilCheck x => .u1 st nilCheck (o x)
  | .binOp op t x y _ => oF2 st (binG Pr op t x y) (o x) (o y)
  | .unOp op _ x => .u1 st (unV op) (o x)
  | .convert src dst x => oH1 st (convF Pr D src dst) (o x)
  | .makeFunc (.func f) first caps => if first.isEmpty then .un st (makeFnF f) (opnds gl reg caps.toList) else .bad 28
  | .makeSlice t l c => oAN st (makeSliceF Pr D t) [o l, o c]
  | .slice t x lo hi mx => match mx with
    | none => match Pr.underlying t with
      | some (.slice e) => match sizeT Pr e with
        | some n => .h1 st (sliceH D hi.isSome n) (tripG (o x) (optG gl reg lo) (optG gl reg hi))
        | none => .bad 22
      | _ => oF3 st (sliceF Pr hi.isSome t) (o x) (optG gl reg lo) (optG gl reg hi)
    | some mx => match Pr.underlying t with
      | some (.slice e) => match sizeT Pr e with
        | some n => if hi.isSome then .un st (clipN n) [o x, optG gl reg lo, optG gl reg hi, o mx] else .bad 29
        | none => .bad 29
      | _ => .bad 29
  | .fieldAddr t x i => oF1 st (fieldAddrF Pr t i) (o x)
  | .field t x i => oF1 st (fieldF Pr t i) (o x)
  | .indexAddr t x y => oF2 st (indexAddrF Pr t) (o x) (o y)
  | .index t x y => oF2 st (indexF Pr t) (o x) (o y)
  | .extract x i => .u1 st (extractV i) (o x)
  | .call c => match c.callee with
    | .value (.func f) => if isCmp Pr f then cmpOp gl reg st c.args.toList else .call st f (opnds gl reg c.args.toList)
    | .value v => .calv st (o v) (opnds gl reg c.args.toList)
    | .builtin b => compBi Pr D gl reg st b c.argTypes.toList c.args.toList
    | _ => .bad 30
  | .makeMap t none => .al st (makeM D) []
  | .lookup t x y ok => oH1 st (lookupF Pr D t ok) (pairG (o x) (o y))
  | .mapUpdate t x y z => oE2 st (updF Pr D t) (o x) (pairG (o y) (o z))
  | .mapEntry t x y => oE2 st (entF Pr D t) (o x) (o y)
  | .entryStore _ x y z => .e2 st (entStE D) (o x) (pairG (o y) (o z))
  | _ => .bad 31
def dstOk (nt : Nat) (d : Option Nat) : Bool := match d with
  | none => true
  | some t => Nat.blt t nt
def compG (ops : Array Oper) (nt gl : Nat) (reg : List Nat) (o : Oper) : FOp :=
  (dstOk nt o.dst).casesOn (.bad 34) (match o.guard with
  | none => compOp Pr D gl reg o.dst o.op
  | some (j, want) => match (ops[j]?).bind (·.dst) with
    | some t => .grd (opnd gl reg (.tmp t)) want (dstP gl o.dst) (compOp Pr D gl reg o.dst o.op)
    | none => .bad 32)
def regOf (d : Option Nat) (reg : List Nat) : List Nat := match d with
  | some t => t :: reg
  | none => reg
def compOps (ops : Array Oper) (nt gl : Nat) : List Nat → List Oper → FOps
  | _, [] => .nil
  | reg, o :: r => .cons (compG Pr D ops nt gl reg o) (compOps ops nt gl (regOf o.dst reg) r)
def regOps : List Nat → List Oper → List Nat
  | reg, [] => reg
  | reg, o :: r => regOps (regOf o.dst reg) r
inductive Kd where
  | pure | read | new | eff
def kdF (o : FOp) : Kd := match o with
  | .h1 _ _ _ => .read
  | .al _ _ _ => .new
  | .e2 _ _ _ _ => .eff
  | .call _ _ _ => .eff
  | .calv _ _ _ => .eff
  | .grd _ _ _ o => match o with
    | .h1 _ _ _ => .read
    | .al _ _ _ => .new
    | .e2 _ _ _ _ => .eff
    | .call _ _ _ => .eff
    | .calv _ _ _ => .eff
    | .grd _ _ _ _ => .eff
    | _ => .pure
  | _ => .pure
def natAt (l : List Nat) (i : Nat) : Nat := match l, i with
  | [], _ => 0
  | a :: _, 0 => a
  | _ :: r, i + 1 => natAt r i
def ancE (A : List Nat) : List Edge → Nat
  | [] => 0
  | e :: r => if Region.binds .any e then Nat.lor (Nat.lor (Nat.pow 2 e.on) (natAt A e.on)) (ancE A r) else ancE A r
def ancs (A : List Nat) : List Oper → List Nat
  | [] => A
  | o :: r => ancs (A ++ [ancE A o.after.toList]) r
def low (i : Nat) (es : List Edge) : Bool := es.all fun e => if Region.binds .any e then Nat.blt e.on i else true
def usesOf (ops : Array Oper) (o : Oper) : List Nat :=
  o.op.operands.toList.filterMap (fun | .tmp t => some t | _ => none) ++ match o.guard with
    | some (j, _) => match (ops[j]?).bind (·.dst) with
      | some t => [t]
      | none => []
    | none => []
def meets (ops : Array Oper) (a b : Oper) : Bool := match a.dst with
  | some x => (usesOf ops b).elem x || match b.dst with | some y => Nat.beq x y | none => false
  | none => false
def okPair (ops : Array Oper) (A : List Nat) (i : Nat) (ki : Kd) (oi : Oper) (j : Nat) (kj : Kd) (oj : Oper) : Bool :=
  Nat.testBit (natAt A j) i || (!(meets ops oi oj || meets ops oj oi) && match ki, kj with
    | .eff, .eff => false
    | .new, .eff => false
    | _, _ => true)
def okRow (ops : Array Oper) (A : List Nat) (j : Nat) (kj : Kd) (oj : Oper) : Nat → List (Kd × Oper) → Bool
  | _, [] => true
  | i, (ki, oi) :: r => (Nat.blt i j).casesOn true (okPair ops A i ki oi j kj oj && okRow ops A j kj oj (i + 1) r)
def seen (k : Kd) (o : Oper) : Bool := match k with
  | .read => o.dst.isSome
  | .new => o.dst.isSome
  | _ => true
def okRows (ops : Array Oper) (A : List Nat) (all : List (Kd × Oper)) : Nat → List (Kd × Oper) → Bool
  | _, [] => true
  | j, (kj, oj) :: r => low j oj.after.toList && seen kj oj && okRow ops A j kj oj 0 all && okRows ops A all (j + 1) r
def cntE (p : Nat → Bool) : Nat → List Kd → Nat
  | _, [] => 0
  | i, .eff :: r => (p i).casesOn (cntE p (i + 1) r) (Nat.succ (cntE p (i + 1) r))
  | i, _ :: r => cntE p (i + 1) r
def laterN (A : List Nat) (i : Nat) : Nat → List Kd → Bool
  | _, [] => false
  | j, .new :: r => (Nat.blt i j && !(Nat.testBit (natAt A j) i)) || laterN A i (j + 1) r
  | j, _ :: r => laterN A i (j + 1) r
def regsOf : List Nat → List Oper → List (List Nat)
  | _, [] => []
  | reg, o :: r => reg :: regsOf (regOf o.dst reg) r
def fopsOf (ops : Array Oper) (nt gl : Nat) : List Nat → List Oper → List FOp
  | _, [] => []
  | reg, o :: r => compG Pr D ops nt gl reg o :: fopsOf ops nt gl (regOf o.dst reg) r
def compD (gl : Nat) (A : List Nat) (ks : List Kd) : Nat → List Nat → List FOp → List Oper → DOps
  | i, reg, f :: fs, o :: r =>
    let rest := compD gl A ks (i + 1) (regOf o.dst reg) fs r
    match kdF f with
    | .pure => .pure f rest
    | .read => let cur := cntE (fun j => Nat.blt j i) 0 ks
      .read f (Nat.sub cur (cntE (fun j => Nat.testBit (natAt A i) j) 0 ks)) (Nat.sub (cntE (fun j => !(Nat.testBit (natAt A j) i)) 0 ks) cur) rest
    | .new => .new f (if laterN A i 0 ks then opnds gl reg o.op.operands.toList else []) rest
    | .eff => .eff f (if laterN A i 0 ks then opnds gl reg o.op.operands.toList else []) rest
  | _, _, _, _ => .nil
def nthP : List Nat → Nat → Nat
  | [], _ => 0
  | x :: _, 0 => x
  | _ :: l, k + 1 => nthP l k
def remap (ρ : List Nat) (o : Oper) : Oper := { o with after := o.after.map fun e => { e with on := nthP ρ e.on }, guard := o.guard.map fun p => (nthP ρ p.1, p.2) }
def permO (ops : Array Oper) (π ρ : List Nat) : Array Oper := ((List.range ops.size).filterMap fun k => (ops[nthP π k]?).map (remap ρ)).toArray
def isNewO : Op → Bool
  | .alloc _ => true
  | .box .. => true
  | .makeSlice .. => true
  | .buildSlice .. => true
  | _ => false
def isCallO : Op → Bool
  | .call c => match c.callee with
    | .builtin _ => false
    | _ => true
  | _ => false
def needsP (ops : Array Oper) : Bool :=
  let l := ops.toList
  if (l.any fun o => isNewO o.op) && (l.any fun o => isCallO o.op) then
    let A := ancs [] l
    (l.zipIdx.any fun p => isCallO p.1.op && l.zipIdx.any fun q => isNewO q.1.op && (Nat.blt q.2 p.2 && !(Nat.testBit (natAt A p.2) q.2)))
  else false
def readyP (done : List Nat) (o : Oper) : Bool := o.after.toList.all fun e => !(Region.binds .any e) || done.elem e.on
def nextP (done : List Nat) (l : List (Oper × Nat)) : Option Nat :=
  match l.find? fun p => !(done.elem p.2) && (!(isNewO p.1.op) && readyP done p.1) with
  | some p => some p.2
  | none => match l.find? fun p => !(done.elem p.2) && readyP done p.1 with
    | some p => some p.2
    | none => none
def orderP (l : List (Oper × Nat)) : Nat → List Nat → List Nat
  | 0, done => done
  | n + 1, done => match nextP done l with
    | some i => orderP l n (done ++ [i])
    | none => done
def invP (π : List Nat) (n : Nat) : List Nat := (List.range n).map fun i => π.idxOf i
def permB (ops : Array Oper) (π ρ : List Nat) : Bool :=
  let n := ops.size
  ((List.range n).all fun k => Nat.blt (nthP π k) n && Nat.beq (nthP ρ (nthP π k)) k) && (((List.range n).all fun i => Nat.blt (nthP ρ i) n && Nat.beq (nthP π (nthP ρ i)) i) &&
  ((ops.toList.all fun o => match o.guard with
    | some (j, _) => Nat.blt j n
    | none => true) && (ops.toList.zipIdx.all fun p => low p.2 p.1.after.toList)))
def opsP (ops : Array Oper) : Array Oper :=
  if needsP ops then
    let π := orderP ops.toList.zipIdx ops.size []
    let ρ := invP π ops.size
    if permB ops π ρ then permO ops π ρ else ops
  else ops
def compDraw (ops : Array Oper) (nt gl : Nat) : FCode :=
  let fs := fopsOf Pr D ops nt gl [] ops.toList
  let ks := fs.map kdF
  let A := ancs [] ops.toList
  let all := ks.zip ops.toList
  if okRows ops A all 0 all then .draw (compD gl A ks 0 [] fs ops.toList) else .bad 35
def regOut (reg : List Nat) : Code → List Nat
  | .skip => reg
  | .label _ => reg
  | .region _ ops false => regOps [] ops.toList
  | .region _ ops true => regOps [] (opsP ops).toList
  | .seq a b => regOut (regOut reg a) b
  | _ => []
def comp (nt gl : Nat) (reg : List Nat) : Code → FCode
  | .skip => .skip
  | .label _ => .skip
  | .region _ ops false => .ops (compOps Pr D ops nt gl [] ops.toList)
  | .region _ ops true => compDraw Pr D (opsP ops) nt gl
  | .seq a b => .seq (comp nt gl reg a) (comp nt gl (regOut reg a) b)
  | .cond c a b => .cond (opnd gl reg c) (comp nt gl [] a) (comp nt gl [] b)
  | .block id c => .block id (comp nt gl [] c)
  | .loop c => .loop (comp nt gl [] c)
  | .exit id => .exit id
  | .goto l => .goto l
  | .ret => .ret
  | .scope c => .scope c (comp nt gl [] c)
  | _ => .bad 33
def bit (t : Nat) : Nat := Nat.pow 2 t
def readsL (reg : List Nat) (l : List Operand) (gl : Nat) : Nat := l.foldl (fun gl o => match o with
  | .tmp t => match idx t reg with
    | some _ => gl
    | none => Nat.lor gl (bit t)
  | _ => gl) gl
def globOps (ops : Array Oper) : List Nat → List Oper → Nat → Nat
  | _, [], gl => gl
  | reg, o :: r, gl => globOps ops (regOf o.dst reg) r (readsL reg (o.op.operands.toList ++ match o.guard with
    | some (j, _) => match (ops[j]?).bind (·.dst) with
      | some t => [.tmp t]
      | none => []
    | none => []) gl)
def glob (reg : List Nat) : Code → Nat → Nat
  | .region _ ops _, gl => globOps ops [] ops.toList gl
  | .seq a b, gl => glob (regOut reg a) b (glob reg a gl)
  | .cond c a b, gl => glob [] b (glob [] a (readsL reg [c] gl))
  | .block _ c, gl => glob [] c gl
  | .loop c, gl => glob [] c gl
  | .scope c, gl => glob [] c gl
  | _, gl => gl
def resGl (l : List ResultVar) (gl : Nat) : Nat := l.foldl (fun gl r => match r with
  | .tmp t => Nat.lor gl (bit t)
  | .cell a _ => Nat.lor gl (bit a)) gl
inductive RG where
  | t (g : G)
  | h (f : HT → HV → HV) (g : G)
  | no
def resG (gl : Nat) : ResultVar → RG
  | .tmp t => .t (opnd gl [] (.tmp t))
  | .cell a t => match loadF Pr D t with
    | .f f => .h f (opnd gl [] (.tmp a))
    | _ => .no
inductive FFn where
  | f (ps : List P) (nt gl : Nat) (c : FCode) (rs : List RG)
  | no
def parPs (gl : Nat) : Nat → Nat → List P
  | 0, _ => []
  | n + 1, t => dstP gl (some t) :: parPs gl n (t + 1)
def compFn (f : FuncId) : FFn := match Pr.funcs[f]? with
  | some fn => if fn.name == "runtime.NumGoroutine" then .no else match fn.body with
    | some c =>
      let gl := resGl fn.results.toList (glob [] c 0)
      if Nat.ble (rank gl fn.ntmps) 256 && Nat.blt gl (Nat.pow 2 fn.ntmps) && Nat.ble (fn.params.size + fn.nfree) fn.ntmps then .f (parPs gl (fn.params.size + fn.nfree) 0) fn.ntmps gl (comp Pr D fn.ntmps gl [] c) (fn.results.toList.map (resG Pr D gl)) else .no
    | none => .no
  | none => .no
end
end
end Go.FM
end

section
namespace Go.FM
noncomputable section
inductive R where
  | n (t : L) (s : S)
  | ex (id : Nat) (s : S)
  | go (l : Nat) (s : S)
  | ret (s : S)
  | x (why : Nat)
abbrev K := L → S → R
abbrev Cl := FuncId → List HV → HT → Nat → CR
def forceN {α : Type} (n : Nat) (k : Nat → α) : α := n.casesOn (k 0) fun m => k (Nat.succ m)
def forceI {α : Type} (n : Int) (k : Int → α) : α := n.casesOn (fun m => forceN m fun m => k (.ofNat m)) fun m => forceN m fun m => k (.negSucc m)
def forceB {α : Type} (b : Bool) (k : Bool → α) : α := b.casesOn (k false) (k true)
def forceV (v : HV) (x : R) (k : HV → R) : R :=
  HV.rec (motive_1 := fun _ => R → (HV → R) → R) (motive_2 := fun _ => Unit)
    (fun i n _ k => forceI n fun n => k (.int i n))
    (fun b _ k => forceB b fun b => k (.bool b))
    (fun a0 a1 _ k => k (.flt a0 a1))
    (fun a0 a1 a2 _ k => k (.cpx a0 a1 a2))
    (fun n d _ k => forceN n fun n => forceN d fun d => k (.str n d))
    (fun a o _ k => forceN a fun a => forceN o fun o => k (.ptr a o))
    (fun _ k => k (.nilp ))
    (fun _ k => k (.nili ))
    (fun _ k => k (.nilf ))
    (fun a0 a1 _ k => k (.fn a0 a1))
    (fun _ k => k (.nils ))
    (fun a o n e cl _ k => forceN a fun a => forceN o fun o => forceN n fun n => forceN e fun e => forceB cl fun cl => k (.slc a o n e cl))
    (fun a0 a1 _ k => k (.agg a0))
    (fun a0 a1 _ k => k (.tup a0))
    (fun _ k => k (.und ))
    (fun x _ => x)
    (fun a0 a1 a2 _ k => k (.md a0 a1 a2))
    (fun _ k => k (.ub ))
    (fun a _ k => forceN a fun a => k (.mp a))
    (fun _ k => k (.nilm ))
    (fun _ k => k (.any ))
    (fun a0 a1 _ k => k (.sy a0 a1))
    (fun a0 a1 _ k => k (.par a0 a1)) () (fun _ _ _ _ => ()) v x k
def forceF {α : Type} (f : F) (k : F → α) : α := Q.casesOn f fun a b c d => k ⟨a, b, c, d⟩
def put (st : P) (v : HV) (k : K) (t : L) (s : S) : R :=
  P.rec (motive := fun _ => HV → K → L → S → R) (fun _ k t s => k t s) (fun v k t s => k (v :: t) s) (fun u v k t s => S.casesOn s fun f h c => forceF (u v f) fun f => k (v :: t) ⟨f, h, c⟩) st v k t s
def fin (why : Nat) (st : P) (v : HV) (k : K) (t : L) (s : S) : R := forceV v (.x why) fun v => put st v k t s
def finC (st : P) (r : CR) (k : K) (t : L) (s : S) : R :=
  CR.casesOn r (fun v h c => forceN c fun c => forceV v (.x 40) fun v => put st v k t ⟨s.f, h, c⟩) fun w => .x w
def evs (gs : List G) (t : L) (f : F) : List HV := List.rec (motive := fun _ => List HV) [] (fun g _ r => g.ev t f :: r) gs
variable (cl : Cl)
def aU1 (st : P) (f : HV → HV) (x : G) (k : K) (t : L) (s : S) : R := fin 41 st (f (x.ev t s.f)) k t s
def aU2 (st : P) (f : HV → HV → HV) (x y : G) (k : K) (t : L) (s : S) : R := fin 42 st (f (x.ev t s.f) (y.ev t s.f)) k t s
def aU3 (st : P) (f : HV → HV → HV → HV) (x y z : G) (k : K) (t : L) (s : S) : R := fin 43 st (f (x.ev t s.f) (y.ev t s.f) (z.ev t s.f)) k t s
def aUn (st : P) (f : List HV → HV) (xs : List G) (k : K) (t : L) (s : S) : R := fin 44 st (f (evs xs t s.f)) k t s
def aH1 (st : P) (f : HT → HV → HV) (x : G) (k : K) (t : L) (s : S) : R := fin 45 st (f s.h (x.ev t s.f)) k t s
def aAl (st : P) (f : HT → Nat → List HV → CR) (xs : List G) (k : K) (t : L) (s : S) : R := finC st (f s.h s.c (evs xs t s.f)) k t s
def aE2 (st : P) (f : HT → Nat → HV → HV → CR) (x y : G) (k : K) (t : L) (s : S) : R := finC st (f s.h s.c (x.ev t s.f) (y.ev t s.f)) k t s
def aCall (st : P) (f : FuncId) (xs : List G) (k : K) (t : L) (s : S) : R := finC st (cl f (evs xs t s.f) s.h s.c) k t s
def calv (v : HV) (as : List HV) (h : HT) (c : Nat) : CR := match v with
  | .fn f caps => cl f (as ++ caps.map fun p => .ptr p.1 p.2) h c
  | _ => .x 46
def aCalv (st : P) (g : G) (xs : List G) (k : K) (t : L) (s : S) : R := finC st (calv cl (g.ev t s.f) (evs xs t s.f) s.h s.c) k t s
def aBad (why : Nat) (_ : K) (_ : L) (_ : S) : R := .x why
def wants (v : HV) (want : Bool) : Option Bool := match v with
  | .bool b => some (b == want)
  | .und => some false
  | _ => none
def aGrd (g : G) (want : Bool) (st : P) (_ : FOp) (ih : K → L → S → R) (k : K) (t : L) (s : S) : R := Option.casesOn (wants (g.ev t s.f) want) (.x 47) fun b => b.casesOn (put st .und k t s) (ih k t s)
def exec (o : FOp) : K → L → S → R := FOp.rec (motive := fun _ => K → L → S → R) aU1 aU2 aU3 aUn aH1 aAl aE2 (aCall cl) (aCalv cl) aGrd aBad o
def runOps (l : FOps) : K := FOps.rec (motive := fun _ => K) R.n (fun o _ k => exec cl o k) l
def hvEq : HV → HV → Bool
  | .int k a, .int k' b => ikEq k k' && match a, b with
    | .ofNat m, .ofNat n => Nat.beq m n
    | .negSucc m, .negSucc n => Nat.beq m n
    | _, _ => false
  | .bool a, .bool b => a == b
  | .flt k a, .flt k' b => k == k' && Nat.beq a b
  | .cpx k a b, .cpx k' c d => k == k' && Nat.beq a c && Nat.beq b d
  | .str n d, .str m e => Nat.beq n m && Nat.beq d e
  | .ptr k o, .ptr k' o' => Nat.beq k k' && Nat.beq o o'
  | .nilp, .nilp => true
  | .nili, .nili => true
  | .nilf, .nilf => true
  | .fn f c, .fn f' c' => Nat.beq f f' && c == c'
  | .nils, .nils => true
  | .slc a b c d e, .slc a' b' c' d' e' => Nat.beq a a' && Nat.beq b b' && Nat.beq c c' && Nat.beq d d' && e == e'
  | .und, .und => true
  | .mp a, .mp b => Nat.beq a b
  | .nilm, .nilm => true
  | .sy k i, .sy k' j => ikEq k k' && Nat.beq i j
  | _, _ => false
def hvEqs : List HV → List HV → Bool
  | [], [] => true
  | a :: r, b :: s => hvEq a b && hvEqs r s
  | _, _ => false
def hvEqT : List HV → List HV → Bool
  | [], [] => true
  | a :: r, b :: s => (match a, b with
    | .agg x, .agg y => hvEqs x y
    | a, b => hvEq a b) && hvEqT r s
  | _, _ => false
def vEq (a b : HV) : Bool := match a, b with
  | .agg x, .agg y => hvEqs x y
  | .tup x, .tup y => hvEqT x y
  | a, b => hvEq a b
def valO (o : FOp) (t : L) (f : F) (h : HT) : HV := match o with
  | .u1 _ q x => q (x.ev t f)
  | .u2 _ q x y => q (x.ev t f) (y.ev t f)
  | .u3 _ q x y z => q (x.ev t f) (y.ev t f) (z.ev t f)
  | .un _ q xs => q (evs xs t f)
  | .h1 _ q x => q h (x.ev t f)
  | _ => .dead
def valG (o : FOp) (t : L) (f : F) (h : HT) : HV := match o with
  | .grd g want _ o => match wants (g.ev t f) want with
    | some true => valO o t f h
    | some false => .und
    | none => .dead
  | o => valO o t f h
def same (p : HT → Bool) (n : Nat) (hs : List HT) : Bool := Nat.rec (motive := fun _ => List HT → Bool) (fun _ => true) (fun _ ih hs => List.casesOn hs false fun h r => (p h).casesOn false (ih r)) n hs
inductive Pend where
  | nil
  | cons (n : Nat) (p : HT → Bool) (r : Pend)
def pAll (h : HT) (l : Pend) : Bool := Pend.rec (motive := fun _ => Bool) true (fun n p _ ih => Nat.casesOn n ih fun _ => (p h).casesOn false ih) l
def pNext (l : Pend) : Pend := Pend.rec (motive := fun _ => Pend) .nil (fun n p _ ih => Nat.casesOn n ih fun n => .cons n p ih) l
def underC (c : Nat) (v : HV) : Bool := match v with
  | .ptr k _ => Nat.blt k c
  | .slc k _ _ _ _ => Nat.blt k c
  | .mp k => Nat.blt k c
  | .fn _ caps => caps.all fun p => Nat.blt p.1 c
  | .agg _ => false
  | .tup _ => false
  | _ => true
def underV (c : Nat) (v : HV) : Bool := match v with
  | .agg cs => cs.all (underC c)
  | v => underC c v
def underA (c : Nat) (vs : List HV) : Bool := vs.all (underV c)
abbrev DK := List HT → Pend → K
def dNil (D : Nat) (_ : List HT) (_ : Pend) (t : L) (s : S) : R := (Nat.ble s.c (Nat.pow 4 D)).casesOn (.x 64) (.n t s)
def dPure (o : FOp) (_ : DOps) (ih : DK) (hs : List HT) (p : Pend) (t : L) (s : S) : R := exec cl o (ih hs p) t s
def dRead (o : FOp) (back fwd : Nat) (_ : DOps) (ih : DK) (hs : List HT) (p : Pend) (t : L) (s : S) : R :=
  exec cl o (fun t' s' => (same (fun h => vEq (hd t') (valG o t s.f h)) (Nat.succ back) hs).casesOn (.x 60)
    (ih hs (Nat.casesOn fwd p fun n => .cons (Nat.succ n) (fun h => vEq (hd t') (valG o t s.f h)) p) t' s')) t s
def dNew (o : FOp) (chk : List G) (_ : DOps) (ih : DK) (hs : List HT) (p : Pend) (t : L) (s : S) : R := (underA s.c (evs chk t s.f)).casesOn (.x 61) (exec cl o (ih hs p) t s)
def dEff (o : FOp) (chk : List G) (_ : DOps) (ih : DK) (hs : List HT) (p : Pend) (t : L) (s : S) : R := (underA s.c (evs chk t s.f)).casesOn (.x 62)
  (exec cl o (fun t' s' => (pAll s'.h p && Nat.ble s.c s'.c).casesOn (.x 63) (ih (s'.h :: hs) (pNext p) t' s')) t s)
def runD (D : Nat) (l : DOps) : DK := DOps.rec (motive := fun _ => DK) (dNil D) (dPure cl) (dRead cl) (dNew cl) (dEff cl) l
def runDraw (D : Nat) (l : DOps) (t : L) (s : S) : R := runD cl D l [s.h] .nil t s
end
noncomputable section
inductive Tk where
  | c (c : FCode)
  | w (sc : Code) (c : FCode)
abbrev Rec := Tk → L → S → R
def andThen (k : L → S → R) (r : R) : R := R.rec (motive := fun _ => (L → S → R) → R) (fun t s k => k t s) (fun i s _ => .ex i s) (fun l s _ => .go l s) (fun s _ => .ret s) (fun w _ => .x w) r k
def inBlock (id : Nat) (r : R) : R := R.rec (motive := fun _ => Nat → R) (fun t s _ => .n t s) (fun i s id => (Nat.beq i id).casesOn (.ex i s) (.n [] s)) (fun l s _ => .go l s) (fun s _ => .ret s) (fun w _ => .x w) r id
def br (a b : R) (v : HV) : R := match v with
  | .bool c => c.casesOn b a
  | _ => .x 52
variable (Pr : Program) (D : Nat) (nt gl : Nat) (rec : Rec)
def again (sc : Code) (l : Nat) (s : S) : R := match findLabel sc l with
  | some rest => rec (.w sc (comp Pr D nt gl [] rest)) [] s
  | none => .go l s
def inScope (sc : Code) (r : R) : R := R.casesOn r (fun t s => .n t s) (fun i s => .ex i s) (again Pr D nt gl rec sc) (fun s => .ret s) fun w => .x w
variable (ops : FOps → K) (dops : DOps → K)
def cSkip (t : L) (s : S) : R := .n t s
def cOps (l : FOps) (_ : L) (s : S) : R := ops l [] s
def cDraw (l : DOps) (_ : L) (s : S) : R := dops l [] s
def cSeq (a b : FCode) (t : L) (s : S) : R := andThen (rec (.c b)) (rec (.c a) t s)
def cCond (g : G) (a b : FCode) (t : L) (s : S) : R := br (rec (.c a) [] s) (rec (.c b) [] s) (g.ev t s.f)
def cBlock (id : Nat) (c : FCode) (_ : L) (s : S) : R := inBlock id (rec (.c c) [] s)
def cLoop (c : FCode) (_ : L) (s : S) : R := andThen (fun _ s => rec (.c (.loop c)) [] s) (rec (.c c) [] s)
def cExit (id : Nat) (_ : L) (s : S) : R := .ex id s
def cScope (sc : Code) (c : FCode) (_ : L) (s : S) : R := rec (.w sc c) [] s
def cGoto (l : Nat) (_ : L) (s : S) : R := .go l s
def cRet (_ : L) (s : S) : R := .ret s
def cBad (why : Nat) (_ : L) (_ : S) : R := .x why
def stepC (c : FCode) (t : L) (s : S) : R := FCode.rec (motive := fun _ => Rec → (FOps → K) → (DOps → K) → L → S → R)
  (fun _ _ _ => cSkip) (fun l _ ops _ => cOps ops l) (fun l _ _ dops => cDraw dops l) (fun a b _ _ rec _ _ => cSeq rec a b) (fun g a b _ _ rec _ _ => cCond rec g a b) (fun id c _ rec _ _ => cBlock rec id c)
  (fun c _ rec _ _ => cLoop rec c) (fun id _ _ _ => cExit id) (fun sc c _ rec _ _ => cScope rec sc c) (fun l _ _ _ => cGoto l) (fun _ _ _ => cRet) (fun w _ _ _ => cBad w) c rec ops dops t s
def stepT (t : Tk) : L → S → R := Tk.casesOn t (stepC rec ops dops) fun sc c t s => inScope Pr D nt gl rec sc (rec (.c c) t s)
def und1 : Q HV := ⟨.und, .und, .und, .und⟩
def und2 : Q (Q HV) := ⟨und1, und1, und1, und1⟩
def und3 : Q (Q (Q HV)) := ⟨und2, und2, und2, und2⟩
def und4 : F := ⟨und3, und3, und3, und3⟩
def initF : List P → List HV → F → Option F
  | [], [], f => some f
  | p :: ps, v :: vs, f => initF ps vs (match p with | .var u => u v f | _ => f)
  | _, _, _ => none
def resV (h : HT) (f : F) (g : RG) : HV := match g with
  | .t g => g.ev [] f
  | .h q g => q h (g.ev [] f)
  | .no => .dead
def HV.live : HV → Bool
  | .dead => false
  | .any => false
  | .tup _ => false
  | _ => true
def oneOf (vs : List HV) : HV := (vs.all HV.live).casesOn .dead (match vs with
  | [v] => v
  | vs => .tup vs)
def leave (rs : List RG) (s : S) : CR := .ok (oneOf (rs.map (resV s.h s.f))) s.h s.c
def endR (rs : List RG) (r : R) : CR := R.casesOn r (fun _ s => leave rs s) (fun _ _ => .x 53) (fun _ _ => .x 54) (fun s => leave rs s) fun w => .x w
end
noncomputable section
variable (Pr : Program) (D N : Nat)
def runT (cl : Cl) (nt gl n : Nat) : Rec := Nat.rec (motive := fun _ => Rec) (fun _ _ _ => .x 50) (fun _ ih => stepT Pr D nt gl ih (runOps cl) (runDraw cl D)) n
def enter (cl : Cl) (fn : FFn) (args : List HV) (h : HT) (c : Nat) : CR := match fn with
  | .f ps nt gl code rs => match initF ps args und4 with
    | some f => endR rs (runT Pr D cl nt gl N (.c code) [] ⟨f, h, c⟩)
    | none => .x 55
  | .no => .x 56
def callN (n : Nat) : Cl := Nat.rec (motive := fun _ => Cl) (fun _ _ _ _ => .x 51) (fun _ ih f args h c => enter Pr D N ih (compFn Pr D f) args h c) n
def isTrue : CR → Bool
  | .ok v _ _ => match v with
    | .bool b => b
    | _ => false
  | _ => false
end
end Go.FM
end

section
namespace Go.FM
noncomputable section
theorem sel4_lt {α : Type} (i : Nat) (a b c d : α) : sel4 i a b c d = if i = 0 then a else if i = 1 then b else if i = 2 then c else d := by
  rcases i with _ | _ | _ | i <;> first | rfl | (show d = _; simp)
theorem kid_setKid {i j : Nat} (hi : i < 4) (hj : j < 4) (f : HT → HT) (t : HT) (h : ∀ o, t ≠ .leaf o) : kid i (setKid j f t) = if i = j then f (kid j t) else kid i t := by
  cases t with
  | leaf o => exact absurd rfl (h o)
  | nil =>
    rcases i with _ | _ | _ | _ | i <;> rcases j with _ | _ | _ | _ | j <;> first | rfl | omega
  | node a b c d =>
    rcases i with _ | _ | _ | _ | i <;> rcases j with _ | _ | _ | _ | j <;> first | rfl | omega
def HT.deep : Nat → HT → Prop
  | 0, t => (t = .nil) ∨ ∃ o, t = .leaf o
  | n + 1, t => t = .nil ∨ ∃ a b c d, t = .node a b c d ∧ HT.deep n a ∧ HT.deep n b ∧ HT.deep n c ∧ HT.deep n d
theorem deep_nil : ∀ n, HT.deep n .nil
  | 0 => .inl rfl
  | n + 1 => .inl rfl
theorem deep_kid {n : Nat} {t : HT} (h : HT.deep (n + 1) t) (i : Nat) : HT.deep n (kid i t) := by
  rcases h with rfl | ⟨a, b, c, d, rfl, ha, hb, hc, hd⟩
  · exact deep_nil n
  · rcases i with _ | _ | _ | i
    · exact ha
    · exact hb
    · exact hc
    · exact hd
theorem deep_set : ∀ (n k : Nat) (o : HO) (t : HT), HT.deep n t → HT.deep n (HT.set n k o t)
  | 0, k, o, t, _ => .inr ⟨o, rfl⟩
  | n + 1, k, o, t, h => by
    have hm : Nat.mod k 4 < 4 := Nat.mod_lt _ (by omega)
    show HT.deep (n + 1) (setKid (Nat.mod k 4) (HT.set n (Nat.div k 4) o) t)
    have key : ∀ x, HT.deep n x → HT.deep n (HT.set n (Nat.div k 4) o x) := fun x hx => deep_set n _ o x hx
    generalize Nat.mod k 4 = i at hm ⊢
    rcases h with rfl | ⟨a, b, c, d, rfl, ha, hb, hc, hd⟩
    · rcases i with _ | _ | _ | _ | i
      · exact .inr ⟨_, _, _, _, rfl, key _ (deep_nil n), deep_nil n, deep_nil n, deep_nil n⟩
      · exact .inr ⟨_, _, _, _, rfl, deep_nil n, key _ (deep_nil n), deep_nil n, deep_nil n⟩
      · exact .inr ⟨_, _, _, _, rfl, deep_nil n, deep_nil n, key _ (deep_nil n), deep_nil n⟩
      · exact .inr ⟨_, _, _, _, rfl, deep_nil n, deep_nil n, deep_nil n, key _ (deep_nil n)⟩
      · omega
    · rcases i with _ | _ | _ | _ | i
      · exact .inr ⟨_, _, _, _, rfl, key _ ha, hb, hc, hd⟩
      · exact .inr ⟨_, _, _, _, rfl, ha, key _ hb, hc, hd⟩
      · exact .inr ⟨_, _, _, _, rfl, ha, hb, key _ hc, hd⟩
      · exact .inr ⟨_, _, _, _, rfl, ha, hb, hc, key _ hd⟩
      · omega
theorem get_nil : ∀ (n k : Nat), HT.get n k .nil = .no
  | 0, k => rfl
  | n + 1, k => by
    show HT.get n (Nat.div k 4) (kid (Nat.mod k 4) .nil) = .no
    exact get_nil n _
theorem get_set : ∀ (n k j : Nat) (o : HO) (t : HT), HT.deep n t → k < 4 ^ n → j < 4 ^ n → HT.get n k (HT.set n j o t) = if k = j then o else HT.get n k t
  | 0, k, j, o, t, _, hk, hj => by
    have : k = j := by simp at hk hj; omega
    rw [if_pos this]; rfl
  | n + 1, k, j, o, t, h, hk, hj => by
    have hmk : k % 4 < 4 := Nat.mod_lt _ (by omega)
    have hmj : j % 4 < 4 := Nat.mod_lt _ (by omega)
    show HT.get n (k / 4) (kid (k % 4) (setKid (j % 4) (HT.set n (j / 4) o) t)) = _
    have hl : ∀ o, t ≠ .leaf o := fun o e => by
      rcases h with rfl | ⟨a, b, c, d, rfl, _⟩ <;> cases e
    rw [kid_setKid hmk hmj _ t hl]
    have hp : 4 ^ (n + 1) = 4 ^ n * 4 := Nat.pow_succ 4 n
    by_cases hm : k % 4 = j % 4
    · rw [if_pos hm, get_set n (k / 4) (j / 4) o _ (deep_kid h _) (by omega) (by omega)]
      by_cases hkj : k = j
      · subst hkj; simp
      · rw [if_neg hkj, if_neg (by omega), ← hm]; rfl
    · rw [if_neg hm, if_neg (by intro e; subst e; exact hm rfl)]; rfl
theorem Qget_upd {α : Type} {i j : Nat} (hi : i < 4) (hj : j < 4) (f : α → α) (q : Q α) : Q.get i (Q.upd j f q) = if i = j then f (Q.get j q) else Q.get i q := by
  obtain ⟨a, b, c, d⟩ := q
  rcases i with _ | _ | _ | _ | i <;> rcases j with _ | _ | _ | _ | j <;> first | rfl | omega
theorem fget_fset {r s : Nat} (hr : r < 256) (hs : s < 256) (v : HV) (f : F) : fget r (fset s v f) = if r = s then v else fget r f := by
  unfold fget fset
  rw [Qget_upd (by omega) (by omega)]
  by_cases h1 : r / 64 = s / 64
  · rw [if_pos h1, Qget_upd (by omega) (by omega)]
    by_cases h2 : r / 16 % 4 = s / 16 % 4
    · rw [if_pos h2, Qget_upd (by omega) (by omega)]
      by_cases h3 : r / 4 % 4 = s / 4 % 4
      · rw [if_pos h3, Qget_upd (by omega) (by omega)]
        by_cases h4 : r % 4 = s % 4
        · rw [if_pos h4, if_pos (by omega)]
        · rw [if_neg h4, if_neg (by omega), h1, h2, h3]
      · rw [if_neg h3, if_neg (by omega), h1, h2]
    · rw [if_neg h2, if_neg (by omega), h1]
  · rw [if_neg h1, if_neg (by omega)]
theorem gVar_ev (r : Nat) (t : L) (f : F) : (gVar r).ev t f = fget r f := by
  have key : ∀ (i : Nat) {β : Type} (k : (∀ {α : Type}, Q α → α) → β), ∃ p : ∀ {α : Type}, Q α → α, selG i k = k p ∧ ∀ (α : Type) (q : Q α), p q = Q.get i q := by
    intro i β k
    rcases i with _ | _ | _ | i
    · exact ⟨fun {_} q => q.a, rfl, fun _ _ => rfl⟩
    · exact ⟨fun {_} q => q.b, rfl, fun _ _ => rfl⟩
    · exact ⟨fun {_} q => q.c, rfl, fun _ _ => rfl⟩
    · exact ⟨fun {_} q => q.d, rfl, fun _ _ => rfl⟩
  unfold gVar
  obtain ⟨p0, e0, h0⟩ := key (Nat.div r 64) (fun p0 => selG (Nat.mod (Nat.div r 16) 4) fun p1 => selG (Nat.mod (Nat.div r 4) 4) fun p2 => selG (Nat.mod r 4) fun p3 => G.f fun _ s => p3 (p2 (p1 (p0 s))))
  rw [e0]
  obtain ⟨p1, e1, h1⟩ := key (Nat.mod (Nat.div r 16) 4) (fun p1 => selG (Nat.mod (Nat.div r 4) 4) fun p2 => selG (Nat.mod r 4) fun p3 => G.f fun _ s => p3 (p2 (p1 (p0 s))))
  rw [e1]
  obtain ⟨p2, e2, h2⟩ := key (Nat.mod (Nat.div r 4) 4) (fun p2 => selG (Nat.mod r 4) fun p3 => G.f fun _ s => p3 (p2 (p1 (p0 s))))
  rw [e2]
  obtain ⟨p3, e3, h3⟩ := key (Nat.mod r 4) (fun p3 => G.f fun _ s => p3 (p2 (p1 (p0 s))))
  rw [e3]
  show p3 (p2 (p1 (p0 f))) = _
  rw [h3, h2, h1, h0]; rfl
theorem pVar_eq (r : Nat) : ∃ u, pVar r = .var u ∧ ∀ v f, u v f = fset r v f := by
  have key : ∀ (i : Nat) {β : Type} (k : (∀ {α : Type}, (α → α) → Q α → Q α) → β), ∃ p : ∀ {α : Type}, (α → α) → Q α → Q α, selU i k = k p ∧ ∀ (α : Type) (f : α → α) (q : Q α), p f q = Q.upd i f q := by
    intro i β k
    rcases i with _ | _ | _ | i
    · exact ⟨updA, rfl, fun _ _ _ => rfl⟩
    · exact ⟨updB, rfl, fun _ _ _ => rfl⟩
    · exact ⟨updC, rfl, fun _ _ _ => rfl⟩
    · exact ⟨updD, rfl, fun _ _ _ => rfl⟩
  unfold pVar
  obtain ⟨u0, e0, h0⟩ := key (Nat.div r 64) (fun u0 => selU (Nat.mod (Nat.div r 16) 4) fun u1 => selU (Nat.mod (Nat.div r 4) 4) fun u2 => selU (Nat.mod r 4) fun u3 => P.var fun v s => u0 (u1 (u2 (u3 fun _ => v))) s)
  rw [e0]
  obtain ⟨u1, e1, h1⟩ := key (Nat.mod (Nat.div r 16) 4) (fun u1 => selU (Nat.mod (Nat.div r 4) 4) fun u2 => selU (Nat.mod r 4) fun u3 => P.var fun v s => u0 (u1 (u2 (u3 fun _ => v))) s)
  rw [e1]
  obtain ⟨u2, e2, h2⟩ := key (Nat.mod (Nat.div r 4) 4) (fun u2 => selU (Nat.mod r 4) fun u3 => P.var fun v s => u0 (u1 (u2 (u3 fun _ => v))) s)
  rw [e2]
  obtain ⟨u3, e3, h3⟩ := key (Nat.mod r 4) (fun u3 => P.var fun v s => u0 (u1 (u2 (u3 fun _ => v))) s)
  rw [e3]
  refine ⟨_, rfl, fun v f => ?_⟩
  rw [h0]
  have q1 : u1 (u2 (u3 fun _ => v)) = Q.upd (Nat.mod (Nat.div r 16) 4) (Q.upd (Nat.mod (Nat.div r 4) 4) (Q.upd (Nat.mod r 4) fun _ => v)) := by
    funext q
    rw [h1]
    have q2 : u2 (u3 fun _ => v) = Q.upd (Nat.mod (Nat.div r 4) 4) (Q.upd (Nat.mod r 4) fun _ => v) := by
      funext q
      rw [h2]
      have q3 : (u3 fun _ => v) = Q.upd (Nat.mod r 4) fun _ => v := by funext q; rw [h3]
      rw [q3]
    rw [q2]
  rw [q1]; rfl
theorem rank_succ (gl t : Nat) : rank gl (t + 1) = rank gl t + (gl.testBit t).toNat := by
  rw [rank]
  cases gl.testBit t <;> rfl
theorem rank_mono (gl : Nat) {t u : Nat} (h : t ≤ u) : rank gl t ≤ rank gl u := by
  induction h with
  | refl => exact Nat.le_refl _
  | step _ ih => rw [rank_succ]; omega
theorem rank_lt (gl : Nat) {t u : Nat} (h : t < u) (ht : gl.testBit t = true) : rank gl t < rank gl u := by
  have h1 := rank_mono gl (show t + 1 ≤ u from h)
  rw [rank_succ, ht] at h1
  simp at h1; omega
theorem rank_inj (gl : Nat) {t u : Nat} (ht : gl.testBit t = true) (hu : gl.testBit u = true) (h : rank gl t = rank gl u) : t = u := by
  rcases Nat.lt_trichotomy t u with h1 | h1 | h1
  · have := rank_lt gl h1 ht; omega
  · exact h1
  · have := rank_lt gl h1 hu; omega
structure At where
  b : Nat
  o : Nat
  len : Nat
  bs : Nat
abbrev Gm := Nat → At
def addrOf (g : Gm) (k off : Nat) : Addr := ⟨(g k).b, (g k).o + off, none⟩
def bytesOf (n d : Nat) : List UInt8 := (List.range n).map fun i => UInt8.ofNat (d / 256 ^ i % 256)
def strOf (n d : Nat) : Value := .string ⟨(bytesOf n d).toArray⟩
class Env where
  m : Nat
  ρ : Nat → Int
  mono : ∀ i j, i < j → j < m → ρ i < ρ j
  keep : Nat → Option Obj
abbrev noEnv : Env := ⟨0, fun _ => 0, fun i j _ h => absurd h (Nat.not_lt_zero _), fun _ => none⟩
variable [Env]
def Nm (g : Gm) (c k : Nat) : Prop := k < c ∧ (g k).o + (g k).len ≤ (g k).bs
def CRep (g : Gm) (c : Nat) (x : HV) (v : Value) : Prop := match x with
  | .int k n => v = .int k n
  | .bool b => v = .bool b
  | .flt k b => v = .float k b
  | .cpx k a b => v = .complex k a b
  | .str n d => d < 256 ^ n ∧ v = strOf n d
  | .ptr k off => Nm g c k ∧ v = .pointer (some (addrOf g k off))
  | .nilp => v = .pointer none
  | .nili => v = .nilIface
  | .nilf => v = .nilFunc
  | .fn f caps => (∀ p, p ∈ caps → Nm g c p.1) ∧ v = .func (.func f) #[] (caps.map fun p => Value.pointer (some (addrOf g p.1 p.2))).toArray
  | .nils => v = .slice none 0 0
  | .slc k o n es cl => Nm g c k ∧ ∃ A m, v = .slice (some A) n m ∧ n ≤ m ∧ m ≤ maxLen ∧ 0 < es ∧ o + n * es ≤ (g k).len ∧ (g k).o + o + m * es ≤ (g k).bs ∧ (cl = false → (g k).len ≤ o + m * es) ∧ (cl = true → m = n) ∧ (0 < m → A = addrOf g k o)
  | .und => v = undef
  | .dead => True
  | .md k m r => ∃ n : Nat, v = .int k n ∧ n % m = r ∧ n ≤ top k
  | .ub => ∃ b, v = .bool b
  | .mp k => Nm g c k ∧ v = .map (some (g k).b)
  | .nilm => v = .map none
  | .any => True
  | .sy k i => i < Env.m ∧ v = .int k (Env.ρ i)
  | .par k r => ∃ n : Int, v = .int k n ∧ n % 2 = Int.ofNat r ∧ k.min ≤ n ∧ n ≤ k.max
  | .agg _ => False
  | .tup _ => False
def CReps (g : Gm) (c : Nat) (cs : List HV) (vs : List Value) : Prop := vs.length = cs.length ∧ ∀ (i : Nat) (x : HV) (u : Value), cs[i]? = some x → vs[i]? = some u → CRep g c x u ∧ u.oneCell' = true
def VRep (g : Gm) (c : Nat) (x : HV) (v : Value) : Prop := match x with
  | .agg cs => ∃ vs : List Value, v = .agg vs.toArray ∧ CReps g c cs vs
  | x => CRep g c x v
def TRep (g : Gm) (c : Nat) (x : HV) (v : Value) : Prop := match x with
  | .tup as => ∃ vs : List Value, v = .tuple vs.toArray ∧ vs.length = as.length ∧ ∀ (i : Nat) (x : HV) (u : Value), as[i]? = some x → vs[i]? = some u → VRep g c x u
  | x => VRep g c x v
def TReps (g : Gm) (c : Nat) (xs : List HV) (vs : List Value) : Prop := vs.length = xs.length ∧ ∀ (i : Nat) (x : HV) (u : Value), xs[i]? = some x → vs[i]? = some u → TRep g c x u
def Agree (c : Nat) (g g' : Gm) : Prop := ∀ k, k < c → g' k = g k
def Agr (c : Nat) (g g' : Gm) : Prop := ∀ k, Nm g c k → g' k = g k
theorem Agree.weak {g g' : Gm} {c : Nat} (h : Agree c g g') : Agr c g g' := fun k hk => h k hk.1
theorem Nm.mono' {g g' : Gm} {c c' k : Nat} (h : Nm g c k) (ha : Agr c g g') (hc : c ≤ c') : Nm g' c' k := ⟨Nat.lt_of_lt_of_le h.1 hc, by rw [ha k h]; exact h.2⟩
theorem CRep.mono' {g g' : Gm} {c c' : Nat} {x : HV} {v : Value} (h : CRep g c x v) (ha : Agr c g g') (hc : c ≤ c') : CRep g' c' x v := by
  cases x with
  | ptr k off => exact ⟨h.1.mono' ha hc, by rw [h.2]; simp only [addrOf, ha k h.1]⟩
  | fn f caps =>
    refine ⟨fun p hp => (h.1 p hp).mono' ha hc, ?_⟩
    rw [h.2]
    congr 2
    exact List.map_congr_left fun p hp => by simp only [addrOf, ha p.1 (h.1 p hp)]
  | slc k o n es cl =>
    obtain ⟨hk, A, m, h1⟩ := h
    refine ⟨hk.mono' ha hc, A, m, ?_⟩
    simp only [addrOf, ha k hk]
    exact h1
  | mp k => exact ⟨h.1.mono' ha hc, by rw [h.2, ha k h.1]⟩
  | _ => exact h
theorem CReps.mono' {g g' : Gm} {c c' : Nat} {xs : List HV} {vs : List Value} (h : CReps g c xs vs) (ha : Agr c g g') (hc : c ≤ c') : CReps g' c' xs vs :=
  ⟨h.1, fun i x u hx hu => ⟨(h.2 i x u hx hu).1.mono' ha hc, (h.2 i x u hx hu).2⟩⟩
theorem VRep.mono' {g g' : Gm} {c c' : Nat} {x : HV} {v : Value} (h : VRep g c x v) (ha : Agr c g g') (hc : c ≤ c') : VRep g' c' x v := by
  cases x with
  | agg cs => obtain ⟨vs, h1, h2⟩ := h; exact ⟨vs, h1, h2.mono' ha hc⟩
  | _ => unfold VRep at h ⊢; exact CRep.mono' h ha hc
theorem TRep.mono' {g g' : Gm} {c c' : Nat} {x : HV} {v : Value} (h : TRep g c x v) (ha : Agr c g g') (hc : c ≤ c') : TRep g' c' x v := by
  cases x with
  | tup as => obtain ⟨vs, h1, h2, h3⟩ := h; exact ⟨vs, h1, h2, fun i x u hx hu => (h3 i x u hx hu).mono' ha hc⟩
  | _ => unfold TRep at h ⊢; exact VRep.mono' h ha hc
theorem TReps.mono' {g g' : Gm} {c c' : Nat} {xs : List HV} {vs : List Value} (h : TReps g c xs vs) (ha : Agr c g g') (hc : c ≤ c') : TReps g' c' xs vs :=
  ⟨h.1, fun i x u hx hu => (h.2 i x u hx hu).mono' ha hc⟩
theorem Nm.mono {g g' : Gm} {c c' k : Nat} (h : Nm g c k) (ha : Agree c g g') (hc : c ≤ c') : Nm g' c' k := h.mono' ha.weak hc
theorem CRep.mono {g g' : Gm} {c c' : Nat} {x : HV} {v : Value} (h : CRep g c x v) (ha : Agree c g g') (hc : c ≤ c') : CRep g' c' x v := h.mono' ha.weak hc
theorem CReps.mono {g g' : Gm} {c c' : Nat} {xs : List HV} {vs : List Value} (h : CReps g c xs vs) (ha : Agree c g g') (hc : c ≤ c') : CReps g' c' xs vs := h.mono' ha.weak hc
theorem VRep.mono {g g' : Gm} {c c' : Nat} {x : HV} {v : Value} (h : VRep g c x v) (ha : Agree c g g') (hc : c ≤ c') : VRep g' c' x v := h.mono' ha.weak hc
theorem TRep.mono {g g' : Gm} {c c' : Nat} {x : HV} {v : Value} (h : TRep g c x v) (ha : Agree c g g') (hc : c ≤ c') : TRep g' c' x v := h.mono' ha.weak hc
theorem TReps.mono {g g' : Gm} {c c' : Nat} {xs : List HV} {vs : List Value} (h : TReps g c xs vs) (ha : Agree c g g') (hc : c ≤ c') : TReps g' c' xs vs := h.mono' ha.weak hc
theorem VRep.of_cell {g : Gm} {c : Nat} {x : HV} {v : Value} (h : CRep g c x v) : VRep g c x v := by
  cases x <;> first | exact h | exact h.elim
theorem TRep.of_cell {g : Gm} {c : Nat} {x : HV} {v : Value} (h : CRep g c x v) : TRep g c x v := by
  cases x <;> first | exact h | exact h.elim
theorem TRep.of_val {g : Gm} {c : Nat} {x : HV} {v : Value} (h : VRep g c x v) : TRep g c x v := by
  cases x <;> first | exact h | exact (show False from h).elim
theorem CRep.one {g : Gm} {c : Nat} {x : HV} {v : Value} (h : CRep g c x v) (hx : x.isCell = true) : v.oneCell' = true := by
  cases x <;> simp only [HV.isCell, Bool.false_eq_true] at hx <;> simp only [CRep] at h
  case str => rw [h.2]; rfl
  case ptr => rw [h.2]; rfl
  case fn => rw [h.2]; rfl
  case slc => obtain ⟨_, A, m, h, _⟩ := h; rw [h]; rfl
  case md => obtain ⟨n, h, _⟩ := h; rw [h]; rfl
  case ub => obtain ⟨b, h⟩ := h; rw [h]; rfl
  case sy => rw [h.2]; rfl
  case par => obtain ⟨n, h, _⟩ := h; rw [h]; rfl
  case mp => rw [h.2]; rfl
  all_goals (subst h; rfl)
theorem TRep.cell {g : Gm} {c : Nat} {x : HV} {v : Value} (h : TRep g c x v) (hx : x.isCell = true) : CRep g c x v := by
  cases x <;> first | exact h | simp [HV.isCell] at hx
theorem TRep.cells {g : Gm} {c : Nat} {x : HV} {v : Value} (h : TRep g c x v) (hx : x.cells.all HV.isCell = true) : CReps g c x.cells v.cells.toList := by
  cases x with
  | agg cs =>
    obtain ⟨vs, rfl, h1⟩ := h
    simpa [Value.cells, HV.cells] using h1
  | _ =>
    have hc := TRep.cell h (by simpa [HV.cells] using hx)
    have h1 := hc.one (by simpa [HV.cells] using hx)
    have hcl : v.cells = #[v] := by cases v <;> simp_all [Value.cells, Value.oneCell']
    rw [hcl]
    refine ⟨rfl, fun i y u h2 h3 => ?_⟩
    cases i with
    | zero => simp [HV.cells] at h2 h3; subst h2; subst h3; exact ⟨hc, h1⟩
    | succ i => simp [HV.cells] at h2
def BRep (g : Gm) (c : Nat) (b : HB) (us : List Value) : Prop := match b with
  | .no => False
  | .cells cs => CReps g c cs us
  | .byt n d => d < 256 ^ n ∧ us = (bytesOf n d).map fun b => Value.int .u8 b.toNat
  | .map _ _ => False
theorem BRep.mono' {g g' : Gm} {c c' : Nat} {b : HB} {us : List Value} (h : BRep g c b us) (ha : Agr c g g') (hc : c ≤ c') : BRep g' c' b us := by
  cases b with
  | no => exact h
  | cells cs => exact CReps.mono' h ha hc
  | byt n d => exact h
  | map es cl => exact h
theorem BRep.mono {g g' : Gm} {c c' : Nat} {b : HB} {us : List Value} (h : BRep g c b us) (ha : Agree c g g') (hc : c ≤ c') : BRep g' c' b us := h.mono' ha.weak hc
def At.row (a : At) (vs : List Value) : List Value := (vs.drop a.o).take a.len
def MRep (g : Gm) (c : Nat) (e : ME) (m : MapEntry) : Prop := m.key = .int .i64 e.key ∧ VRep g c e.val m.val ∧ m.born = e.born
def MReps (g : Gm) (c : Nat) : List ME → List MapEntry → Prop
  | [], [] => True
  | e :: r, m :: s => MRep g c e m ∧ MReps g c r s
  | _, _ => False
theorem MReps.mono' {g g' : Gm} {c c' : Nat} (ha : Agr c g g') (hc : c ≤ c') : ∀ {es : List ME} {ms : List MapEntry}, MReps g c es ms → MReps g' c' es ms
  | [], [], _ => trivial
  | e :: r, m :: s, h => ⟨⟨h.1.1, h.1.2.1.mono' ha hc, h.1.2.2⟩, MReps.mono' ha hc h.2⟩
  | [], _ :: _, h => h.elim
  | _ :: _, [], h => h.elim
def kvM (e : ME) : Int × HV := (e.key, e.val)
def simM (es es0 : List ME) : Prop := (es0.map kvM).Perm (es.map kvM)
def wfM (es : List ME) (cl : Nat) : Prop := (es.map ME.key).Nodup ∧ (es.map ME.born).Nodup ∧ ∀ e ∈ es, e.born < cl
def MapOk (g : Gm) (c : Nat) (es : List ME) (cl cl0 : Nat) (ms : List MapEntry) : Prop :=
  (MReps g c es ms ∧ cl0 = cl ∧ cl < uM) ∨ (uM ≤ cl ∧ ∃ es0, MReps g c es0 ms ∧ simM es es0 ∧ wfM es0 cl0)
theorem MapOk.mono' {g g' : Gm} {c c' : Nat} {es : List ME} {cl cl0 : Nat} {ms : List MapEntry} (h : MapOk g c es cl cl0 ms) (ha : Agr c g g') (hc : c ≤ c') : MapOk g' c' es cl cl0 ms := by
  rcases h with ⟨h1, h2⟩ | ⟨h1, es0, h2, h3⟩
  · exact .inl ⟨h1.mono' ha hc, h2⟩
  · exact .inr ⟨h1, es0, h2.mono' ha hc, h3⟩
def isMap : HB → Bool
  | .map _ _ => true
  | _ => false
def BOk (g : Gm) (c : Nat) (a : At) (b : HB) (w : World) : Prop :=
  (∃ (vs : List Value) (t : TypeId), w.heap[a.b]? = some (.cells vs.toArray t (0, 0)) ∧ vs.length = a.bs ∧ (a.o = 0 ∧ a.o + a.len ≤ a.bs) ∧ BRep g c b (a.row vs)) ∨
  ∃ (es : List ME) (cl cl0 : Nat) (ms : List MapEntry), b = .map es cl ∧ w.heap[a.b]? = some (.map ms.toArray cl0) ∧ (a.o = 0 ∧ a.o + a.len ≤ a.bs) ∧ MapOk g c es cl cl0 ms
theorem BOk.mono' {g g' : Gm} {c c' : Nat} {a : At} {b : HB} {w w' : World} (h : BOk g c a b w) (ha : Agr c g g') (hc : c ≤ c') (hw : w'.heap[a.b]? = w.heap[a.b]?) : BOk g' c' a b w' := by
  rcases h with ⟨vs, t, h1, h2, h3, h4⟩ | ⟨es, cl, cl0, ms, h0, h1, h2, h3⟩
  · exact .inl ⟨vs, t, by rw [hw]; exact h1, h2, h3, h4.mono' ha hc⟩
  · exact .inr ⟨es, cl, cl0, ms, h0, by rw [hw]; exact h1, h2, h3.mono' ha hc⟩
theorem BOk.mono {g g' : Gm} {c c' : Nat} {a : At} {b : HB} {w w' : World} (h : BOk g c a b w) (ha : Agree c g g') (hc : c ≤ c') (hw : w'.heap[a.b]? = w.heap[a.b]?) : BOk g' c' a b w' := h.mono' ha.weak hc hw
theorem BOk.ok {g : Gm} {c : Nat} {a : At} {b : HB} {w : World} (h : BOk g c a b w) : a.o + a.len ≤ a.bs := by
  rcases h with ⟨vs, t, h1, h2, h3, h4⟩ | ⟨es, cl, cl0, ms, h0, h1, h2, h3⟩
  · exact h3.2
  · exact h2.2
theorem BOk.zero {g : Gm} {c : Nat} {a : At} {b : HB} {w : World} (h : BOk g c a b w) : a.o = 0 := by
  rcases h with ⟨vs, t, h1, h2, h3, h4⟩ | ⟨es, cl, cl0, ms, h0, h1, h2, h3⟩
  · exact h3.1
  · exact h2.1
theorem BOk.lt {g : Gm} {c : Nat} {a : At} {b : HB} {w : World} (h : BOk g c a b w) : a.b < w.heap.size := by
  rcases h with ⟨vs, t, h1, _⟩ | ⟨es, cl, cl0, ms, h0, h1, _⟩ <;> exact (Array.getElem?_eq_some_iff.1 h1).1
theorem BOk.plain {g : Gm} {c : Nat} {a : At} {b : HB} {w : World} (h : BOk g c a b w) (hm : isMap b = false) : ∃ (vs : List Value) (t : TypeId), w.heap[a.b]? = some (.cells vs.toArray t (0, 0)) ∧ vs.length = a.bs ∧ (a.o = 0 ∧ a.o + a.len ≤ a.bs) ∧ BRep g c b (a.row vs) := by
  rcases h with h | ⟨es, cl, cl0, ms, h0, h1, h2, h3⟩
  · exact h
  · subst h0; cases hm
theorem BOk.asMap {g : Gm} {c : Nat} {a : At} {es : List ME} {cl : Nat} {w : World} (h : BOk g c a (.map es cl) w) : ∃ (ms : List MapEntry) (cl0 : Nat), w.heap[a.b]? = some (.map ms.toArray cl0) ∧ (a.o = 0 ∧ a.o + a.len ≤ a.bs) ∧ MapOk g c es cl cl0 ms := by
  rcases h with ⟨vs, t, h1, h2, h3, h4⟩ | ⟨es', cl', cl0, ms, h0, h1, h2, h3⟩
  · exact h4.elim
  · cases h0; exact ⟨ms, cl0, h1, h2, h3⟩
structure HInv (g : Gm) (h : Nat → HO) (c : Nat) (w : World) : Prop where
  own : ∀ k pre b, h k = .own pre b → BOk g c (g k) b w
  sh : ∀ k b, h k = .sh b → BOk g c (g k) b w
  apart : ∀ k b j pre b', h k = .sh b → h j = .own pre b' → (g j).b = (g k).b → pre = k + 1
  inj : ∀ k pre b k' pre' b', h k = .own pre b → h k' = .own pre' b' → (g k).b = (g k').b → k = k'
  lt : ∀ k, h k ≠ .no → k < c
  pre : ∀ k p b, h k = .own p b → p ≤ c
def Has (g : Gm) (h : Nat → HO) (b : Nat) : Prop := ∃ k, h k ≠ .no ∧ (g k).b = b
def Owns (g : Gm) (h : Nat → HO) (b : Nat) : Prop := ∃ k pre bd, h k = .own pre bd ∧ (g k).b = b
structure Post (g : Gm) (h : Nat → HO) (c : Nat) (w : World) (g' : Gm) (h' : Nat → HO) (c' : Nat) (w' : World) : Prop where
  ag : ∀ k, k < c ∨ c' ≤ k → g' k = g k
  le : c ≤ c'
  inv : HInv g' h' c' w'
  fr : ∀ b, b < w.heap.size → ¬ Owns g h b → w'.heap[b]? = w.heap[b]?
  ow : ∀ b, Owns g' h' b → w.heap.size ≤ b ∨ Owns g h b
  hs : ∀ b, Has g' h' b → w.heap.size ≤ b ∨ Has g h b
  sz : w.heap.size ≤ w'.heap.size
  os : w'.os = w.os
  tape : w'.tape = w.tape
  out : w'.output = w.output
theorem Post.agree {g : Gm} {h : Nat → HO} {c : Nat} {w : World} {g' : Gm} {h' : Nat → HO} {c' : Nat} {w' : World} (p : Post g h c w g' h' c' w') : Agree c g g' := fun k hk => p.ag k (.inl hk)
theorem Post.refl {g : Gm} {h : Nat → HO} {c : Nat} {w : World} (hi : HInv g h c w) : Post g h c w g h c w :=
  ⟨fun _ _ => rfl, Nat.le_refl _, hi, fun _ _ _ => rfl, fun _ h => .inr h, fun _ h => .inr h, Nat.le_refl _, rfl, rfl, rfl⟩
theorem Post.trans {g g1 g2 : Gm} {h h1 h2 : Nat → HO} {c c1 c2 : Nat} {w w1 w2 : World} (p : Post g h c w g1 h1 c1 w1) (q : Post g1 h1 c1 w1 g2 h2 c2 w2) : Post g h c w g2 h2 c2 w2 where
  ag := fun k hk => by
    have l1 := p.le
    have l2 := q.le
    rw [q.ag k (by omega), p.ag k (by omega)]
  le := Nat.le_trans p.le q.le
  inv := q.inv
  fr := fun b hb hn => by
    rw [q.fr b (Nat.lt_of_lt_of_le hb p.sz) (fun ho => ?_), p.fr b hb hn]
    rcases p.ow b ho with h | h
    · omega
    · exact hn h
  ow := fun b ho => by
    rcases q.ow b ho with h | h
    · exact .inl (Nat.le_trans p.sz h)
    · exact p.ow b h
  hs := fun b ho => by
    rcases q.hs b ho with h | h
    · exact .inl (Nat.le_trans p.sz h)
    · exact p.hs b h
  sz := Nat.le_trans p.sz q.sz
  os := q.os.trans p.os
  tape := q.tape.trans p.tape
  out := q.out.trans p.out
end
end Go.FM
end

section
namespace Go.FM
noncomputable section
variable [Env]
structure Ext (w w' : World) : Prop where
  os : w'.os = w.os
  tape : w'.tape = w.tape
  out : w'.output = w.output
  sz : w.heap.size ≤ w'.heap.size
  heap : ∀ b, b < w.heap.size → w'.heap[b]? = w.heap[b]?
theorem Ext.refl (w : World) : Ext w w := ⟨rfl, rfl, rfl, Nat.le_refl _, fun _ _ => rfl⟩
theorem Ext.trans {a b c : World} (h : Ext a b) (k : Ext b c) : Ext a c :=
  ⟨k.os.trans h.os, k.tape.trans h.tape, k.out.trans h.out, Nat.le_trans h.sz k.sz, fun x hx => (k.heap x (Nat.lt_of_lt_of_le hx h.sz)).trans (h.heap x hx)⟩
theorem Ext.alloc (w : World) (o : Obj) : Ext w (w.alloc o) := ⟨rfl, rfl, rfl, by simp, fun b hb => Go.RowKit.Below.heap_alloc w o b hb⟩
theorem Ext.drew (w : World) : Ext w w.drew := ⟨rfl, rfl, rfl, Nat.le_refl _, fun _ _ => rfl⟩
def upd (h : Nat → HO) (k : Nat) (o : HO) : Nat → HO := fun j => if j = k then o else h j
def Gm.new (g : Gm) (k : Nat) (a : At) : Gm := fun j => if j = k then a else g j
section
variable {g : Gm} {h : Nat → HO} {c : Nat} {w w' : World}
theorem HInv.ext (hi : HInv g h c w) (hx : Ext w w') : HInv g h c w' where
  own := fun k pre b hk => (hi.own k pre b hk).mono (fun _ _ => rfl) (Nat.le_refl _) (hx.heap _ (hi.own k pre b hk).lt)
  sh := fun k b hk => (hi.sh k b hk).mono (fun _ _ => rfl) (Nat.le_refl _) (hx.heap _ (hi.sh k b hk).lt)
  apart := hi.apart
  inj := hi.inj
  lt := hi.lt
  pre := hi.pre
theorem Post.ext (hi : HInv g h c w) (hx : Ext w w') : Post g h c w g h c w' :=
  ⟨fun _ _ => rfl, Nat.le_refl _, hi.ext hx, fun b hb _ => hx.heap b hb, fun _ h => .inr h, fun _ h => .inr h, hx.sz, hx.os, hx.tape, hx.out⟩
theorem Post.new (hi : HInv g h c w) (hx : Ext w w') {a : At} {b : HB} (ha : w.heap.size ≤ a.b) (hb : BOk (g.new c a) (c + 1) a b w') :
    Post g h c w (g.new c a) (upd h c (.own 0 b)) (c + 1) w' := by
  have hag : Agree c g (g.new c a) := fun k hk => by simp only [Gm.new, if_neg (show ¬ k = c by omega)]
  have hself : g.new c a c = a := by simp [Gm.new]
  have hne : ∀ {k}, h k ≠ .no → k ≠ c := fun {k} hk e => by have := hi.lt k hk; omega
  have hlo : ∀ {k pre bd}, h k = .own pre bd → (g.new c a k) = g k := fun {k pre bd} hk => hag k (hi.lt k (by rw [hk]; simp))
  have hls : ∀ {k bd}, h k = .sh bd → (g.new c a k) = g k := fun {k bd} hk => hag k (hi.lt k (by rw [hk]; simp))
  refine ⟨fun k hk => ?_, by omega, ⟨fun k pre bd hk => ?_, fun k bd hk => ?_, fun k bd j pre bd' hk hj he => ?_, fun k pre bd k' pre' bd' hk hk' he => ?_, fun k hk => ?_, fun k p bd hk => ?_⟩, fun b' hb' _ => hx.heap b' hb', fun b' ho => ?_, fun b' ho => ?_, hx.sz, hx.os, hx.tape, hx.out⟩
  · rcases hk with hk | hk <;> simp only [Gm.new, if_neg (show ¬ k = c by omega)]
  · simp only [upd] at hk
    split at hk
    · rename_i e; subst e
      simp only [HO.own.injEq] at hk
      obtain ⟨rfl, rfl⟩ := hk
      rw [hself]; exact hb
    · rw [hlo hk]
      exact (hi.own k pre bd hk).mono hag (by omega) (hx.heap _ (hi.own k pre bd hk).lt)
  · simp only [upd] at hk
    split at hk
    · cases hk
    · rw [hls hk]
      exact (hi.sh k bd hk).mono hag (by omega) (hx.heap _ (hi.sh k bd hk).lt)
  · simp only [upd] at hk hj
    split at hk
    · cases hk
    · rw [hls hk] at he
      split at hj
      · rename_i e; subst e
        rw [hself] at he
        have := (hi.sh k bd hk).lt
        omega
      · rw [hlo hj] at he
        exact hi.apart k bd j pre bd' hk hj he
  · simp only [upd] at hk hk'
    split at hk
    · rename_i e; subst e
      split at hk'
      · rename_i e'; exact e'.symm
      · rw [hself, hlo hk'] at he
        have := (hi.own k' pre' bd' hk').lt
        omega
    · split at hk'
      · rename_i e'; subst e'
        rw [hself, hlo hk] at he
        have := (hi.own k pre bd hk).lt
        omega
      · rw [hlo hk, hlo hk'] at he
        exact hi.inj k pre bd k' pre' bd' hk hk' he
  · simp only [upd] at hk
    split at hk
    · omega
    · have := hi.lt k hk; omega
  · simp only [upd] at hk
    split at hk
    · simp only [HO.own.injEq] at hk; omega
    · have := hi.pre k p bd hk; omega
  · obtain ⟨k, pre, bd, hk, he⟩ := ho
    simp only [upd] at hk
    split at hk
    · rename_i e; subst e
      rw [hself] at he
      left; omega
    · rw [hlo hk] at he
      exact .inr ⟨k, pre, bd, hk, he⟩
  · obtain ⟨k, hk, he⟩ := ho
    simp only [upd] at hk
    split at hk
    · rename_i e; subst e
      rw [hself] at he
      left; omega
    · rw [hag k (hi.lt k hk)] at he
      exact .inr ⟨k, hk, he⟩
structure Chg (b0 : Nat) (w w' : World) : Prop where
  os : w'.os = w.os
  tape : w'.tape = w.tape
  out : w'.output = w.output
  sz : w.heap.size ≤ w'.heap.size
  heap : ∀ b, b < w.heap.size → b ≠ b0 → w'.heap[b]? = w.heap[b]?
theorem Chg.setRow (w : World) (b : Nat) (cs : Array Value) : Chg b w (w.setRow b cs) := ⟨rfl, rfl, rfl, by simp, fun k _ hk => setRow_other w b k cs hk⟩
def unp (pre : Nat) (h : Nat → HO) : Nat → HO := match pre with
  | 0 => h
  | k + 1 => upd h k .no
theorem unp_sub {pre : Nat} {h : Nat → HO} (k : Nat) : unp pre h k = h k ∨ (unp pre h k = .no ∧ pre = k + 1) := by
  cases pre with
  | zero => exact .inl rfl
  | succ p =>
    simp only [unp, upd]
    by_cases e : k = p
    · subst e; right; simp
    · left; rw [if_neg e]
theorem unp_own {pre : Nat} {h : Nat → HO} {k q : Nat} {b : HB} (hk : unp pre h k = .own q b) : h k = .own q b := by
  rcases unp_sub (pre := pre) (h := h) k with e | ⟨e, _⟩
  · rw [← e]; exact hk
  · rw [e] at hk; cases hk
theorem unp_sh {pre : Nat} {h : Nat → HO} {k : Nat} {b : HB} (hk : unp pre h k = .sh b) : h k = .sh b ∧ pre ≠ k + 1 := by
  cases pre with
  | zero => exact ⟨hk, by omega⟩
  | succ p =>
    simp only [unp, upd] at hk
    split at hk
    · cases hk
    · rename_i e; exact ⟨hk, by omega⟩
theorem Post.set (hi : HInv g h c w) {k pre : Nat} {b b' : HB} (hk : h k = .own pre b) (hc : Chg (g k).b w w') (hb : BOk g c (g k) b' w') :
    Post g h c w g (upd (unp pre h) k (.own 0 b')) c w' := by
  have keep : ∀ {j q bd}, j ≠ k → h j = .own q bd → w'.heap[(g j).b]? = w.heap[(g j).b]? := fun {j q bd} hj hjo => hc.heap _ (hi.own j q bd hjo).lt fun e => hj (hi.inj j q bd k pre b hjo hk e)
  refine ⟨fun _ _ => rfl, Nat.le_refl _, ⟨fun j q bd hj => ?_, fun j bd hj => ?_, fun j bd i q bd' hj hi' he => ?_, fun j q bd j' q' bd' hj hj' he => ?_, fun j hj => ?_, fun j p bd hj => ?_⟩, fun b0 hb0 hn => hc.heap b0 hb0 fun e => hn ⟨k, pre, b, hk, e.symm⟩, fun b0 ho => ?_, fun b0 ho => ?_, hc.sz, hc.os, hc.tape, hc.out⟩
  · simp only [upd] at hj
    split at hj
    · rename_i e; subst e
      simp only [HO.own.injEq] at hj
      obtain ⟨rfl, rfl⟩ := hj
      exact hb
    · rename_i hne
      have hj := unp_own hj
      exact (hi.own j q bd hj).mono (fun _ _ => rfl) (Nat.le_refl _) (keep hne hj)
  · simp only [upd] at hj
    split at hj
    · cases hj
    · obtain ⟨hj, hp⟩ := unp_sh hj
      exact (hi.sh j bd hj).mono (fun _ _ => rfl) (Nat.le_refl _) (hc.heap _ (hi.sh j bd hj).lt fun e => hp (hi.apart j bd k pre b hj hk e.symm))
  · simp only [upd] at hj hi'
    split at hj
    · cases hj
    · obtain ⟨hj, hp⟩ := unp_sh hj
      split at hi'
      · rename_i e; subst e
        exact absurd (hi.apart j bd i pre b hj hk he) hp
      · exact hi.apart j bd i q bd' hj (unp_own hi') he
  · simp only [upd] at hj hj'
    split at hj
    · rename_i e; subst e
      split at hj'
      · rename_i e'; exact e'.symm
      · exact hi.inj j pre b j' q' bd' hk (unp_own hj') he
    · split at hj'
      · rename_i e'; subst e'
        exact hi.inj j q bd j' pre b (unp_own hj) hk he
      · exact hi.inj j q bd j' q' bd' (unp_own hj) (unp_own hj') he
  · simp only [upd] at hj
    split at hj
    · rename_i e; subst e; exact hi.lt j (by rw [hk]; simp)
    · rcases unp_sub (pre := pre) (h := h) j with e | ⟨e, _⟩
      · rw [e] at hj; exact hi.lt j hj
      · exact absurd e hj
  · simp only [upd] at hj
    split at hj
    · simp only [HO.own.injEq] at hj; omega
    · exact hi.pre j p bd (unp_own hj)
  · obtain ⟨j, q, bd, hj, he⟩ := ho
    simp only [upd] at hj
    split at hj
    · rename_i e; subst e; exact .inr ⟨j, pre, b, hk, he⟩
    · exact .inr ⟨j, q, bd, unp_own hj, he⟩
  · obtain ⟨j, hj, he⟩ := ho
    simp only [upd] at hj
    split at hj
    · rename_i e; subst e; exact .inr ⟨j, by rw [hk]; simp, he⟩
    · rcases unp_sub (pre := pre) (h := h) j with e | ⟨e, _⟩
      · rw [e] at hj; exact .inr ⟨j, hj, he⟩
      · exact absurd e hj
theorem Post.grow (hi : HInv g h c w) {k pre : Nat} {b b' : HB} (hk : h k = .own pre b) (hc : Chg (g k).b w w') {a : At} (ha : a.b = (g k).b ∨ w.heap.size ≤ a.b) (hold : BOk g c (g k) b w') (hb : BOk (g.new c a) (c + 1) a b' w') :
    Post g h c w (g.new c a) (upd (upd (unp pre h) k (.sh b)) c (.own (k + 1) b')) (c + 1) w' := by
  have hkc : k < c := hi.lt k (by rw [hk]; simp)
  have hag : Agree c g (g.new c a) := fun j hj => by simp only [Gm.new, if_neg (show ¬ j = c by omega)]
  have hself : g.new c a c = a := by simp [Gm.new]
  have hlo : ∀ {j q bd}, h j = .own q bd → (g.new c a j) = g j := fun {j q bd} hj => hag j (hi.lt j (by rw [hj]; simp))
  have hls : ∀ {j bd}, h j = .sh bd → (g.new c a j) = g j := fun {j bd} hj => hag j (hi.lt j (by rw [hj]; simp))
  have keep : ∀ {j q bd}, j ≠ k → h j = .own q bd → w'.heap[(g j).b]? = w.heap[(g j).b]? := fun {j q bd} hj hjo => hc.heap _ (hi.own j q bd hjo).lt fun e => hj (hi.inj j q bd k pre b hjo hk e)
  have hkk := hlo hk
  refine ⟨fun j hj => ?_, by omega, ⟨fun j q bd hj => ?_, fun j bd hj => ?_, fun j bd i q bd' hj hi' he => ?_, fun j q bd j' q' bd' hj hj' he => ?_, fun j hj => ?_, fun j p bd hj => ?_⟩, fun b0 hb0 hn => hc.heap b0 hb0 fun e => hn ⟨k, pre, b, hk, e.symm⟩, fun b0 ho => ?_, fun b0 ho => ?_, hc.sz, hc.os, hc.tape, hc.out⟩
  · rcases hj with hj | hj <;> simp only [Gm.new, if_neg (show ¬ j = c by omega)]
  · simp only [upd] at hj
    split at hj
    · rename_i e; subst e
      simp only [HO.own.injEq] at hj
      obtain ⟨rfl, rfl⟩ := hj
      rw [hself]; exact hb
    · split at hj
      · cases hj
      · rename_i hne
        have hj := unp_own hj
        rw [hlo hj]
        exact (hi.own j q bd hj).mono hag (by omega) (keep hne hj)
  · simp only [upd] at hj
    split at hj
    · cases hj
    · split at hj
      · rename_i e; subst e
        simp only [HO.sh.injEq] at hj; subst hj
        rw [hkk]
        exact hold.mono hag (by omega) rfl
      · obtain ⟨hj, hp⟩ := unp_sh hj
        rw [hls hj]
        exact (hi.sh j bd hj).mono hag (by omega) (hc.heap _ (hi.sh j bd hj).lt fun e => hp (hi.apart j bd k pre b hj hk e.symm))
  · simp only [upd] at hj hi'
    split at hj
    · cases hj
    · split at hj
      · rename_i e; subst e
        rw [hkk] at he
        split at hi'
        · simp only [HO.own.injEq] at hi'; omega
        · split at hi'
          · cases hi'
          · rename_i hne
            have hi' := unp_own hi'
            rw [hlo hi'] at he
            exact absurd (hi.inj i q bd' j pre b hi' hk he) hne
      · obtain ⟨hj, hp⟩ := unp_sh hj
        rw [hls hj] at he
        split at hi'
        · rename_i e; subst e
          rw [hself] at he
          rcases ha with ha | ha
          · exact absurd (hi.apart j bd k pre b hj hk (by rw [← he, ha])) hp
          · have := (hi.sh j bd hj).lt; omega
        · split at hi'
          · cases hi'
          · have hi' := unp_own hi'
            rw [hlo hi'] at he
            exact hi.apart j bd i q bd' hj hi' he
  · simp only [upd] at hj hj'
    split at hj
    · rename_i e; subst e
      split at hj'
      · rename_i e'; exact e'.symm
      · split at hj'
        · cases hj'
        · rename_i hne
          have hj' := unp_own hj'
          rw [hself, hlo hj'] at he
          rcases ha with ha | ha
          · exact absurd (hi.inj j' q' bd' k pre b hj' hk (by rw [← he, ha])) hne
          · have := (hi.own j' q' bd' hj').lt; omega
    · split at hj
      · cases hj
      · rename_i hne
        have hj := unp_own hj
        split at hj'
        · rename_i e'; subst e'
          rw [hself, hlo hj] at he
          rcases ha with ha | ha
          · exact absurd (hi.inj j q bd k pre b hj hk (by rw [he, ha])) hne
          · have := (hi.own j q bd hj).lt; omega
        · split at hj'
          · cases hj'
          · have hj' := unp_own hj'
            rw [hlo hj, hlo hj'] at he
            exact hi.inj j q bd j' q' bd' hj hj' he
  · simp only [upd] at hj
    split at hj
    · omega
    · split at hj
      · omega
      · rcases unp_sub (pre := pre) (h := h) j with e | ⟨e, _⟩
        · rw [e] at hj; have := hi.lt j hj; omega
        · exact absurd e hj
  · simp only [upd] at hj
    split at hj
    · simp only [HO.own.injEq] at hj; omega
    · split at hj
      · cases hj
      · have := hi.pre j p bd (unp_own hj); omega
  · obtain ⟨j, q, bd, hj, he⟩ := ho
    simp only [upd] at hj
    split at hj
    · rename_i e; subst e
      rw [hself] at he
      rcases ha with ha | ha
      · exact .inr ⟨k, pre, b, hk, by rw [← he, ha]⟩
      · left; omega
    · split at hj
      · cases hj
      · have hj := unp_own hj
        rw [hlo hj] at he
        exact .inr ⟨j, q, bd, hj, he⟩
  · obtain ⟨j, hj, he⟩ := ho
    simp only [upd] at hj
    split at hj
    · rename_i e; subst e
      rw [hself] at he
      rcases ha with ha | ha
      · exact .inr ⟨k, by rw [hk]; simp, by rw [← he, ha]⟩
      · left; omega
    · split at hj
      · rename_i e; subst e
        rw [hkk] at he
        exact .inr ⟨j, by rw [hk]; simp, he⟩
      · rcases unp_sub (pre := pre) (h := h) j with e | ⟨e, _⟩
        · rw [e] at hj
          rw [hag j (hi.lt j hj)] at he
          exact .inr ⟨j, hj, he⟩
        · exact absurd e hj
end
end
end Go.FM
end

section
namespace Go.FM
noncomputable section
variable [Env]
theorem bytesOf_length (n d : Nat) : (bytesOf n d).length = n := by simp [bytesOf]
theorem bytesOf_zero (d : Nat) : bytesOf 0 d = [] := rfl
theorem bytesOf_succ (n d : Nat) : bytesOf (n + 1) d = UInt8.ofNat (d % 256) :: bytesOf n (d / 256) := by
  unfold bytesOf
  rw [List.range_succ_eq_map, List.map_cons, List.map_map]
  congr 1
  · simp
  · apply List.map_congr_left
    intro i _
    simp only [Function.comp, Nat.succ_eq_add_one]
    rw [Nat.pow_succ, Nat.mul_comm, Nat.div_div_eq_div_mul]
theorem bytesOf_get (n d i : Nat) (h : i < n) : (bytesOf n d)[i]? = some (UInt8.ofNat (bAt d i)) := by
  have e : bAt d i = d / 256 ^ i % 256 := rfl
  rw [e]
  simp [bytesOf, h]
theorem pow256_pos (n : Nat) : 0 < 256 ^ n := Nat.pow_pos (by decide)
theorem toNat_ofNat (m : Nat) (h : m < 256) : (UInt8.ofNat m).toNat = m := by
  rw [UInt8.toNat_ofNat']; exact Nat.mod_eq_of_lt h
theorem bAt_lt (d i : Nat) : bAt d i < 256 := Nat.mod_lt _ (by decide)
theorem bytesOf_cut (n d lo m : Nat) (h : lo + m ≤ n) : bytesOf m (bCut d lo m) = ((bytesOf n d).drop lo).take m := by
  apply List.ext_getElem?
  intro i
  rw [List.getElem?_take]
  by_cases hi : i < m
  · rw [if_pos hi, List.getElem?_drop, bytesOf_get _ _ _ hi, bytesOf_get _ _ _ (by omega)]
    congr 2
    unfold bAt bCut p8
    show (d / 256 ^ lo % 256 ^ m) / 256 ^ i % 256 = d / 256 ^ (lo + i) % 256
    rw [Nat.pow_add, ← Nat.div_div_eq_div_mul]
    generalize d / 256 ^ lo = x
    have hp : 256 ^ m = 256 ^ i * (256 * 256 ^ (m - i - 1)) := by
      rw [← Nat.pow_succ', ← Nat.pow_add]; congr 1; omega
    rw [hp, Nat.mod_mul_right_div_self, Nat.mod_mul_right_mod]
  · rw [if_neg hi]
    exact List.getElem?_eq_none (by rw [bytesOf_length]; omega)
theorem bCut_lt (d lo m : Nat) : bCut d lo m < 256 ^ m := Nat.mod_lt _ (pow256_pos m)
theorem bytesOf_append (n m d e : Nat) (hd : d < 256 ^ n) : bytesOf (n + m) (d + e * 256 ^ n) = bytesOf n d ++ bytesOf m e := by
  induction n generalizing d with
  | zero => simp at hd; subst hd; simp [bytesOf_zero]
  | succ n ih =>
    rw [show n + 1 + m = (n + m) + 1 by omega, bytesOf_succ, bytesOf_succ, List.cons_append]
    have hp : 256 ^ (n + 1) = 256 * 256 ^ n := Nat.pow_succ'
    have h1 : (d + e * 256 ^ (n + 1)) % 256 = d % 256 := by rw [hp, Nat.mul_left_comm]; omega
    have h2 : (d + e * 256 ^ (n + 1)) / 256 = d / 256 + e * 256 ^ n := by rw [hp, Nat.mul_left_comm]; omega
    rw [h1, h2, ih (d / 256) (by rw [hp] at hd; omega)]
theorem append_lt {n m d e : Nat} (hd : d < 256 ^ n) (he : e < 256 ^ m) : d + e * 256 ^ n < 256 ^ (n + m) := by
  rw [Nat.pow_add]
  have : d + e * 256 ^ n < (e + 1) * 256 ^ n := by rw [Nat.add_mul]; omega
  exact Nat.lt_of_lt_of_le this (by rw [Nat.mul_comm]; exact Nat.mul_le_mul_left _ he)
theorem bytesOf_inj {n d e : Nat} (hd : d < 256 ^ n) (he : e < 256 ^ n) (h : bytesOf n d = bytesOf n e) : d = e := by
  induction n generalizing d e with
  | zero => simp at hd he; omega
  | succ n ih =>
    rw [bytesOf_succ, bytesOf_succ] at h
    simp only [List.cons.injEq] at h
    have hp : 256 ^ (n + 1) = 256 * 256 ^ n := Nat.pow_succ'
    have h1 := congrArg UInt8.toNat h.1
    rw [toNat_ofNat _ (Nat.mod_lt _ (by decide)), toNat_ofNat _ (Nat.mod_lt _ (by decide))] at h1
    have h2 := ih (by rw [hp] at hd; omega) (by rw [hp] at he; omega) h.2
    omega
theorem packB_lt : ∀ l : List UInt8, packB l < 256 ^ l.length
  | [] => by simp [packB]
  | b :: r => by
    have := packB_lt r
    have hb : b.toNat < 256 := b.toNat_lt
    rw [List.length_cons, Nat.pow_succ']
    simp only [packB]; omega
theorem bytesOf_packB : ∀ l : List UInt8, bytesOf l.length (packB l) = l
  | [] => rfl
  | b :: r => by
    have hb : b.toNat < 256 := b.toNat_lt
    rw [List.length_cons, bytesOf_succ]
    have h1 : packB (b :: r) % 256 = b.toNat := by simp only [packB]; omega
    have h2 : packB (b :: r) / 256 = packB r := by simp only [packB]; omega
    rw [h1, h2, bytesOf_packB r]
    congr 1
    exact UInt8.ofNat_toNat
theorem bLess_eq : ∀ (f n d m e : Nat), n < f → bLess f n d m e = Op.bytesLess (bytesOf n d) (bytesOf m e)
  | 0, n, d, m, e, h => by omega
  | f + 1, n, d, 0, e, h => by
    rw [bytesOf_zero]
    cases bytesOf n d <;> simp [bLess, Op.bytesLess]
  | f + 1, 0, d, m + 1, e, h => by
    rw [bytesOf_zero, bytesOf_succ]
    simp [bLess, Op.bytesLess]
  | f + 1, n + 1, d, m + 1, e, h => by
    rw [bytesOf_succ, bytesOf_succ]
    simp only [bLess, Op.bytesLess]
    have ha : d % 256 < 256 := Nat.mod_lt _ (by decide)
    have hb : e % 256 < 256 := Nat.mod_lt _ (by decide)
    have lt_iff : ∀ x y : Nat, x < 256 → y < 256 → ((UInt8.ofNat x < UInt8.ofNat y) ↔ x < y) := fun x y hx hy => by
      rw [UInt8.lt_iff_toNat_lt, toNat_ofNat x hx, toNat_ofNat y hy]
    have blt : ∀ x y : Nat, Nat.blt x y = decide (x < y) := fun x y => by
      cases h : Nat.blt x y with
      | true => exact (decide_eq_true (Nat.le_of_ble_eq_true h)).symm
      | false =>
        symm; rw [decide_eq_false_iff_not]; intro hlt
        rw [show Nat.blt x y = true from Nat.ble_eq_true_of_le hlt] at h; cases h
    have ih := bLess_eq f n (d / 256) m (e / 256) (by omega)
    show (if Nat.blt (d % 256) (e % 256) = true then true else if Nat.blt (e % 256) (d % 256) = true then false else bLess f n (d / 256) m (e / 256)) = _
    rw [blt, blt, ih]
    have l1 := lt_iff _ _ ha hb
    have l2 := lt_iff _ _ hb ha
    have e1 : (UInt8.ofNat (d % 256) == UInt8.ofNat (e % 256)) = decide (d % 256 = e % 256) := by
      by_cases h : d % 256 = e % 256
      · rw [h]; simp
      · have : UInt8.ofNat (d % 256) ≠ UInt8.ofNat (e % 256) := fun hh => h (by
          have := congrArg UInt8.toNat hh
          rwa [toNat_ofNat _ ha, toNat_ofNat _ hb] at this)
        simp [h, this]
    rw [e1]
    by_cases h1 : d % 256 < e % 256
    · simp [h1, l1]
    · by_cases h2 : e % 256 < d % 256
      · have h3 : ¬ d % 256 = e % 256 := by omega
        simp [h1, h2, l1, h3]
      · have h3 : d % 256 = e % 256 := by omega
        simp [h3]
theorem sLess_eq (n d m e : Nat) : sLess n d m e = Op.bytesLess (bytesOf n d) (bytesOf m e) := bLess_eq _ _ _ _ _ (Nat.lt_succ_self n)
theorem bytesOf_lay (n d lo m e : Nat) (h : lo + m ≤ n) (hd : d < 256 ^ n) (he : e < 256 ^ m) : bLay d lo m e < 256 ^ n ∧ bytesOf n (bLay d lo m e) = (bytesOf n d).take lo ++ (bytesOf m e ++ (bytesOf n d).drop (lo + m)) := by
  have e0 : bLay d lo m e = (d % 256 ^ lo) + (e + (d / 256 ^ (lo + m)) * 256 ^ m) * 256 ^ lo := by
    show d % 256 ^ lo + e * 256 ^ lo + (d / 256 ^ (lo + m)) * 256 ^ (lo + m) = _
    rw [Nat.pow_add, Nat.add_mul]
    have : d / (256 ^ lo * 256 ^ m) * (256 ^ lo * 256 ^ m) = d / (256 ^ lo * 256 ^ m) * 256 ^ m * 256 ^ lo := by
      rw [Nat.mul_comm (256 ^ lo), Nat.mul_assoc]
    omega
  have h1 : d % 256 ^ lo < 256 ^ lo := Nat.mod_lt _ (pow256_pos lo)
  have hn : n = lo + (m + (n - (lo + m))) := by omega
  have h3 : d / 256 ^ (lo + m) < 256 ^ (n - (lo + m)) := by
    rw [Nat.div_lt_iff_lt_mul (pow256_pos _), ← Nat.pow_add]
    have : n - (lo + m) + (lo + m) = n := by omega
    rw [this]; exact hd
  have h2 := append_lt (n := m) (m := n - (lo + m)) he h3
  refine ⟨?_, ?_⟩
  · rw [e0, hn]
    have := append_lt h1 h2
    rw [← hn] at this ⊢
    exact this
  · have k1 : bytesOf lo (d % 256 ^ lo) = (bytesOf n d).take lo := by
      have := bytesOf_cut n d 0 lo (by omega)
      have e : bCut d 0 lo = d % 256 ^ lo := by
        show d / 256 ^ 0 % 256 ^ lo = _
        rw [Nat.pow_zero, Nat.div_one]
      rw [e, List.drop_zero] at this
      exact this
    have k3 : bytesOf (n - (lo + m)) (d / 256 ^ (lo + m)) = (bytesOf n d).drop (lo + m) := by
      have := bytesOf_cut n d (lo + m) (n - (lo + m)) (by omega)
      rw [List.take_of_length_le (by simp [bytesOf_length])] at this
      rw [← this]
      congr 1
      show _ = d / 256 ^ (lo + m) % 256 ^ (n - (lo + m))
      rw [Nat.mod_eq_of_lt h3]
    rw [← k1, ← k3, ← bytesOf_append m _ e _ he]
    have := bytesOf_append lo (m + (n - (lo + m))) (d % 256 ^ lo) (e + d / 256 ^ (lo + m) * 256 ^ m) h1
    rw [← hn] at this
    rw [e0]; exact this
theorem sEq_eq {n d m e : Nat} (hd : d < 256 ^ n) (he : e < 256 ^ m) : sEq n d m e = (bytesOf n d == bytesOf m e) := by
  unfold sEq
  by_cases h : n = m
  · subst h
    have : Nat.beq n n = true := Nat.beq_refl n
    rw [this]
    show Nat.beq d e = _
    by_cases h2 : d = e
    · subst h2; simp
    · have h3 : Nat.beq d e = false := by
        cases hb : Nat.beq d e with
        | false => rfl
        | true => exact absurd (Nat.eq_of_beq_eq_true hb) h2
      rw [h3]
      symm
      rw [beq_eq_false_iff_ne]
      exact fun hh => h2 (bytesOf_inj hd he hh)
  · have : Nat.beq n m = false := by
      cases hb : Nat.beq n m with
      | false => rfl
      | true => exact absurd (Nat.eq_of_beq_eq_true hb) h
    rw [this]
    symm
    show (bytesOf n d == bytesOf m e) = false
    rw [beq_eq_false_iff_ne]
    intro hh
    have := congrArg List.length hh
    rw [bytesOf_length, bytesOf_length] at this
    exact h this
end
end Go.FM
end

section
namespace Go.FM
noncomputable section
variable [Env]
section
variable {Pr : Program} {w : World} {g : Gm} {c : Nat}
def BinOk (Pr : Program) (op : BinOp) (t : TypeId) (u v z : Value) (w : World) : Prop := (∀ ox oy, (eqGuard op t ox oy u v).run Pr w = .ok () w) ∧ (binOp op t u v).run Pr w = .ok z w
theorem eqGuard_plain {op : BinOp} {t : TypeId} {x y : Operand} {u v : Value} (h1 : ¬ (u = .nilIface ∧ v = .nilIface)) (h2 : ∀ a b, ¬ (u = .agg a ∧ v = .agg b)) : (eqGuard op t x y u v).run Pr w = .ok () w := by
  unfold eqGuard
  cases op <;> simp
  all_goals
    split
    · exact absurd ⟨rfl, rfl⟩ h1
    · rename_i a b; exact absurd ⟨rfl, rfl⟩ (h2 a b)
    · simp
theorem ikEq_eq {a b : IntKind} (h : ikEq a b = true) : a = b := by cases a <;> cases b <;> first | rfl | cases h
theorem top_le (k : IntKind) (n : Nat) (h : n ≤ top k) : k.wrap (n : Int) = n := by
  cases k <;> simp only [top] at h <;> simp [IntKind.wrap, IntKind.bits, IntKind.signed] <;> omega
theorem wrapN_eq (k : IntKind) (n : Nat) : wrapN k n = .int k (k.wrap (n : Int)) := by
  unfold wrapN
  cases h : Nat.ble n (top k) with
  | true =>
    have := top_le k n (Nat.le_of_ble_eq_true h)
    show HV.int k (.ofNat n) = _
    rw [this]; rfl
  | false => rfl
theorem wrapF_eq (k : IntKind) (r : Int) : wrapF k r = .int k (k.wrap r) := by
  cases r with
  | ofNat n => exact wrapN_eq k n
  | negSucc n => rfl
theorem int2_inv {f : IntKind → Int → Int → HV} {x y : HV} (h : int2 f x y ≠ .dead) : ∃ k a b, x = .int k a ∧ y = .int k b ∧ int2 f x y = f k a b := by
  cases x <;> try exact absurd rfl h
  rename_i k a
  cases y <;> try exact absurd rfl h
  rename_i k' b
  have e : int2 f (.int k a) (.int k' b) = (ikEq k k').casesOn .dead (f k a b) := rfl
  rw [e] at h
  cases hk : ikEq k k' with
  | false => rw [hk] at h; exact absurd rfl h
  | true =>
    have := ikEq_eq hk; subst this
    exact ⟨k, a, b, rfl, rfl, by rw [e, hk]⟩
theorem nat2_eq {f : IntKind → Nat → Nat → HV} {q : IntKind → Int → Int → HV} (hfq : ∀ k m n, f k m n = q k (.ofNat m) (.ofNat n)) (k : IntKind) (a b : Int) : nat2 f q k a b = q k a b := by
  cases a <;> cases b <;> first | exact hfq _ _ _ | rfl
theorem int_bin {op : BinOp} {t : TypeId} {k : IntKind} {a b : Int} {z : Value} (h : (binOp op t (.int k a) (.int k b)).run Pr w = .ok z w) : BinOk Pr op t (.int k a) (.int k b) z w :=
  ⟨fun ox oy => eqGuard_plain (by simp) (by simp), h⟩
theorem beq_dec (m n : Nat) : Nat.beq m n = (((m : Int)) == ((n : Int))) := by
  by_cases h : m = n
  · subst h; simp [Nat.beq_refl]
  · have h1 : Nat.beq m n = false := by
      cases hb : Nat.beq m n with
      | false => rfl
      | true => exact absurd (Nat.eq_of_beq_eq_true hb) h
    rw [h1]
    symm
    rw [beq_eq_false_iff_ne]
    omega
theorem ble_dec (m n : Nat) : Nat.ble m n = decide ((m : Int) ≤ (n : Int)) := by
  cases h : Nat.ble m n with
  | true => exact (decide_eq_true (by have := Nat.le_of_ble_eq_true h; omega)).symm
  | false =>
    symm; rw [decide_eq_false_iff_not]; intro hle
    rw [Nat.ble_eq_true_of_le (by omega)] at h; cases h
theorem blt_dec (m n : Nat) : Nat.blt m n = decide ((m : Int) < (n : Int)) := by
  show Nat.ble (m + 1) n = _
  rw [ble_dec]
  exact decide_eq_decide.2 (by omega)
theorem intF_ok {op : BinOp} {t : TypeId} {f : HV → HV → HV} (h : intF op = .f f) {x y : HV} {vx vy : Value} (hx : TRep g c x vx) (hy : TRep g c y vy) (hl : f x y ≠ .dead) :
    ∃ z, BinOk Pr op t vx vy z w ∧ TRep g c (f x y) z := by
  have fin : ∀ {q : IntKind → Int → Int → HV} {f : HV → HV → HV}, f = int2 q → f x y ≠ .dead → (∀ k a b, q k a b ≠ .dead → ∃ z, (binOp op t (.int k a) (.int k b)).run Pr w = .ok z w ∧ CRep g c (q k a b) z) → ∃ z, BinOk Pr op t vx vy z w ∧ TRep g c (f x y) z := by
    intro q f hf hl hq
    subst hf
    obtain ⟨k, a, b, rfl, rfl, e⟩ := int2_inv hl
    have e1 : vx = .int k a := hx
    have e2 : vy = .int k b := hy
    subst e1; subst e2
    rw [e] at hl ⊢
    obtain ⟨z, h1, h2⟩ := hq k a b hl
    exact ⟨z, int_bin h1, TRep.of_cell h2⟩
  have dead2 : ∀ {op : BinOp} {q : IntKind → Int → Int → HV}, (∀ k a b, ∃ z, (binOp op t (.int k a) (.int k b)).run Pr w = .ok z w ∧ CRep g c (q k a b) z) → ∀ k a b, q k a b ≠ .dead → ∃ z, (binOp op t (.int k a) (.int k b)).run Pr w = .ok z w ∧ CRep g c (q k a b) z := fun h k a b _ => h k a b
  cases op <;> simp only [intF] at h <;> first | (cases h; done) | (injection h with h; subst h)
  · refine fin (q := fun k a b => .int k (k.wrap (a + b))) (congrArg int2 (funext fun k => funext fun a => funext fun b => nat2_eq (fun k m n => wrapN_eq k _) k a b)) hl (dead2 fun k a b => ⟨_, by simp [binOp, Op.intArith], rfl⟩)
  · refine fin (q := fun k a b => .int k (k.wrap (a - b))) (congrArg int2 (funext fun k => funext fun a => funext fun b => nat2_eq (fun k m n => ?_) k a b)) hl (dead2 fun k a b => ⟨_, by simp [binOp, Op.intArith], rfl⟩)
    unfold subN
    cases hb : Nat.ble n m with
    | false => rfl
    | true =>
      have hle := Nat.le_of_ble_eq_true hb
      show wrapN k (m - n) = _
      rw [wrapN_eq, Int.ofNat_sub hle]; rfl
  · refine fin (q := fun k a b => .int k (k.wrap (a * b))) (congrArg int2 (funext fun k => funext fun a => funext fun b => nat2_eq (fun k m n => wrapN_eq k _) k a b)) hl (dead2 fun k a b => ⟨_, by simp [binOp, Op.intArith], rfl⟩)
  · refine fin (q := fun k a b => if b = 0 then .dead else .int k (k.wrap (a.tdiv b))) (congrArg int2 (funext fun k => funext fun a => funext fun b => nat2_eq (fun k m n => ?_) k a b)) hl fun k a b hd => ?_
    · cases n with
      | zero => rfl
      | succ n =>
        have : ¬ (Int.ofNat (n + 1) = 0) := fun e => by cases e
        rw [if_neg this]
        show wrapN k (m / (n + 1)) = _
        rw [wrapN_eq]; rfl
    · by_cases hb : b = 0
      · rw [if_pos hb] at hd; exact absurd rfl hd
      · rw [if_neg hb]
        exact ⟨_, by simp [binOp, Op.intDiv, hb], rfl⟩
  · refine fin (q := fun k a b => if b = 0 then .dead else .int k (a.tmod b)) (congrArg int2 (funext fun k => funext fun a => funext fun b => nat2_eq (fun k m n => ?_) k a b)) hl fun k a b hd => ?_
    · cases n with
      | zero => rfl
      | succ n =>
        have : ¬ (Int.ofNat (n + 1) = 0) := fun e => by cases e
        rw [if_neg this]; rfl
    · by_cases hb : b = 0
      · rw [if_pos hb] at hd; exact absurd rfl hd
      · rw [if_neg hb]
        exact ⟨_, by simp [binOp, Op.intDiv, hb], rfl⟩
  · exact fin (q := fun k a b => .int k (andI k a b)) rfl hl (dead2 fun k a b => ⟨_, by simp [binOp, Op.intBits]; rfl, rfl⟩)
  · exact fin (q := fun k a b => .int k (orI k a b)) rfl hl (dead2 fun k a b => ⟨_, by simp [binOp, Op.intBits]; rfl, rfl⟩)
  · exact fin (q := fun k a b => .int k (xorI k a b)) rfl hl (dead2 fun k a b => ⟨_, by simp [binOp, Op.intBits]; rfl, rfl⟩)
  · exact fin (q := fun k a b => .int k (andNotI k a b)) rfl hl (dead2 fun k a b => ⟨_, by simp [binOp, Op.intBits, andNotI]; done, rfl⟩)
  · exact fin (q := fun _ a b => .bool (a == b)) (congrArg int2 (funext fun k => funext fun a => funext fun b => nat2_eq (fun k m n => congrArg HV.bool (beq_dec m n)) k a b)) hl (dead2 fun k a b => ⟨_, by simp [binOp, Op.intCmp], rfl⟩)
  · exact fin (q := fun _ a b => .bool (a != b)) (congrArg int2 (funext fun k => funext fun a => funext fun b => nat2_eq (fun k m n => congrArg HV.bool (congrArg Bool.not (beq_dec m n))) k a b)) hl (dead2 fun k a b => ⟨_, by simp [binOp, Op.intCmp], rfl⟩)
  · exact fin (q := fun _ a b => .bool (decide (a < b))) (congrArg int2 (funext fun k => funext fun a => funext fun b => nat2_eq (fun k m n => congrArg HV.bool (blt_dec m n)) k a b)) hl (dead2 fun k a b => ⟨_, by simp [binOp, Op.intCmp], rfl⟩)
  · exact fin (q := fun _ a b => .bool (decide (a ≤ b))) (congrArg int2 (funext fun k => funext fun a => funext fun b => nat2_eq (fun k m n => congrArg HV.bool (ble_dec m n)) k a b)) hl (dead2 fun k a b => ⟨_, by simp [binOp, Op.intCmp], rfl⟩)
  · exact fin (q := fun _ a b => .bool (decide (a > b))) (congrArg int2 (funext fun k => funext fun a => funext fun b => nat2_eq (fun k m n => congrArg HV.bool (blt_dec n m)) k a b)) hl (dead2 fun k a b => ⟨_, by simp [binOp, Op.intCmp], rfl⟩)
  · exact fin (q := fun _ a b => .bool (decide (a ≥ b))) (congrArg int2 (funext fun k => funext fun a => funext fun b => nat2_eq (fun k m n => congrArg HV.bool (ble_dec n m)) k a b)) hl (dead2 fun k a b => ⟨_, by simp [binOp, Op.intCmp], rfl⟩)
theorem shl_ok {t : TypeId} {x y : HV} {vx vy : Value} (hx : TRep g c x vx) (hy : TRep g c y vy) (hl : shl x y ≠ .dead) : ∃ z, BinOk Pr .shl t vx vy z w ∧ TRep g c (shl x y) z := by
  unfold shl at hl ⊢
  cases x <;> try exact absurd rfl hl
  rename_i k a
  cases y <;> try exact absurd rfl hl
  rename_i k' b
  have e1 : vx = .int k a := hx
  have e2 : vy = .int k' b := hy
  subst e1; subst e2
  simp only at hl ⊢
  by_cases hb : b < 0
  · rw [if_pos hb] at hl; exact absurd rfl hl
  · rw [if_neg hb, wrapF_eq]
    have e : Int.ofNat (Nat.pow 2 (Nat.min b.toNat k.bits)) = (2 : Int) ^ (min b.toNat k.bits) := by
      show ((2 ^ (min b.toNat k.bits) : Nat) : Int) = _
      simp
    rw [e]
    refine ⟨.int k (k.wrap (a * 2 ^ (min b.toNat k.bits))), ⟨fun _ _ => eqGuard_plain (by simp) (by simp), ?_⟩, rfl⟩
    simp [binOp, Op.shift, hb]
theorem shr_ok {t : TypeId} {x y : HV} {vx vy : Value} (hx : TRep g c x vx) (hy : TRep g c y vy) (hl : shr x y ≠ .dead) : ∃ z, BinOk Pr .shr t vx vy z w ∧ TRep g c (shr x y) z := by
  unfold shr at hl ⊢
  cases x <;> try exact absurd rfl hl
  rename_i k a
  cases y <;> try exact absurd rfl hl
  rename_i k' b
  have e1 : vx = .int k a := hx
  have e2 : vy = .int k' b := hy
  subst e1; subst e2
  simp only at hl ⊢
  by_cases hb : b < 0
  · rw [if_pos hb] at hl; exact absurd rfl hl
  · rw [if_neg hb]
    refine ⟨.int k (a.fdiv (2 ^ (min b.toNat k.bits))), ⟨fun _ _ => eqGuard_plain (by simp) (by simp), ?_⟩, ?_⟩
    · simp [binOp, Op.shift, hb]
    · cases a with
      | negSucc m => exact rfl
      | ofNat m =>
        show Value.int k _ = Value.int k _
        congr 1
        have : (2 : Int) ^ (min b.toNat k.bits) = ((2 ^ (min b.toNat k.bits) : Nat) : Int) := by simp
        rw [this]
        show Int.fdiv (m : Int) _ = ((m / 2 ^ (Nat.min b.toNat k.bits) : Nat) : Int)
        rw [Int.fdiv_eq_ediv_of_nonneg _ (Int.natCast_nonneg _)]
        rfl
theorem fltA_run {op : BinOp} {k : FloatKind} {a b r : Nat} (h : fltA op k a b = some r) : (Op.floatArith op k a b).run Pr w = .ok (.float k r) w := by
  cases op <;> simp only [fltA] at h <;> first | (simp [Op.floatArith, h]; done) | (cases h; done)
theorem flt_ok {op : BinOp} {t : TypeId} {x y : HV} {vx vy : Value} (hx : TRep g c x vx) (hy : TRep g c y vy) (hl : fltF op x y ≠ .dead) : ∃ z, BinOk Pr op t vx vy z w ∧ TRep g c (fltF op x y) z := by
  unfold fltF at hl ⊢
  cases x <;> try exact absurd rfl hl
  rename_i k a
  cases y <;> try exact absurd rfl hl
  rename_i k' b
  have e1 : vx = .float k a := hx
  have e2 : vy = .float k' b := hy
  subst e1; subst e2
  simp only at hl ⊢
  by_cases hk : k = k'
  · subst hk
    rw [if_pos rfl] at hl ⊢
    have gd : ∀ ox oy, (eqGuard op t ox oy (.float k a) (.float k b)).run Pr w = .ok () w := fun _ _ => eqGuard_plain (by simp) (by simp)
    cases op <;> simp only [fltV] at hl ⊢ <;> first
      | exact absurd rfl hl
      | exact ⟨_, ⟨gd, by simp [binOp, Op.floatCmp]⟩, rfl⟩
      | (split at hl
         · rename_i r hr
           exact ⟨_, ⟨gd, by simp only [binOp]; simp [fltA_run hr]⟩, rfl⟩
         · exact absurd rfl hl)
  · rw [if_neg hk] at hl; exact absurd rfl hl
theorem cpxA_run {op : BinOp} {k : FloatKind} {a b r : Nat} (h : fltA op k a b = some r) : (Op.Complex.arith op k a b).run Pr w = .ok r w := by
  simp [Op.Complex.arith, fltA_run h]
theorem cpxC_run (k : FloatKind) (a b : Nat) : (Op.Complex.cmp .eql k a b).run Pr w = .ok (k.format.order a b == some .eq) w := by
  simp [Op.Complex.cmp, Op.floatCmp, asBool]
theorem cpx_ok {op : BinOp} {t : TypeId} {x y : HV} {vx vy : Value} (hx : TRep g c x vx) (hy : TRep g c y vy) (hl : cpxF op x y ≠ .dead) : ∃ z, BinOk Pr op t vx vy z w ∧ TRep g c (cpxF op x y) z := by
  unfold cpxF at hl ⊢
  cases x <;> try exact absurd rfl hl
  rename_i k a b
  cases y <;> try exact absurd rfl hl
  rename_i k' a' b'
  have e1 : vx = .complex k a b := hx
  have e2 : vy = .complex k' a' b' := hy
  subst e1; subst e2
  simp only at hl ⊢
  by_cases hk : k = k'
  · subst hk
    rw [if_pos rfl] at hl ⊢
    have gd : ∀ ox oy, (eqGuard op t ox oy (.complex k a b) (.complex k a' b')).run Pr w = .ok () w := fun _ _ => eqGuard_plain (by simp) (by simp)
    cases op <;> simp only [cpxV] at hl ⊢ <;> try exact absurd rfl hl
    · split at hl
      · rename_i p q hp hq
        exact ⟨_, ⟨gd, by simp [binOp, Op.complexOp, cpxA_run hp, cpxA_run hq]⟩, rfl⟩
      · exact absurd rfl hl
    · split at hl
      · rename_i p q hp hq
        exact ⟨_, ⟨gd, by simp [binOp, Op.complexOp, cpxA_run hp, cpxA_run hq]⟩, rfl⟩
      · exact absurd rfl hl
    · by_cases hk : k = .f64
      · subst hk
        rw [if_pos rfl] at hl ⊢
        split at hl
        · rename_i ac bd ad bc h1 h2 h3 h4
          split at hl
          · rename_i p q hp hq
            refine ⟨.complex .f64 p q, ⟨gd, ?_⟩, rfl⟩
            simp [binOp, Op.complexOp, Op.Complex.conv, Op.Complex.product, Op.Complex.mul, Op.Complex.sub, Op.Complex.add, cpxA_run h1, cpxA_run h2, cpxA_run h3, cpxA_run h4, cpxA_run hp, cpxA_run hq]
          · exact absurd rfl hl
        · exact absurd rfl hl
      · rw [if_neg hk] at hl; exact absurd rfl hl
    · exact ⟨_, ⟨gd, by simp [binOp, Op.complexOp, cpxC_run]⟩, rfl⟩
    · exact ⟨_, ⟨gd, by simp [binOp, Op.complexOp, cpxC_run]⟩, rfl⟩
  · rw [if_neg hk] at hl; exact absurd rfl hl
theorem str_ok {op : BinOp} {t : TypeId} {x y : HV} {vx vy : Value} (hx : TRep g c x vx) (hy : TRep g c y vy) (hl : strF op x y ≠ .dead) : ∃ z, BinOk Pr op t vx vy z w ∧ TRep g c (strF op x y) z := by
  unfold strF at hl ⊢
  cases x <;> try exact absurd rfl hl
  rename_i n d
  cases y <;> try exact absurd rfl hl
  rename_i m e
  obtain ⟨hd, e1⟩ : d < 256 ^ n ∧ vx = strOf n d := hx
  obtain ⟨he, e2⟩ : e < 256 ^ m ∧ vy = strOf m e := hy
  subst e1; subst e2
  simp only at hl ⊢
  have gd : ∀ ox oy, (eqGuard op t ox oy (strOf n d) (strOf m e)).run Pr w = .ok () w := fun _ _ => eqGuard_plain (by simp [strOf]) (by simp [strOf])
  have q1 := sEq_eq hd he
  have q2 := sLess_eq n d m e
  cases op <;> simp only [strV] at hl ⊢ <;> try exact absurd rfl hl
  · by_cases hle : Nat.ble (Nat.add n m) 9223372036854775807 = true
    · rw [if_pos hle]
      have hle' := Nat.le_of_ble_eq_true hle
      have hle' : n + m ≤ 9223372036854775807 := hle'
      refine ⟨strOf (n + m) (d + e * 256 ^ n), ⟨gd, ?_⟩, append_lt hd he, rfl⟩
      have hsz1 : (⟨(bytesOf n d).toArray⟩ : ByteArray).size = n := by simp [ByteArray.size, bytesOf_length]
      have hsz2 : (⟨(bytesOf m e).toArray⟩ : ByteArray).size = m := by simp [ByteArray.size, bytesOf_length]
      have h3 : IntKind.i64.max = 9223372036854775807 := by decide
      have hs : ¬ (IntKind.i64.max < (((⟨(bytesOf n d).toArray⟩ : ByteArray).size : Int) + ((⟨(bytesOf m e).toArray⟩ : ByteArray).size : Int))) := by
        rw [hsz1, hsz2, h3]; omega
      have hs' : (((⟨(bytesOf n d).toArray⟩ : ByteArray).size : Int) + ((⟨(bytesOf m e).toArray⟩ : ByteArray).size : Int)) ≤ 9223372036854775807 := by
        rw [hsz1, hsz2]; omega
      have ha : (⟨(bytesOf n d).toArray⟩ : ByteArray) ++ ⟨(bytesOf m e).toArray⟩ = ⟨(bytesOf n d ++ bytesOf m e).toArray⟩ := by
        apply ByteArray.ext
        simp
      simp only [strOf, bytesOf_append n m d e hd]
      simp [binOp, Op.stringOp, hs, ha]
      first | done | exact hs'
    · rw [if_neg hle] at hl; exact absurd rfl hl
  · exact ⟨.bool (bytesOf n d == bytesOf m e), ⟨gd, by simp only [strOf]; simp [binOp, Op.stringOp]⟩, by rw [q1]; rfl⟩
  · exact ⟨.bool (!(bytesOf n d == bytesOf m e)), ⟨gd, by simp only [strOf]; simp [binOp, Op.stringOp]⟩, by rw [q1]; rfl⟩
  · exact ⟨.bool (Op.bytesLess (bytesOf n d) (bytesOf m e)), ⟨gd, by simp only [strOf]; simp [binOp, Op.stringOp]⟩, by rw [q2]; rfl⟩
  · exact ⟨.bool (Op.bytesLess (bytesOf n d) (bytesOf m e) || bytesOf n d == bytesOf m e), ⟨gd, by simp only [strOf]; simp [binOp, Op.stringOp]⟩, by rw [q1, q2]; rfl⟩
  · exact ⟨.bool (!(Op.bytesLess (bytesOf n d) (bytesOf m e) || bytesOf n d == bytesOf m e)), ⟨gd, by simp only [strOf]; simp [binOp, Op.stringOp]⟩, by rw [q1, q2]; rfl⟩
  · exact ⟨.bool (!(Op.bytesLess (bytesOf n d) (bytesOf m e))), ⟨gd, by simp only [strOf]; simp [binOp, Op.stringOp]⟩, by rw [q2]; rfl⟩
theorem bool_ok {op : BinOp} {t : TypeId} (hu : Pr.underlying t = some .bool) {x y : HV} {vx vy : Value} (hx : TRep g c x vx) (hy : TRep g c y vy) (hl : boolF op x y ≠ .dead) : ∃ z, BinOk Pr op t vx vy z w ∧ TRep g c (boolF op x y) z := by
  unfold boolF at hl ⊢
  cases x <;> try exact absurd rfl hl
  rename_i a
  cases y <;> try exact absurd rfl hl
  rename_i b
  have e1 : vx = .bool a := hx
  have e2 : vy = .bool b := hy
  subst e1; subst e2
  have gd : ∀ ox oy, (eqGuard op t ox oy (.bool a) (.bool b)).run Pr w = .ok () w := fun _ _ => eqGuard_plain (by simp) (by simp)
  have q := run_equalIn_bool (P := Pr) w 9999 t a b hu
  cases op <;> simp only at hl ⊢ <;> try exact absurd rfl hl
  · exact ⟨.bool (a == b), ⟨gd, by simp [binOp, Op.equal, Op.maxDepth, q]⟩, rfl⟩
  · exact ⟨.bool (!(a == b)), ⟨gd, by simp [binOp, Op.equal, Op.maxDepth, q]⟩, rfl⟩
theorem sizeT_run {t : TypeId} {n : Nat} (h : sizeT Pr t = some n) : (sizeOf t).run Pr w = .ok n w := by
  obtain ⟨i, hi, rfl⟩ := Option.map_eq_some_iff.1 h
  simp [sizeOf, typeInfo, hi]
theorem sizeT_cells {t : TypeId} {n : Nat} (h : sizeT Pr t = some n) : Pr.cellsOf t = n := by
  unfold sizeT at h
  simp [Program.cellsOf, h]
theorem aggT_run {t : TypeId} {b : Bool} (h : aggT Pr t = some b) : (isAgg t).run Pr w = .ok b w := by
  unfold aggT at h
  split at h <;> first
    | (cases h; done)
    | (rename_i hu
       simp only [Option.some.injEq] at h; subst h
       simp [isAgg, run_underlying hu])
    | (rename_i d h1 h2 hu
       simp only [Option.some.injEq] at h; subst h
       cases d <;> simp [isAgg, run_underlying hu] <;> first
         | exact absurd rfl (h1 _)
         | exact absurd rfl (h2 _ _))
theorem lget_some {i : Nat} {cs : List HV} (h : lget i cs ≠ .dead) : cs[i]? = some (lget i cs) := by
  induction i generalizing cs with
  | zero =>
    cases cs with
    | nil => exact absurd rfl h
    | cons a r => rfl
  | succ i ih =>
    cases cs with
    | nil =>
      exfalso
      have : ∀ j, lget j ([] : List HV) = .dead := by
        intro j; induction j with
        | zero => rfl
        | succ j ih => exact ih
      exact h (this i)
    | cons a r =>
      have := ih (cs := r) h
      rw [List.getElem?_cons_succ]
      exact this
theorem CReps.drop {cs : List HV} {vs : List Value} (h : CReps g c cs vs) (n : Nat) : CReps g c (cs.drop n) (vs.drop n) :=
  ⟨by simp [h.1], fun i x u hx hu => h.2 (n + i) x u (by simpa using hx) (by simpa using hu)⟩
theorem CReps.take {cs : List HV} {vs : List Value} (h : CReps g c cs vs) (n : Nat) : CReps g c (cs.take n) (vs.take n) :=
  ⟨by simp [h.1], fun i x u hx hu => by
    rw [List.getElem?_take] at hx hu
    split at hx
    · rename_i hi; rw [if_pos hi] at hu; exact h.2 i x u hx hu
    · cases hx⟩
theorem CReps.append {cs ds : List HV} {vs us : List Value} (h : CReps g c cs vs) (k : CReps g c ds us) : CReps g c (cs ++ ds) (vs ++ us) := by
  refine ⟨by simp [h.1, k.1], fun i x u hx hu => ?_⟩
  by_cases hi : i < cs.length
  · rw [List.getElem?_append_left hi] at hx
    rw [List.getElem?_append_left (by rw [h.1]; exact hi)] at hu
    exact h.2 i x u hx hu
  · rw [List.getElem?_append_right (by omega)] at hx
    rw [List.getElem?_append_right (by rw [h.1]; omega), h.1] at hu
    exact k.2 _ x u hx hu
theorem CReps.get {cs : List HV} {vs : List Value} (h : CReps g c cs vs) {i : Nat} {x : HV} (hx : cs[i]? = some x) : ∃ u, vs[i]? = some u ∧ CRep g c x u ∧ u.oneCell' = true := by
  have hi := (List.getElem?_eq_some_iff.1 hx).1
  have hv : vs[i]? = some (vs[i]'(by rw [h.1]; exact hi)) := List.getElem?_eq_getElem _
  exact ⟨_, hv, h.2 i x _ hx hv⟩
theorem part_ok {t : TypeId} {cs : List HV} {vs : List Value} {off n : Nat} {b : Bool} (hn : sizeT Pr t = some n) (ha : aggT Pr t = some b) (hc : CReps g c cs vs) (hl : partV b n off cs ≠ .dead) :
    ∃ v, (part t vs.toArray off).run Pr w = .ok v w ∧ VRep g c (partV b n off cs) v := by
  cases b with
  | false =>
    have e : partV false n off cs = lget off cs := rfl
    rw [e] at hl ⊢
    obtain ⟨u, hu, h1, h2⟩ := hc.get (lget_some hl)
    refine ⟨u, ?_, VRep.of_cell h1⟩
    simp [part, aggT_run ha, hu]
  | true =>
    have e : partV true n off cs = if Nat.ble (Nat.add off n) cs.length then .agg ((cs.drop off).take n) else .dead := rfl
    rw [e] at hl ⊢
    by_cases hb : Nat.ble (Nat.add off n) cs.length = true
    · rw [if_pos hb]
      refine ⟨.agg ((vs.drop off).take n).toArray, ?_, _, rfl, (hc.drop off).take n⟩
      simp [part, aggT_run ha, sizeT_run hn]
    · rw [if_neg hb] at hl; exact absurd rfl hl
theorem eqFs_ok {d : Nat} {eq : TypeId → HV → HV → Option Bool} (ih : ∀ (t : TypeId) (x y : HV) (vx vy : Value) (b : Bool), VRep g c x vx → VRep g c y vy → eq t x y = some b → (Op.equalIn d t vx vy).run Pr w = .ok b w)
    (hdead : ∀ t x y b, eq t x y = some b → x ≠ .dead ∧ y ≠ .dead) :
    ∀ (fs : List Field) (xs ys : List HV) (us vs : List Value) (b : Bool), CReps g c xs us → CReps g c ys vs → eqFs Pr eq fs xs ys = some b → (Op.eqFields d us.toArray vs.toArray fs).run Pr w = .ok b w
  | [], xs, ys, us, vs, b, hx, hy, h => by simp [eqFs] at h; subst h; simp [Op.eqFields]
  | f :: r, xs, ys, us, vs, b, hx, hy, h => by
    rw [eqFs] at h
    by_cases hn : f.name = "_"
    · rw [if_pos hn] at h
      have := eqFs_ok ih hdead r xs ys us vs b hx hy h
      simpa [Op.eqFields, hn] using this
    · rw [if_neg hn] at h
      split at h
      · rename_i n ag h1 h2
        split at h
        · rename_i he
          obtain ⟨l1, l2⟩ := hdead _ _ _ _ he
          obtain ⟨va, hra, hva⟩ := part_ok (w := w) h1 h2 hx l1
          obtain ⟨vc, hrc, hvc⟩ := part_ok (w := w) h1 h2 hy l2
          have hq := ih f.type _ _ va vc true hva hvc he
          have := eqFs_ok ih hdead r xs ys us vs b hx hy h
          simp only [Op.eqFields, ne_eq, hn, not_false_eq_true, if_true, Sem.run_bind, hra, hrc, hq, Result.andThen_ok]
          simpa using this
        · rename_i he
          obtain ⟨l1, l2⟩ := hdead _ _ _ _ he
          obtain ⟨va, hra, hva⟩ := part_ok (w := w) h1 h2 hx l1
          obtain ⟨vc, hrc, hvc⟩ := part_ok (w := w) h1 h2 hy l2
          have hq := ih f.type _ _ va vc false hva hvc he
          simp only [Option.some.injEq] at h; subst h
          simp [Op.eqFields, hn, hra, hrc, hq]
        · cases h
      · cases h
theorem eqIn_live : ∀ (d : Nat) (t : TypeId) (x y : HV) (b : Bool), eqIn Pr d t x y = some b → x ≠ .dead ∧ y ≠ .dead
  | 0, t, x, y, b, h => by simp [eqIn] at h
  | d + 1, t, x, y, b, h => by
    unfold eqIn at h
    split at h <;> first | (cases h; done) | exact ⟨by simp, by simp⟩
theorem eqIn_ok : ∀ (d : Nat) (t : TypeId) (x y : HV) (vx vy : Value) (b : Bool), VRep g c x vx → VRep g c y vy → eqIn Pr d t x y = some b → (Op.equalIn d t vx vy).run Pr w = .ok b w := by
  intro d
  induction d with
  | zero => intro t x y vx vy b _ _ h; simp [eqIn] at h
  | succ d ih =>
    intro t x y vx vy b hx hy h
    unfold eqIn at h
    split at h
    · rename_i p q hu
      have e1 : vx = .bool p := hx
      have e2 : vy = .bool q := hy
      subst e1; subst e2
      simp only [Option.some.injEq] at h; subst h
      exact run_equalIn_bool w d t p q hu
    · rename_i k0 k p k' q hu
      have e1 : vx = .int k p := hx
      have e2 : vy = .int k' q := hy
      subst e1; subst e2
      split at h
      · rename_i hk
        subst hk
        simp only [Option.some.injEq] at h; subst h
        exact run_equalIn_int w d t k k0 p q hu
      · cases h
    · rename_i k0 k p k' q hu
      have e1 : vx = .float k p := hx
      have e2 : vy = .float k' q := hy
      subst e1; subst e2
      split at h
      · rename_i hk
        subst hk
        simp only [Option.some.injEq] at h; subst h
        simp [Op.equalIn, run_underlying hu]
      · cases h
    · rename_i k0 k p p' k' q q' hu
      have e1 : vx = .complex k p p' := hx
      have e2 : vy = .complex k' q q' := hy
      subst e1; subst e2
      split at h
      · rename_i hk
        subst hk
        simp only [Option.some.injEq] at h; subst h
        simp [Op.equalIn, run_underlying hu]
      · cases h
    · rename_i n p m q hu
      obtain ⟨hd, e1⟩ : p < 256 ^ n ∧ vx = strOf n p := hx
      obtain ⟨he, e2⟩ : q < 256 ^ m ∧ vy = strOf m q := hy
      subst e1; subst e2
      simp only [Option.some.injEq] at h; subst h
      simp only [strOf]
      rw [run_equalIn_string w d t _ _ hu, sEq_eq hd he]
      simp
    · rename_i fields xs ys hu
      obtain ⟨us, rfl, hus⟩ := hx
      obtain ⟨vs, rfl, hvs⟩ := hy
      split at h
      · cases h
      · rename_i hst
        have hf : Pr.fieldsOf t = fields := by simp [Program.fieldsOf, hu]
        rw [run_equalIn_struct w d t _ _ (by rw [hf]; exact hu) (by simpa using hst), hf]
        exact eqFs_ok ih (fun t x y b => eqIn_live d t x y b) fields.toList xs ys us vs b hus hvs h
    · cases h
theorem agg_ok {op : BinOp} {t : TypeId} {x y : HV} {vx vy : Value} (hx : TRep g c x vx) (hy : TRep g c y vy) (hl : aggF Pr op t x y ≠ .dead) : ∃ z, BinOk Pr op t vx vy z w ∧ TRep g c (aggF Pr op t x y) z := by
  unfold aggF at hl ⊢
  cases x <;> try exact absurd rfl hl
  rename_i a
  cases y <;> try exact absurd rfl hl
  rename_i b
  obtain ⟨us, e1, hus⟩ := hx
  obtain ⟨vs, e2, hvs⟩ := hy
  have hx' : VRep g c (.agg a) vx := ⟨us, e1, hus⟩
  have hy' : VRep g c (.agg b) vy := ⟨vs, e2, hvs⟩
  simp only at hl ⊢
  by_cases hg : Pr.eqGuardType Pr.depth t = true
  · rw [if_pos hg] at hl; exact absurd rfl hl
  · rw [if_neg hg] at hl ⊢
    subst e1; subst e2
    have gd : ∀ ox oy, (eqGuard op t ox oy (.agg us.toArray) (.agg vs.toArray)).run Pr w = .ok () w := fun ox oy => run_eqGuard_agg (P := Pr) w op t ox oy us.toArray vs.toArray (by simpa using hg)
    cases hb : eqIn Pr 10000 t (.agg a) (.agg b) with
    | none => rw [hb] at hl; cases op <;> exact absurd rfl hl
    | some r =>
      rw [hb] at hl
      have q := eqIn_ok (w := w) 10000 t _ _ _ _ r hx' hy' hb
      cases op <;> simp only at hl ⊢ <;> try exact absurd rfl hl
      · exact ⟨.bool r, ⟨gd, by rw [run_eql_struct, q]; rfl⟩, rfl⟩
      · exact ⟨.bool (!r), ⟨gd, by rw [run_neq_struct, q]; rfl⟩, rfl⟩
theorem nil_ok {op : BinOp} {t : TypeId} {q : HV → HV → Option Bool} {x y : HV} {vx vy : Value} (hq : ∀ b, q x y = some b → (Op.equalIn 10000 t vx vy).run Pr w = .ok b w ∧ (∀ ox oy, (eqGuard op t ox oy vx vy).run Pr w = .ok () w) ∧
      (binOp .eql t vx vy).run Pr w = (((Op.equalIn 10000 t vx vy).run Pr w).andThen fun b w' => .ok (.bool b) w') ∧ (binOp .neq t vx vy).run Pr w = (((Op.equalIn 10000 t vx vy).run Pr w).andThen fun b w' => .ok (.bool (!b)) w'))
    (hl : nilF q op x y ≠ .dead) : ∃ z, BinOk Pr op t vx vy z w ∧ TRep g c (nilF q op x y) z := by
  unfold nilF at hl ⊢
  cases hb : q x y with
  | none => rw [hb] at hl; exact absurd rfl hl
  | some b =>
    obtain ⟨h1, h2, h3, h4⟩ := hq b hb
    rw [hb] at hl
    cases op <;> simp only at hl ⊢ <;> try exact absurd rfl hl
    · exact ⟨.bool b, ⟨h2, by rw [h3, h1]; rfl⟩, rfl⟩
    · exact ⟨.bool (!b), ⟨h2, by rw [h4, h1]; rfl⟩, rfl⟩
theorem nilP_ok {op : BinOp} {t e : TypeId} (hu : Pr.underlying t = some (.pointer e)) {x y : HV} {vx vy : Value} (hx : TRep g c x vx) (hy : TRep g c y vy) (hl : nilF nilP op x y ≠ .dead) : ∃ z, BinOk Pr op t vx vy z w ∧ TRep g c (nilF nilP op x y) z := by
  refine nil_ok (fun b hb => ?_) hl
  unfold nilP at hb
  have key : ∀ A B, vx = .pointer A → vy = .pointer B → (A = none ∨ B = none) → (A.isNone && B.isNone) = b → (Op.equalIn 10000 t vx vy).run Pr w = .ok b w ∧ (∀ ox oy, (eqGuard op t ox oy vx vy).run Pr w = .ok () w) ∧
      (binOp .eql t vx vy).run Pr w = (((Op.equalIn 10000 t vx vy).run Pr w).andThen fun b w' => .ok (.bool b) w') ∧ (binOp .neq t vx vy).run Pr w = (((Op.equalIn 10000 t vx vy).run Pr w).andThen fun b w' => .ok (.bool (!b)) w') := by
    rintro A B rfl rfl hab hb
    refine ⟨?_, fun _ _ => eqGuard_plain (by simp) (by simp), ?_, ?_⟩
    · have q : ∀ d, (Op.equalIn (d + 1) t (.pointer A) (.pointer B)).run Pr w = .ok b w := fun d => by
        rcases A with _ | A <;> rcases B with _ | B <;> simp [Op.equalIn, run_underlying hu] at hab hb ⊢ <;> exact hb
      exact q 9999
    · simp [binOp, Op.equal, Op.maxDepth]
    · simp [binOp, Op.equal, Op.maxDepth]
  split at hb
  · simp only [Option.some.injEq] at hb
    exact key none none hx hy (.inl rfl) hb
  · simp only [Option.some.injEq] at hb
    exact key _ none hx.2 hy (.inr rfl) (by simpa using hb)
  · simp only [Option.some.injEq] at hb
    exact key none _ hx hy.2 (.inl rfl) (by simpa using hb)
  · cases hb
theorem nilS_ok {op : BinOp} {t e : TypeId} (hu : Pr.underlying t = some (.slice e)) {x y : HV} {vx vy : Value} (hx : TRep g c x vx) (hy : TRep g c y vy) (hl : nilF nilS op x y ≠ .dead) : ∃ z, BinOk Pr op t vx vy z w ∧ TRep g c (nilF nilS op x y) z := by
  refine nil_ok (fun b hb => ?_) hl
  unfold nilS at hb
  have key : ∀ A n m, vx = .slice A n m → vy = .slice none 0 0 → A.isNone = b → (Op.equalIn 10000 t vx vy).run Pr w = .ok b w ∧ (∀ ox oy, (eqGuard op t ox oy vx vy).run Pr w = .ok () w) ∧
      (binOp .eql t vx vy).run Pr w = (((Op.equalIn 10000 t vx vy).run Pr w).andThen fun b w' => .ok (.bool b) w') ∧ (binOp .neq t vx vy).run Pr w = (((Op.equalIn 10000 t vx vy).run Pr w).andThen fun b w' => .ok (.bool (!b)) w') := by
    rintro A n m rfl rfl hb
    refine ⟨?_, fun _ _ => eqGuard_plain (by simp) (by simp), ?_, ?_⟩
    · have q : ∀ d, (Op.equalIn (d + 1) t (.slice A n m) (.slice none 0 0)).run Pr w = .ok b w := fun d => by
        cases A <;> simp [Op.equalIn, run_underlying hu] at hb ⊢ <;> exact hb
      exact q 9999
    · simp [binOp, Op.equal, Op.maxDepth]
    · simp [binOp, Op.equal, Op.maxDepth]
  split at hb
  · simp only [Option.some.injEq] at hb
    exact key none 0 0 hx hy hb
  · simp only [Option.some.injEq] at hb
    obtain ⟨_, A, m, h1, _⟩ := hx
    exact key _ _ _ h1 hy (by simpa using hb)
  · cases hb
theorem nilFn_ok {op : BinOp} {t : TypeId} {ps rs : Array TypeId} {vd : Bool} (hu : Pr.underlying t = some (.func ps rs vd)) {x y : HV} {vx vy : Value} (hx : TRep g c x vx) (hy : TRep g c y vy) (hl : nilF nilFn op x y ≠ .dead) : ∃ z, BinOk Pr op t vx vy z w ∧ TRep g c (nilF nilFn op x y) z := by
  refine nil_ok (fun b hb => ?_) hl
  unfold nilFn at hb
  split at hb
  · simp only [Option.some.injEq] at hb
    have e1 : vx = .nilFunc := hx
    have e2 : vy = .nilFunc := hy
    subst e1; subst e2; subst hb
    have q : ∀ d, (Op.equalIn (d + 1) t .nilFunc .nilFunc).run Pr w = .ok true w := fun d => by simp [Op.equalIn, run_underlying hu]
    refine ⟨q 9999, fun _ _ => eqGuard_plain (by simp) (by simp), ?_, ?_⟩
    · simp [binOp, Op.equal, Op.maxDepth]
    · simp [binOp, Op.equal, Op.maxDepth]
  · simp only [Option.some.injEq] at hb
    obtain ⟨_, e1⟩ := hx
    have e2 : vy = .nilFunc := hy
    subst e1; subst e2; subst hb
    have q : ∀ d f a b, (Op.equalIn (d + 1) t (.func f a b) .nilFunc).run Pr w = .ok false w := fun d f a b => by simp [Op.equalIn, run_underlying hu]
    refine ⟨q 9999 _ _ _, fun _ _ => eqGuard_plain (by simp) (by simp), ?_, ?_⟩
    · simp [binOp, Op.equal, Op.maxDepth]
    · simp [binOp, Op.equal, Op.maxDepth]
  · cases hb
theorem nilI_ok {op : BinOp} {t : TypeId} {ms : Array (String × TypeId)} (hu : Pr.underlying t = some (.interface ms)) {ox oy : Operand} (hc : (isConstO ox || isConstO oy) = true) {x y : HV} {vx vy : Value} (hx : TRep g c x vx) (hy : TRep g c y vy) (hl : nilF nilI op x y ≠ .dead) :
    ∃ z, ((eqGuard op t ox oy vx vy).run Pr w = .ok () w ∧ (binOp op t vx vy).run Pr w = .ok z w) ∧ TRep g c (nilF nilI op x y) z := by
  unfold nilF nilI at hl ⊢
  split at hl
  · rename_i b hb
    split at hb
    · simp only [Option.some.injEq] at hb
      subst hb
      have e1 : vx = .nilIface := hx
      have e2 : vy = .nilIface := hy
      subst e1; subst e2
      have q : ∀ d, (Op.equalIn (d + 1) t .nilIface .nilIface).run Pr w = .ok true w := fun d => by simp [Op.equalIn, run_underlying hu]
      have gd : (eqGuard op t ox oy .nilIface .nilIface).run Pr w = .ok () w := by
        cases ox <;> cases oy <;> first | (exfalso; revert hc; simp [isConstO]; done) | (unfold eqGuard; cases op <;> simp; done)
      cases op <;> first | (exact absurd rfl hl) | skip
      · refine ⟨.bool true, ⟨gd, ?_⟩, rfl⟩
        have := q 9999
        simp [binOp, Op.equal, Op.maxDepth, this]
      · refine ⟨.bool false, ⟨gd, ?_⟩, rfl⟩
        have := q 9999
        simp [binOp, Op.equal, Op.maxDepth, this]
    · cases hb
  · exact absurd rfl hl
theorem md_bin {op : BinOp} {t : TypeId} {k k' : IntKind} {a b : Int} {z : Value} (h : (binOp op t (.int k a) (.int k' b)).run Pr w = .ok z w) : BinOk Pr op t (.int k a) (.int k' b) z w :=
  ⟨fun ox oy => eqGuard_plain (by simp) (by simp), h⟩
theorem mdW_ok {op : BinOp} {t : TypeId} {q : IntKind → Nat → Nat → HV → HV} {f : HV → HV → HV} {x y : HV} {vx vy : Value} (hx : TRep g c x vx) (hy : TRep g c y vy) (hl : mdW q f x y ≠ .dead)
    (hf : f x y ≠ .dead → ∃ z, BinOk Pr op t vx vy z w ∧ TRep g c (f x y) z)
    (hq : ∀ k n m, q k m (n % m) y ≠ .dead → n ≤ top k → ∃ z, BinOk Pr op t (.int k (Int.ofNat n)) vy z w ∧ TRep g c (q k m (n % m) y) z) : ∃ z, BinOk Pr op t vx vy z w ∧ TRep g c (mdW q f x y) z := by
  cases x <;> try exact hf hl
  rename_i k m r
  obtain ⟨n, rfl, rfl, hn⟩ := hx
  exact hq k n m hl hn
theorem and_one : ∀ n, n ≤ 255 → andI .u8 (Int.ofNat n) (Int.ofNat 1) = Int.ofNat (n % 2) := by
  have h : ∀ n : Fin 256, andI .u8 (Int.ofNat n.1) (Int.ofNat 1) = Int.ofNat (n.1 % 2) := by decide +kernel
  exact fun n hn => h ⟨n, by omega⟩
theorem remM_ok {t : TypeId} {k : IntKind} {n m : Nat} {y : HV} {vy : Value} (hy : TRep g c y vy) (hl : remM k m (n % m) y ≠ .dead) : ∃ z, BinOk Pr .rem t (.int k (Int.ofNat n)) vy z w ∧ TRep g c (remM k m (n % m) y) z := by
  unfold remM at hl ⊢
  split at hl
  · rename_i k' b
    have e2 : vy = .int k' (Int.ofNat b) := hy
    subst e2
    split at hl
    · rename_i hc
      simp only [hc, if_true]
      simp only [Bool.and_eq_true, Bool.not_eq_true'] at hc
      obtain ⟨⟨c1, c2⟩, c3⟩ := hc
      have := ikEq_eq c1; subst this
      have hb : b ≠ 0 := fun e => by subst e; cases c2
      have hd : b ∣ m := Nat.dvd_of_mod_eq_zero (Nat.eq_of_beq_eq_true c3)
      have hb' : ¬ (Int.ofNat b = 0) := fun e => hb (Int.ofNat.inj e)
      refine ⟨.int k ((Int.ofNat n).tmod (Int.ofNat b)), md_bin (by simp [binOp, Op.intDiv, hb]), ?_⟩
      show Value.int k (Int.ofNat (n % b)) = Value.int k (Int.ofNat (n % m % b))
      rw [Nat.mod_mod_of_dvd _ hd]
    · exact absurd rfl hl
  · exact absurd rfl hl
theorem andM_ok {t : TypeId} {k : IntKind} {n m : Nat} {y : HV} {vy : Value} (hy : TRep g c y vy) (hn : n ≤ top k) (hl : andM k m (n % m) y ≠ .dead) : ∃ z, BinOk Pr .and t (.int k (Int.ofNat n)) vy z w ∧ TRep g c (andM k m (n % m) y) z := by
  unfold andM at hl ⊢
  split at hl
  · rename_i k' b
    have e2 : vy = .int k' (Int.ofNat b) := hy
    subst e2
    split at hl
    · rename_i hc
      simp only [hc, if_true]
      simp only [Bool.and_eq_true] at hc
      obtain ⟨⟨c1, c2⟩, c3⟩ := hc
      have := ikEq_eq c1; subst this
      have := ikEq_eq c2; subst this
      have := Nat.eq_of_beq_eq_true c3; subst this
      have hn : n ≤ 255 := hn
      refine ⟨.int .u8 (andI .u8 (Int.ofNat n) (Int.ofNat 1)), md_bin (by simp [binOp, Op.intBits]; rfl), ?_⟩
      rw [and_one n hn]
      split
      · rename_i h2
        have hd : 2 ∣ m := Nat.dvd_of_mod_eq_zero (Nat.eq_of_beq_eq_true h2)
        show Value.int .u8 (Int.ofNat (n % 2)) = Value.int .u8 (Int.ofNat (n % m % 2))
        rw [Nat.mod_mod_of_dvd _ hd]
      · exact ⟨n % 2, rfl, Nat.mod_one _, by show n % 2 ≤ 255; omega⟩
    · exact absurd rfl hl
  · exact absurd rfl hl
theorem eqlM_ok {t : TypeId} {k : IntKind} {n m : Nat} {y : HV} {vy : Value} (hy : TRep g c y vy) (hl : eqlM k m (n % m) y ≠ .dead) : ∃ z, BinOk Pr .eql t (.int k (Int.ofNat n)) vy z w ∧ TRep g c (eqlM k m (n % m) y) z := by
  unfold eqlM at hl ⊢
  split at hl
  · rename_i k' b
    have e2 : vy = .int k' (Int.ofNat b) := hy
    subst e2
    split at hl
    · rename_i hc
      simp only [hc, if_true]
      have := ikEq_eq hc; subst this
      refine ⟨.bool (Int.ofNat n == Int.ofNat b), md_bin (by simp [binOp, Op.intCmp]), ?_⟩
      split
      · exact ⟨_, rfl⟩
      · rename_i h2
        show Value.bool _ = Value.bool false
        congr 1
        rw [beq_eq_false_iff_ne]
        intro e
        have := Int.ofNat.inj e
        subst this
        exact h2 (Nat.beq_refl _)
    · exact absurd rfl hl
  · exact absurd rfl hl
theorem shrM_ok {t : TypeId} {k : IntKind} {n m : Nat} {y : HV} {vy : Value} (hy : TRep g c y vy) (hn : n ≤ top k) (hl : shrM k m (n % m) y ≠ .dead) : ∃ z, BinOk Pr .shr t (.int k (Int.ofNat n)) vy z w ∧ TRep g c (shrM k m (n % m) y) z := by
  unfold shrM at hl ⊢
  split at hl
  · rename_i k' b
    have e2 : vy = .int k' (Int.ofNat b) := hy
    subst e2
    have hb : ¬ (Int.ofNat b < 0) := by simp
    refine ⟨.int k (Int.ofNat (n / 2 ^ (min b k.bits))), md_bin ?_, ?_⟩
    · have : (Int.ofNat n).fdiv (2 ^ min b k.bits) = Int.ofNat (n / 2 ^ (min b k.bits)) := by
        have e : (2 : Int) ^ (min b k.bits) = Int.ofNat (2 ^ (min b k.bits)) := by simp
        rw [e]; exact (Int.ofNat_fdiv _ _).symm
      rw [← this]
      have hb2 : ¬ ((b : Int) < 0) := by omega
      simp [binOp, Op.shift, hb2]
    · split
      · rename_i h2
        have hd : 2 ^ (min b k.bits) ∣ m := Nat.dvd_of_mod_eq_zero (Nat.eq_of_beq_eq_true h2)
        obtain ⟨q, rfl⟩ := hd
        have hp : 0 < 2 ^ (min b k.bits) := Nat.pow_pos (by omega)
        refine ⟨n / 2 ^ (min b k.bits), rfl, ?_, Nat.le_trans (Nat.div_le_self _ _) hn⟩
        show n / 2 ^ (min b k.bits) % (2 ^ (min b k.bits) * q / 2 ^ (min b k.bits)) = n % (2 ^ (min b k.bits) * q) / 2 ^ (min b k.bits)
        rw [Nat.mul_div_cancel_left _ hp, Nat.mod_mul_right_div_self]
      · exact ⟨n / 2 ^ (min b k.bits), rfl, Nat.mod_one _, Nat.le_trans (Nat.div_le_self _ _) hn⟩
  · exact absurd rfl hl
theorem syW_ok {op : BinOp} {t : TypeId} {q : Nat → Nat → Bool} {f : HV → HV → HV} {x y : HV} {vx vy : Value} (hx : TRep g c x vx) (hy : TRep g c y vy) (hl : syW q f x y ≠ .dead)
    (hf : f x y ≠ .dead → ∃ z, BinOk Pr op t vx vy z w ∧ TRep g c (f x y) z)
    (hq : ∀ k i j, i < Env.m → j < Env.m → (binOp op t (.int k (Env.ρ i)) (.int k (Env.ρ j))).run Pr w = .ok (.bool (q i j)) w) : ∃ z, BinOk Pr op t vx vy z w ∧ TRep g c (syW q f x y) z := by
  cases x <;> try exact hf hl
  rename_i k i
  obtain ⟨hi, rfl⟩ : i < Env.m ∧ vx = .int k (Env.ρ i) := hx
  cases y <;> try exact absurd rfl hl
  rename_i k' j
  obtain ⟨hj, rfl⟩ : j < Env.m ∧ vy = .int k' (Env.ρ j) := hy
  by_cases hk : ikEq k k' = true
  · have := ikEq_eq hk; subst this
    refine ⟨_, md_bin (hq k i j hi hj), ?_⟩
    show TRep g c (if ikEq k k = true then HV.bool (q i j) else .dead) _
    rw [if_pos hk]
    exact rfl
  · refine absurd ?_ hl
    show (if ikEq k k' = true then HV.bool (q i j) else .dead) = .dead
    rw [if_neg hk]
theorem rho_lt {i j : Nat} (hi : i < Env.m) (hj : j < Env.m) : Env.ρ i < Env.ρ j ↔ i < j := by
  constructor
  · intro h
    rcases Nat.lt_trichotomy i j with h1 | h1 | h1
    · exact h1
    · subst h1; omega
    · have := Env.mono j i h1 hi; omega
  · intro h; exact Env.mono i j h hj
theorem rho_eq {i j : Nat} (hi : i < Env.m) (hj : j < Env.m) : Env.ρ i = Env.ρ j ↔ i = j := by
  constructor
  · intro h
    rcases Nat.lt_trichotomy i j with h1 | h1 | h1
    · have := Env.mono i j h1 hj; omega
    · exact h1
    · have := Env.mono j i h1 hi; omega
  · intro h; subst h; rfl
theorem par_one {k : IntKind} {n : Int} {r : Nat} (h : n % 2 = Int.ofNat r) : andI k n (Int.ofNat 1) = Int.ofNat r := by
  unfold andI
  have hb : 0 < k.bits := by cases k <;> decide
  have h1 : (BitVec.ofInt k.bits n &&& BitVec.ofInt k.bits (Int.ofNat 1)).toNat = r := by
    rw [BitVec.toNat_and, BitVec.toNat_ofInt, BitVec.toNat_ofInt]
    have e1 : (Int.ofNat 1 % ((2 ^ k.bits : Nat) : Int)).toNat = 1 := by cases k <;> rfl
    rw [e1, Nat.and_one_is_mod]
    have e2 : (n % ((2 ^ k.bits : Nat) : Int)) % 2 = n % 2 := by
      apply Int.emod_emod_of_dvd
      have : (2 : Nat) ∣ 2 ^ k.bits := (⟨2 ^ (k.bits - 1), by rw [Nat.mul_comm, ← Nat.pow_succ]; congr 1; omega⟩)
      exact Int.ofNat_dvd.2 this
    have e3 : 0 ≤ n % ((2 ^ k.bits : Nat) : Int) := Int.emod_nonneg _ (by have : 0 < 2 ^ k.bits := Nat.pow_pos (by decide); omega)
    rw [h] at e2
    have e4 : Int.ofNat r = (r : Int) := rfl
    rw [e4] at e2
    omega
  rw [h1]
  have hr : r < 2 := by have : Int.ofNat r = (r : Int) := rfl; omega
  have : r = 0 ∨ r = 1 := by omega
  rcases this with rfl | rfl <;> cases k <;> rfl
theorem parW_ok {t : TypeId} {f : HV → HV → HV} {x y : HV} {vx vy : Value} (hx : TRep g c x vx) (hy : TRep g c y vy) (hl : parW f x y ≠ .dead)
    (hf : f x y ≠ .dead → ∃ z, BinOk Pr .and t vx vy z w ∧ TRep g c (f x y) z) : ∃ z, BinOk Pr .and t vx vy z w ∧ TRep g c (parW f x y) z := by
  cases x <;> try exact hf hl
  rename_i k r
  obtain ⟨n, rfl, hn, _, _⟩ : ∃ n : Int, vx = .int k n ∧ n % 2 = Int.ofNat r ∧ k.min ≤ n ∧ n ≤ k.max := hx
  cases y <;> try exact absurd rfl hl
  rename_i k' b
  cases b with
  | negSucc b => exact absurd rfl hl
  | ofNat b =>
    have e2 : vy = .int k' (Int.ofNat b) := hy
    subst e2
    by_cases hc : (ikEq k k' && Nat.beq b 1) = true
    · have e : parW f (.par k r) (.int k' (Int.ofNat b)) = .int k (Int.ofNat r) := by
        show (if (ikEq k k' && Nat.beq b 1) = true then HV.int k (Int.ofNat r) else .dead) = _
        rw [if_pos hc]
      rw [e]
      simp only [Bool.and_eq_true] at hc
      have := ikEq_eq hc.1; subst this
      have := Nat.eq_of_beq_eq_true hc.2; subst this
      refine ⟨.int k (andI k n (Int.ofNat 1)), md_bin (by simp [binOp, Op.intBits]; rfl), ?_⟩
      rw [par_one hn]
      exact rfl
    · refine absurd ?_ hl
      show (if (ikEq k k' && Nat.beq b 1) = true then HV.int k (Int.ofNat r) else .dead) = .dead
      rw [if_neg hc]
theorem mdF_ok {op : BinOp} {t : TypeId} {f : HV → HV → HV} (h : mdF op (intF op) = .f f) {x y : HV} {vx vy : Value} (hx : TRep g c x vx) (hy : TRep g c y vy) (hl : f x y ≠ .dead) : ∃ z, BinOk Pr op t vx vy z w ∧ TRep g c (f x y) z := by
  unfold mdF at h
  split at h
  · rename_i f0 h0
    split at h
    · injection h with h; subst h; exact mdW_ok hx hy hl (fun hd => intF_ok h0 hx hy hd) fun k n m hd hn => remM_ok hy hd
    · injection h with h; subst h; exact parW_ok hx hy hl fun hd => mdW_ok hx hy hd (fun hd => intF_ok h0 hx hy hd) fun k n m hd hn => andM_ok hy hn hd
    · injection h with h; subst h
      refine syW_ok hx hy hl (fun hd => mdW_ok hx hy hd (fun hd => intF_ok h0 hx hy hd) fun k n m hd hn => eqlM_ok hy hd) fun k i j hi hj => ?_
      have e : (Env.ρ i == Env.ρ j) = Nat.beq i j := by rw [Bool.eq_iff_iff, beq_iff_eq, Nat.beq_eq]; exact rho_eq hi hj
      rw [← e]; simp [binOp, Op.intCmp]
    · injection h with h; subst h
      refine syW_ok hx hy hl (fun hd => intF_ok h0 hx hy hd) fun k i j hi hj => ?_
      have e : (Env.ρ i != Env.ρ j) = Bool.not (Nat.beq i j) := by
        show Bool.not (Env.ρ i == Env.ρ j) = _
        congr 1; rw [Bool.eq_iff_iff, beq_iff_eq, Nat.beq_eq]; exact rho_eq hi hj
      rw [← e]; simp [binOp, Op.intCmp]
    · injection h with h; subst h
      refine syW_ok hx hy hl (fun hd => intF_ok h0 hx hy hd) fun k i j hi hj => ?_
      have e : decide (Env.ρ i < Env.ρ j) = Nat.blt i j := by rw [Bool.eq_iff_iff, decide_eq_true_iff, Nat.blt_eq]; exact rho_lt hi hj
      rw [← e]; simp [binOp, Op.intCmp]
    · injection h with h; subst h
      refine syW_ok hx hy hl (fun hd => intF_ok h0 hx hy hd) fun k i j hi hj => ?_
      have e : decide (Env.ρ i ≤ Env.ρ j) = Nat.ble i j := by rw [Bool.eq_iff_iff, decide_eq_true_iff, Nat.ble_eq, ← Int.not_lt, rho_lt hj hi, Nat.not_lt]
      rw [← e]; simp [binOp, Op.intCmp]
    · injection h with h; subst h
      refine syW_ok hx hy hl (fun hd => intF_ok h0 hx hy hd) fun k i j hi hj => ?_
      have e : decide (Env.ρ i > Env.ρ j) = Nat.blt j i := by rw [Bool.eq_iff_iff, decide_eq_true_iff, Nat.blt_eq]; exact rho_lt hj hi
      rw [← e]; simp [binOp, Op.intCmp]
    · injection h with h; subst h
      refine syW_ok hx hy hl (fun hd => intF_ok h0 hx hy hd) fun k i j hi hj => ?_
      have e : decide (Env.ρ i ≥ Env.ρ j) = Nat.ble j i := by rw [Bool.eq_iff_iff, decide_eq_true_iff, Nat.ble_eq]; show Env.ρ j ≤ Env.ρ i ↔ _; rw [← Int.not_lt, rho_lt hi hj, Nat.not_lt]
      rw [← e]; simp [binOp, Op.intCmp]
    · injection h with h; subst h; exact intF_ok h0 hx hy hl
  · cases h
theorem binF_ok {op : BinOp} {t : TypeId} {f : HV → HV → HV} (h : binF Pr op t = .f f) {x y : HV} {vx vy : Value} (hx : TRep g c x vx) (hy : TRep g c y vy) (hl : f x y ≠ .dead) : ∃ z, BinOk Pr op t vx vy z w ∧ TRep g c (f x y) z := by
  unfold binF at h
  split at h
  · injection h with h; subst h; exact shl_ok hx hy hl
  · injection h with h; subst h; exact mdW_ok hx hy hl (fun hd => shr_ok hx hy hd) fun k n m hd hn => shrM_ok hy hn hd
  · split at h
    · exact mdF_ok h hx hy hl
    · rename_i hu; injection h with h; subst h; exact bool_ok hu hx hy hl
    · injection h with h; subst h; exact flt_ok hx hy hl
    · injection h with h; subst h; exact cpx_ok hx hy hl
    · injection h with h; subst h; exact str_ok hx hy hl
    · rename_i hu; injection h with h; subst h; exact nilP_ok hu hx hy hl
    · rename_i hu; injection h with h; subst h; exact nilS_ok hu hx hy hl
    · rename_i hu; injection h with h; subst h; exact nilFn_ok hu hx hy hl
    · injection h with h; subst h; exact agg_ok hx hy hl
    · cases h
theorem binG_ok {op : BinOp} {t : TypeId} {ox oy : Operand} {f : HV → HV → HV} (h : binG Pr op t ox oy = .f f) {x y : HV} {vx vy : Value} (hx : TRep g c x vx) (hy : TRep g c y vy) (hl : f x y ≠ .dead) :
    ∃ z, ((eqGuard op t ox oy vx vy).run Pr w = .ok () w ∧ (binOp op t vx vy).run Pr w = .ok z w) ∧ TRep g c (f x y) z := by
  unfold binG at h
  split at h
  · rename_i ms hu
    split at h
    · rename_i hc
      injection h with h; subst h
      exact nilI_ok hu hc hx hy hl
    · cases h
  · obtain ⟨z, ⟨h1, h2⟩, h3⟩ := binF_ok (w := w) h hx hy hl
    exact ⟨z, ⟨h1 ox oy, h2⟩, h3⟩
theorem unV_ok {op : UnOp} {x : HV} {v : Value} (hx : TRep g c x v) (hl : unV op x ≠ .dead) : ∃ u, (Op.unary op v).run Pr w = .ok u w ∧ TRep g c (unV op x) u := by
  unfold unV at hl ⊢
  cases x <;> try exact absurd rfl hl
  all_goals
    have e1 : v = _ := hx
    subst e1
    cases op <;> simp only at hl ⊢ <;> first
      | exact absurd rfl hl
      | exact ⟨_, by simp [Op.unary, Op.intArith, Op.intBits], rfl⟩
end
end
end Go.FM
end

section
namespace Go.FM
noncomputable section
variable [Env]
section
variable {Pr : Program} {w : World} {g : Gm} {c : Nat}
theorem TRep.int {k : IntKind} {n : Int} {v : Value} (h : TRep g c (.int k n) v) : v = .int k n := h
theorem natOf_some {x : HV} {i : Nat} (h : natOf x = some i) : ∃ k, x = .int k (i : Int) := by
  unfold natOf at h
  split at h
  · rename_i k n
    simp only [Option.some.injEq] at h; subst h
    exact ⟨k, rfl⟩
  · cases h
theorem toInt_ok {src dst : TypeId} {d0 : TypeDesc} {k : IntKind} (h0 : Pr.underlying src = some d0) (h1 : Pr.underlying dst = some (.int k)) {x : HV} {v : Value} (hx : TRep g c x v) (hl : toInt k x ≠ .dead) :
    ∃ u, (convert src dst v).run Pr w = .ok u w ∧ TRep g c (toInt k x) u := by
  unfold toInt at hl ⊢
  cases x <;> try exact absurd rfl hl
  · rename_i k' n
    have e1 : v = .int k' n := hx
    subst e1
    simp only [wrapF_eq]
    exact ⟨.int k (k.wrap n), by simp [convert, run_underlying h0, run_underlying h1, Conv.intToInt], rfl⟩
  · rename_i s b
    have e1 : v = .float s b := hx
    subst e1
    simp only at hl ⊢
    split at hl
    · rename_i n hn
      split at hl
      · rename_i hr
        rw [if_pos hr]
        exact ⟨.int k n, by simp [convert, run_underlying h0, run_underlying h1, Conv.floatToInt, hn, hr], rfl⟩
      · exact absurd rfl hl
    · exact absurd rfl hl
  · rename_i k' m r
    obtain ⟨n, rfl, hr, hn⟩ := hx
    simp only at hl ⊢
    split at hl
    · rename_i hc
      rw [if_pos hc]
      have hle : n ≤ top k := Nat.le_trans hn (Nat.le_of_ble_eq_true hc)
      have hw := wrapN_eq k n
      unfold wrapN at hw
      rw [Nat.ble_eq_true_of_le hle] at hw
      refine ⟨.int k (k.wrap (.ofNat n)), by simp [convert, run_underlying h0, run_underlying h1, Conv.intToInt], n, ?_, hr, hle⟩
      have hw : HV.int k (Int.ofNat n) = HV.int k (k.wrap (Int.ofNat n)) := hw
      injection hw with _ hw
      rw [← hw]; rfl
    · exact absurd rfl hl
theorem toFlt_ok {src dst : TypeId} {d0 : TypeDesc} {k : FloatKind} (h0 : Pr.underlying src = some d0) (h1 : Pr.underlying dst = some (.float k)) {x : HV} {v : Value} (hx : TRep g c x v) (hl : toFlt k x ≠ .dead) :
    ∃ u, (convert src dst v).run Pr w = .ok u w ∧ TRep g c (toFlt k x) u := by
  unfold toFlt at hl ⊢
  cases x <;> try exact absurd rfl hl
  · rename_i k' n
    have e1 : v = .int k' n := hx
    subst e1
    exact ⟨.float k (k.nearest n), by simp [convert, run_underlying h0, run_underlying h1, Conv.intToFloat], rfl⟩
  · rename_i s b
    have e1 : v = .float s b := hx
    subst e1
    simp only at hl ⊢
    by_cases hk : s = k
    · subst hk
      rw [if_pos rfl]
      exact ⟨.float s b, by simp [convert, run_underlying h0, run_underlying h1, Conv.floatToFloat], rfl⟩
    · rw [if_neg hk] at hl; exact absurd rfl hl
theorem idStr_ok {src dst : TypeId} {d0 : TypeDesc} (h0 : Pr.underlying src = some d0) (h1 : Pr.underlying dst = some .string) {x : HV} {v : Value} (hx : TRep g c x v) (hl : idStr x ≠ .dead) :
    ∃ u, (convert src dst v).run Pr w = .ok u w ∧ TRep g c (idStr x) u := by
  unfold idStr at hl ⊢
  cases x <;> try exact absurd rfl hl
  rename_i n d
  obtain ⟨hd, e1⟩ : d < 256 ^ n ∧ v = strOf n d := hx
  subst e1
  exact ⟨strOf n d, by simp only [strOf]; simp [convert, run_underlying h0, run_underlying h1], hd, rfl⟩
theorem addr_add (g : Gm) (k o n : Nat) : (addrOf g k o).add n = addrOf g k (o + n) := by
  simp only [addrOf]
  rw [Addr.add_lit, Nat.add_assoc]
theorem fieldAddrF_ok {t : TypeId} {i : Nat} {f : HV → HV} (h : fieldAddrF Pr t i = .f f) {x : HV} {v : Value} (hx : TRep g c x v) (hl : f x ≠ .dead) : ∃ u, (Instr.fieldAt t v i).run Pr w = .ok u w ∧ TRep g c (f x) u := by
  unfold fieldAddrF at h
  split at h
  · rename_i fields hu
    split at h
    · rename_i fd hf
      split at h
      · rename_i m hm
        injection h with h; subst h
        unfold fieldAddr at hl ⊢
        cases x <;> try exact absurd rfl hl
        rename_i k o
        obtain ⟨hk, e1⟩ := hx
        subst e1
        refine ⟨.pointer (some (addrOf g k (o + fd.offset))), ?_, hk, rfl⟩
        have := addr_add g k o fd.offset
        simp [Instr.fieldAt, run_underlying hu, hf, Instr.sureAddr, fieldPlace, sizeT_run hm, this]
      · cases h
    · cases h
  · cases h
theorem fieldF_ok {t : TypeId} {i : Nat} {f : HV → HV} (h : fieldF Pr t i = .f f) {x : HV} {v : Value} (hx : TRep g c x v) (hl : f x ≠ .dead) : ∃ u, (Instr.field t v i).run Pr w = .ok u w ∧ TRep g c (f x) u := by
  unfold fieldF at h
  split at h
  · rename_i fields hu
    split at h
    · rename_i fd hf
      split at h
      · rename_i n b hn hb
        injection h with h; subst h
        unfold fieldV at hl ⊢
        cases x <;> try exact absurd rfl hl
        rename_i cs
        obtain ⟨vs, rfl, hvs⟩ := hx
        obtain ⟨u, h1, h2⟩ := part_ok (w := w) hn hb hvs hl
        refine ⟨u, ?_, TRep.of_val h2⟩
        simp [Instr.field, run_underlying hu, hf, h1, asAgg]
      · cases h
    · cases h
  · cases h
theorem indexAddrF_ok {t : TypeId} {f : HV → HV → HV} (h : indexAddrF Pr t = .f f) {x y : HV} {v u : Value} (hx : TRep g c x v) (hy : TRep g c y u) (hl : f x y ≠ .dead) : ∃ r, (Instr.indexAt t v u).run Pr w = .ok r w ∧ TRep g c (f x y) r := by
  unfold indexAddrF at h
  split at h
  · rename_i e hu
    split at h
    · rename_i sz hsz
      injection h with h; subst h
      unfold indexAddrS at hl ⊢
      cases x <;> try exact absurd rfl hl
      rename_i k o n es cl
      simp only at hl ⊢
      split at hl
      · rename_i i hi
        obtain ⟨kk, rfl⟩ := natOf_some hi
        have e2 : u = .int kk (i : Int) := hy
        subst e2
        obtain ⟨hk, A, m, e1, hnm, hmm, hes, hlen, hbs, hfull, hcl, hA⟩ := hx
        subst e1
        cases hb : Nat.blt i n with
        | false => rw [hb] at hl; exact absurd rfl hl
        | true =>
          have hin : i < n := Nat.le_of_ble_eq_true hb
          rw [hb] at hl
          cases hq : Nat.beq es sz with
          | false => rw [hq] at hl; exact absurd rfl hl
          | true =>
            have := Nat.eq_of_beq_eq_true hq; subst this
            have hAe := hA (by omega)
            subst hAe
            refine ⟨.pointer (some (addrOf g k (o + i * es))), ?_, hk, rfl⟩
            have := addr_add g k o (i * es)
            simp [Instr.indexAt, asIntOf, run_underlying hu, hin, sizeT_run hsz, this]
      · exact absurd rfl hl
    · cases h
  · rename_i len e hu
    split at h
    · rename_i sz hsz
      injection h with h; subst h
      unfold indexAddrA at hl ⊢
      cases x <;> try exact absurd rfl hl
      rename_i k o
      simp only at hl ⊢
      split at hl
      · rename_i i hi
        obtain ⟨kk, rfl⟩ := natOf_some hi
        have e2 : u = .int kk (i : Int) := hy
        subst e2
        obtain ⟨hk, e1⟩ := hx
        subst e1
        cases hb : Nat.blt i len with
        | false => rw [hb] at hl; exact absurd rfl hl
        | true =>
          have hin : i < len := Nat.le_of_ble_eq_true hb
          refine ⟨.pointer (some (addrOf g k (o + i * sz))), ?_, hk, rfl⟩
          have := addr_add g k o (i * sz)
          simp [Instr.indexAt, asIntOf, run_underlying hu, Instr.sureAddr, hin, sizeT_run hsz, this]
      · exact absurd rfl hl
    · cases h
  · cases h
theorem indexF_ok {t : TypeId} {f : HV → HV → HV} (h : indexF Pr t = .f f) {x y : HV} {v u : Value} (hx : TRep g c x v) (hy : TRep g c y u) (hl : f x y ≠ .dead) : ∃ r, (Instr.index t v u).run Pr w = .ok r w ∧ TRep g c (f x y) r := by
  unfold indexF at h
  split at h
  · rename_i hu
    injection h with h; subst h
    unfold indexStr at hl ⊢
    split at hl
    · rename_i n d i hi
      obtain ⟨kk, rfl⟩ := natOf_some hi
      have e2 : u = .int kk (i : Int) := hy
      subst e2
      obtain ⟨hd, e1⟩ : d < 256 ^ n ∧ v = strOf n d := hx
      subst e1
      split at hl
      · rename_i hb
        have hin : i < n := Nat.le_of_ble_eq_true hb
        rw [if_pos hb]
        refine ⟨.int .u8 (bAt d i : Nat), ?_, rfl⟩
        have hg := bytesOf_get n d i hin
        have hsz : (⟨(bytesOf n d).toArray⟩ : ByteArray).size = n := by simp [ByteArray.size, bytesOf_length]
        have hb' : (⟨(bytesOf n d).toArray⟩ : ByteArray)[i]? = some (UInt8.ofNat (bAt d i)) := by
          have hlt : i < (bytesOf n d).length := by rw [bytesOf_length]; exact hin
          have hge : (bytesOf n d)[i] = UInt8.ofNat (bAt d i) := by simpa [List.getElem?_eq_getElem hlt] using hg
          rw [getElem?_pos (⟨(bytesOf n d).toArray⟩ : ByteArray) i (by simpa [ByteArray.size] using hlt)]
          rw [← hge]; rfl
        have h8 := toNat_ofNat (bAt d i) (bAt_lt d i)
        simp only [strOf]
        simp [Instr.index, asIntOf, run_underlying hu, hb', h8]
      · exact absurd rfl hl
    · exact absurd rfl hl
  · rename_i len e hu
    split at h
    · rename_i sz b hsz hb
      injection h with h; subst h
      unfold indexV at hl ⊢
      split at hl
      · rename_i cs i hi
        obtain ⟨kk, rfl⟩ := natOf_some hi
        have e2 : u = .int kk (i : Int) := hy
        subst e2
        obtain ⟨vs, rfl, hvs⟩ := hx
        split at hl
        · rename_i hlt
          have hin : i < len := Nat.le_of_ble_eq_true hlt
          rw [if_pos hlt]
          obtain ⟨u, h1, h2⟩ := part_ok (w := w) hsz hb hvs hl
          have h1 : (part e vs.toArray (i * sz)).run Pr w = .ok u w := h1
          refine ⟨u, ?_, TRep.of_val h2⟩
          simp [Instr.index, asIntOf, run_underlying hu, hin, sizeT_run hsz, h1, asAgg]
        · exact absurd rfl hl
      · exact absurd rfl hl
    · cases h
  · cases h
theorem boundM_some {most h : Nat} {x : HV} {v : Value} (hx : TRep g c x v) (hb : boundM most x = some h) : ∃ k, v = .int k (h : Int) ∧ h ≤ most := by
  unfold boundM at hb
  split at hb
  · rename_i i hi
    obtain ⟨k, rfl⟩ := natOf_some hi
    split at hb
    · rename_i hle
      simp only [Option.some.injEq] at hb; subst hb
      exact ⟨k, hx, Nat.le_of_ble_eq_true hle⟩
    · cases hb
  · cases hb
theorem sliceBound_run {k : IntKind} {i y : Nat} (cd : BoundsCode) (h1 : i ≤ y) : (Instr.sliceBound (.int k (i : Int)) y cd).run Pr w = .ok i w := by
  have : (i : Int) ≤ (y : Int) := by omega
  simp [Instr.sliceBound, asIntOf, this]
def LoRep (g : Gm) (c : Nat) (lo : Option Value) (x : HV) : Prop := match lo with
  | none => x = .int .i64 (.ofNat 0)
  | some v => TRep g c x v
def HiRep (g : Gm) (c : Nat) (hh : Bool) (hi : Option Value) (x : HV) : Prop := match hi with
  | none => hh = false
  | some v => hh = true ∧ TRep g c x v
theorem boundH_some {hh : Bool} {hi : Option Value} {x : HV} {dflt h : Nat} (hx : HiRep g c hh hi x) (hb : boundH hh dflt x = some h) : (hi = none ∧ h = dflt) ∨ ∃ k, hi = some (.int k (h : Int)) ∧ h ≤ dflt := by
  cases hi with
  | none =>
    have : hh = false := hx
    subst this
    have : some dflt = some h := hb
    exact .inl ⟨rfl, (Option.some.inj this).symm⟩
  | some v =>
    obtain ⟨rfl, hx⟩ := hx
    have hb : boundM dflt x = some h := hb
    obtain ⟨k, rfl, hl⟩ := boundM_some hx hb
    exact .inr ⟨k, rfl, hl⟩
theorem sliceBounds_run {isS hh : Bool} {len cap : Nat} {lo hi : Option Value} {xl xh : HV} {h l : Nat} (hlo : LoRep g c lo xl) (hhi : HiRep g c hh hi xh) (hlc : len ≤ cap) (h1 : boundH hh len xh = some h) (h2 : boundM h xl = some l) :
    (Instr.sliceBounds isS len cap lo hi none).run Pr w = .ok (l, h, cap) w ∧ l ≤ h ∧ h ≤ len := by
  have key : ∀ k, hi = some (.int k (h : Int)) → h ≤ len → (Instr.sliceBounds isS len cap lo hi none).run Pr w = .ok (l, h, cap) w ∧ l ≤ h ∧ h ≤ len := by
    rintro k rfl hle
    cases lo with
    | none =>
      have : xl = .int .i64 (.ofNat 0) := hlo
      subst this
      have h2 : (if Nat.ble 0 h then some 0 else none) = some l := h2
      simp at h2; subst h2
      exact ⟨by simp [Instr.sliceBounds, sliceBound_run (Pr := Pr) (w := w) _ (show h ≤ cap by omega)], by omega, hle⟩
    | some v =>
      obtain ⟨k2, rfl, hl⟩ := boundM_some hlo h2
      exact ⟨by simp [Instr.sliceBounds, sliceBound_run (Pr := Pr) (w := w) _ (show h ≤ cap by omega), sliceBound_run (Pr := Pr) (w := w) _ hl], hl, hle⟩
  rcases boundH_some hhi h1 with ⟨rfl, rfl⟩ | ⟨k, hk, hle⟩
  · cases lo with
    | none =>
      have : xl = .int .i64 (.ofNat 0) := hlo
      subst this
      have h2 : (if Nat.ble 0 h then some 0 else none) = some l := h2
      simp at h2; subst h2
      exact ⟨by simp [Instr.sliceBounds], by omega, Nat.le_refl _⟩
    | some v =>
      obtain ⟨k2, rfl, hl⟩ := boundM_some hlo h2
      exact ⟨by simp [Instr.sliceBounds, sliceBound_run (Pr := Pr) (w := w) _ hl], hl, Nat.le_refl _⟩
  · exact key k hk hle
theorem sliceF_ok {hh : Bool} {t : TypeId} {f : HV → HV → HV → HV} (h : sliceF Pr hh t = .f f) {x xl xh : HV} {v : Value} {lo hi : Option Value} (hx : TRep g c x v) (hlo : LoRep g c lo xl) (hhi : HiRep g c hh hi xh) (hl : f x xl xh ≠ .dead) :
    ∃ u, (Instr.sliceAt t v lo hi none).run Pr w = .ok u w ∧ TRep g c (f x xl xh) u := by
  unfold sliceF at h
  split at h
  · rename_i hu
    injection h with h; subst h
    unfold sliceStr at hl ⊢
    cases x <;> try exact absurd rfl hl
    rename_i n d
    obtain ⟨hd, e1⟩ : d < 256 ^ n ∧ v = strOf n d := hx
    subst e1
    simp only at hl ⊢
    cases hb : boundH hh n xh with
    | none => rw [hb] at hl; exact absurd rfl hl
    | some h =>
      cases hb2 : boundM h xl with
      | none => rw [hb] at hl; simp only [hb2] at hl; exact absurd rfl hl
      | some l =>
        simp only [hb2]
        obtain ⟨q, hlh, hhn⟩ := sliceBounds_run (Pr := Pr) (w := w) (isS := false) hlo hhi (Nat.le_refl n) hb hb2
        refine ⟨strOf (h - l) (bCut d l (h - l)), ?_, bCut_lt _ _ _, rfl⟩
        have hsz : (⟨(bytesOf n d).toArray⟩ : ByteArray).size = n := by simp [ByteArray.size, bytesOf_length]
        have he : (⟨(bytesOf n d).toArray⟩ : ByteArray).extract l h = ⟨(bytesOf (h - l) (bCut d l (h - l))).toArray⟩ := by
          apply ByteArray.ext
          rw [bytesOf_cut n d l (h - l) (by omega)]
          apply Array.ext'
          simp [ByteArray.data_extract, List.extract_eq_take_drop]
        simp only [strOf]
        simp [Instr.sliceAt, Instr.slice, run_underlying hu, hsz, q, he]
  · rename_i e hu
    split at h
    · rename_i sz hsz
      injection h with h; subst h
      unfold sliceSlc at hl ⊢
      cases x <;> try exact absurd rfl hl
      ·
        simp only at hl ⊢
        have e1 : v = .slice none 0 0 := hx
        subst e1
        cases hb : boundH hh 0 xh with
        | none => rw [hb] at hl; exact absurd rfl hl
        | some h =>
          have h0 : h = 0 := by
            rcases boundH_some hhi hb with ⟨_, rfl⟩ | ⟨_, _, hle⟩ <;> omega
          subst h0
          cases hb2 : boundM 0 xl with
          | none => rw [hb] at hl; simp only [hb2] at hl; exact absurd rfl hl
          | some l =>
            obtain ⟨q, hlh, hhn⟩ := sliceBounds_run (Pr := Pr) (w := w) (isS := true) hlo hhi (Nat.le_refl 0) hb hb2
            have : l = 0 := by omega
            subst this
            simp only [hb2]
            exact ⟨.slice none 0 0, by simp [Instr.sliceAt, Instr.slice, run_underlying hu, q, sizeT_run hsz], rfl⟩
      · rename_i k o n es cl
        simp only at hl ⊢
        obtain ⟨hk, A, m, e1, hnm, hmm, hes, hlen, hbs, hfull, hcl, hA⟩ := hx
        subst e1
        cases hb : boundH hh n xh with
        | none => rw [hb] at hl; exact absurd rfl hl
        | some h =>
          cases hb2 : boundM h xl with
          | none => rw [hb] at hl; simp only [hb2] at hl; exact absurd rfl hl
          | some l =>
            rw [hb] at hl
            simp only [hb2] at hl ⊢
            obtain ⟨q, hlh, hhn⟩ := sliceBounds_run (Pr := Pr) (w := w) (isS := true) hlo hhi hnm hb hb2
            cases hbad : (cl && !(Nat.beq h n) || !(Nat.beq es sz)) with
            | true => rw [hbad] at hl; exact absurd rfl hl
            | false =>
              simp only [Bool.or_eq_false_iff, Bool.and_eq_false_iff, Bool.not_eq_false'] at hbad
              obtain ⟨hb3, hb4⟩ := hbad
              have hes2 := Nat.eq_of_beq_eq_true hb4
              subst hes2
              show ∃ u, _ ∧ TRep g c (HV.slc k (o + l * es) (h - l) es cl) u
              refine ⟨.slice (some (if m = l then A else A.add (l * es))) (h - l) (m - l), ?_, hk, _, m - l, rfl, by omega, by omega, hes, ?_, ?_, fun hc => ?_, fun hc => ?_, fun h0 => ?_⟩
              · have : (if m = l then some A else Option.map (fun x => x.add (l * es)) (some A)) = some (if m = l then A else A.add (l * es)) := by split <;> rfl
                simp [Instr.sliceAt, Instr.slice, run_underlying hu, q, sizeT_run hsz]
                split <;> simp_all
              · show o + l * es + (h - l) * es ≤ (g k).len
                have : l * es + (h - l) * es = h * es := by rw [← Nat.add_mul]; congr 1; omega
                have := Nat.mul_le_mul_right es hhn
                omega
              · show (g k).o + (o + l * es) + (m - l) * es ≤ (g k).bs
                have : l * es + (m - l) * es = m * es := by rw [← Nat.add_mul]; congr 1; omega
                omega
              · show (g k).len ≤ o + l * es + (m - l) * es
                have : l * es + (m - l) * es = m * es := by rw [← Nat.add_mul]; congr 1; omega
                have := hfull hc
                omega
              · have hm := hcl hc
                rcases hb3 with hb3 | hb3
                · rw [hc] at hb3; cases hb3
                · have := Nat.eq_of_beq_eq_true hb3
                  omega
              · rw [if_neg (by omega), hA (by omega), addr_add]
    · cases h
  · cases h
theorem clip_ok {t e : TypeId} {sz : Nat} (hu : Pr.underlying t = some (.slice e)) (hsz : sizeT Pr e = some sz) {x xl xh xm : HV} {v vh vm : Value} {lo : Option Value} (hx : TRep g c x v) (hlo : LoRep g c lo xl) (hhi : TRep g c xh vh) (hmx : TRep g c xm vm) (hl : sliceClip sz x xl xh xm ≠ .dead) :
    ∃ u, (Instr.sliceAt t v lo (some vh) (some vm)).run Pr w = .ok u w ∧ TRep g c (sliceClip sz x xl xh xm) u := by
  unfold sliceClip at hl ⊢
  have bnds : ∀ {cap m l : Nat} {km kh : IntKind}, m ≤ cap → boundM m xl = some l → (Instr.sliceBounds true 0 cap lo (some (.int kh (m : Int))) (some (.int km (m : Int)))).run Pr w = .ok (l, m, m) w ∧ l ≤ m := by
    intro cap m l km kh hle hb
    cases lo with
    | none =>
      have : xl = .int .i64 (.ofNat 0) := hlo
      subst this
      have h2 : (if Nat.ble 0 m then some 0 else none) = some l := hb
      simp at h2; subst h2
      exact ⟨by simp [Instr.sliceBounds, sliceBound_run (Pr := Pr) (w := w) _ hle, sliceBound_run (Pr := Pr) (w := w) _ (Nat.le_refl m)], by omega⟩
    | some v =>
      obtain ⟨k2, rfl, hl⟩ := boundM_some hlo hb
      exact ⟨by simp [Instr.sliceBounds, sliceBound_run (Pr := Pr) (w := w) _ hle, sliceBound_run (Pr := Pr) (w := w) _ (Nat.le_refl m), sliceBound_run (Pr := Pr) (w := w) _ hl], hl⟩
  have bnds2 : ∀ {cap m hh l : Nat} {km kh : IntKind}, m ≤ cap → hh ≤ m → boundM hh xl = some l → (Instr.sliceBounds true 0 cap lo (some (.int kh (hh : Int))) (some (.int km (m : Int)))).run Pr w = .ok (l, hh, m) w ∧ l ≤ hh := by
    intro cap m hh l km kh hle hhm hb
    cases lo with
    | none =>
      have : xl = .int .i64 (.ofNat 0) := hlo
      subst this
      have h2 : (if Nat.ble 0 hh then some 0 else none) = some l := hb
      simp at h2; subst h2
      exact ⟨by simp [Instr.sliceBounds, sliceBound_run (Pr := Pr) (w := w) _ hle, sliceBound_run (Pr := Pr) (w := w) _ hhm], by omega⟩
    | some v =>
      obtain ⟨k2, rfl, hl⟩ := boundM_some hlo hb
      exact ⟨by simp [Instr.sliceBounds, sliceBound_run (Pr := Pr) (w := w) _ hle, sliceBound_run (Pr := Pr) (w := w) _ hhm, sliceBound_run (Pr := Pr) (w := w) _ hl], hl⟩
  have len0 : ∀ {cap len : Nat} {a b : Value}, (Instr.sliceBounds true len cap lo (some a) (some b)) = (Instr.sliceBounds true 0 cap lo (some a) (some b)) := fun {cap len a b} => by simp [Instr.sliceBounds]
  cases x <;> try exact absurd rfl hl
  · simp only at hl ⊢
    split at hl
    · rename_i h1 h2 h3
      obtain ⟨k1, rfl⟩ := natOf_some h1
      obtain ⟨k2, rfl⟩ := natOf_some h2
      have e1 : v = .slice none 0 0 := hx
      have e2 : vm = .int k1 ((0 : Nat) : Int) := hmx
      have e3 : vh = .int k2 ((0 : Nat) : Int) := hhi
      subst e1; subst e2; subst e3
      obtain ⟨q, hq⟩ := bnds (cap := 0) (km := k1) (kh := k2) (Nat.le_refl 0) h3
      rename_i l
      have : l = 0 := by omega
      subst this
      exact ⟨.slice none 0 0, by simp [Instr.sliceAt, Instr.slice, run_underlying hu, sizeT_run hsz]; simp at q; simp [q], rfl⟩
    · exact absurd rfl hl
  · rename_i k o n es cl
    obtain ⟨hk, A, m, e1, hnm, hmm, hes, hlen, hbs, hfull, hcl, hA⟩ := hx
    subst e1
    simp only at hl ⊢
    split at hl
    · rename_i mm hq h1 h2
      obtain ⟨k1, rfl⟩ := natOf_some h1
      obtain ⟨k2, rfl⟩ := natOf_some h2
      have e2 : vm = .int k1 (mm : Int) := hmx
      have e3 : vh = .int k2 (hq : Int) := hhi
      subst e2; subst e3
      split at hl
      · rename_i hc
        rw [if_pos hc]
        simp only [Bool.and_eq_true] at hc
        obtain ⟨⟨hc1, hc2⟩, hc3⟩ := hc
        have hc1 := Nat.le_of_ble_eq_true hc1
        have hc2 := Nat.eq_of_beq_eq_true hc2
        have hc3 := Nat.eq_of_beq_eq_true hc3
        subst hc2; subst hc3
        split at hl
        · rename_i l hb
          obtain ⟨q, hlm⟩ := bnds (cap := m) (km := k1) (kh := k2) (show hq ≤ m by omega) hb
          rw [← len0 (len := n)] at q
          show ∃ u, _ ∧ TRep g c (HV.slc k (o + l * es) (hq - l) es true) u
          refine ⟨.slice (some (if hq = l then A else A.add (l * es))) (hq - l) (hq - l), ?_, hk, _, hq - l, rfl, by omega, by omega, hes, ?_, ?_, (fun hc => by cases hc), (fun _ => rfl), fun h0 => ?_⟩
          · simp [Instr.sliceAt, Instr.slice, run_underlying hu, q, sizeT_run hsz]
            split <;> simp_all
          · show o + l * es + (hq - l) * es ≤ (g k).len
            have : l * es + (hq - l) * es = hq * es := by rw [← Nat.add_mul]; congr 1; omega
            have := Nat.mul_le_mul_right es hc1
            omega
          · show (g k).o + (o + l * es) + (hq - l) * es ≤ (g k).bs
            have : l * es + (hq - l) * es = hq * es := by rw [← Nat.add_mul]; congr 1; omega
            have := Nat.mul_le_mul_right es (show hq ≤ m by omega)
            omega
          · rw [if_neg (by omega), hA (by omega), addr_add]
        · exact absurd rfl hl
      · rename_i hc
        rw [if_neg hc]
        split at hl
        · rename_i hc'
          rw [if_pos hc']
          simp only [Bool.and_eq_true] at hc'
          obtain ⟨⟨hc1, hc2⟩, hc3⟩ := hc'
          have hc1 := Nat.le_of_ble_eq_true hc1
          have hc2 := Nat.le_of_ble_eq_true hc2
          have hc3 := Nat.eq_of_beq_eq_true hc3
          subst hc3
          split at hl
          · rename_i l hb
            obtain ⟨q, hlm⟩ := bnds2 (cap := m) (km := k1) (kh := k2) (show mm ≤ m by omega) hc2 hb
            rw [← len0 (len := n)] at q
            refine ⟨.slice (some (if mm = l then A else A.add (l * es))) (hq - l) (mm - l), ?_, trivial⟩
            simp [Instr.sliceAt, Instr.slice, run_underlying hu, q, sizeT_run hsz]
            split <;> simp_all
          · exact absurd rfl hl
        · exact absurd rfl hl
    · exact absurd rfl hl
end
end
end Go.FM
end
