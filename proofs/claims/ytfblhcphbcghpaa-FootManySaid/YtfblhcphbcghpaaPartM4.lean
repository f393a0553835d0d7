/-
  Texts of a proof over the translated program: proved evaluators and walks, part 4 of 14.
-/
import Derived.Test.YtfblhcphbcghpaaPartM3
import Derived.Below
import Derived.Deep.Draws
import Derived.Handy
import Derived.Laws.AppendOwn
import Derived.Laws.OwnMore
import Derived.Laws.Rows
import Derived.Lib.AppendStr
import Derived.Lib.Hide
import Derived.OwnWalk
import Derived.ScopeJumps
import Derived.WalkKit
set_option linter.unusedVariables false
set_option linter.unusedSimpArgs false
set_option linter.unusedSectionVars false
set_option linter.unnecessarySimpa false
section
namespace Go.NR
open Go.RowKit
theorem run_app_str {P : Program} {T U e : TypeId} (E : Elems P T e 1 1 (.int .u8 0)) (hU : P.underlying U = some .string) (ty : TypeId) (w : World) (B : Nat) (v : Value) (n : Nat) (xs : List Value) (hown : w.ownsRow B e 1 v n xs) (s : ByteArray)
    (h63 : n + s.size ≤ 1073741824) (hbase : B ≤ w.heap.size) : ∃ v' w', (Builtin.append_ #[T, U] ty #[v, .string s]).run P w = .ok v' w' ∧ w'.ownsRow B e 1 v' (n + s.size) (xs ++ Lib.strCells s) ∧ w.grownBy w' v.ownBlock := by
  obtain ⟨i, hi, hq⟩ := Option.map_eq_some_iff.1 E.info
  simp only [Prod.mk.injEq] at hq
  obtain ⟨q1, q2, q3⟩ := hq
  obtain ⟨v', w', hr, h2, h3, _⟩ := Lib.run_append_own_string (P := P) w B T U ty e i E.under hU hi q1 q2 q3 v n xs hown s (by unfold maxLen; omega) (by omega) hbase
  exact ⟨v', w', hr, h2, h3⟩
theorem oper_app_str {P : Program} {T U e : TypeId} (E : Elems P T e 1 1 (.int .u8 0)) (hU : P.underlying U = some .string) {o : Oper} {a : Act} {w : World} {K : Act → World → Prop} {Q : Exit → Act → World → Prop} (s x : Operand)
    (ho : o.op = .call { callee := .builtin .append, args := #[s, x], argTypes := #[T, U] })
    (B : Nat) (v : Value) (n : Nat) (xs : List Value) (hs : a.eval s = v) (hown : w.ownsRow B e 1 v n xs) (str : ByteArray) (hx : a.eval x = .string str)
    (h63 : n + str.size ≤ 1073741824) (hbase : B ≤ w.heap.size)
    (h : ∀ v' w', w'.ownsRow B e 1 v' (n + str.size) (xs ++ Lib.strCells str) → w.grownBy w' v.ownBlock → K (a.put o.dst v') w') : o.wp P a w K Q := by
  obtain ⟨v', w', hr, h2, h3⟩ := run_app_str E hU o.type w B v n xs hown str h63 hbase
  unfold Oper.wp execOp
  simp only [ho, resolve, invoke, builtin, Sem.run_bind, Sem.run_pure, Result.andThen_ok, List.map_toArray, List.map_cons, List.map_nil, hs, hx, hr]
  exact h v' w' h2 h3
end Go.NR
end

section
namespace Go.NR
open Go.RowKit
def At (w : World) (g : Nat) (l : List Value) : Prop := ∀ (t : Nat) (u : Value), l[t]? = some u → w.cell? ⟨g, t, none⟩ = some u
theorem At.eq {w w' : World} {g : Nat} {l : List Value} (h : At w g l) (e : w'.heap[g]? = w.heap[g]?) : At w' g l := fun t u hu => (World.cell?_of_block e).trans (h t u hu)
theorem At.lt {w : World} {g : Nat} {l : List Value} (h : At w g l) (hl : l ≠ []) : g < w.heap.size := by
  cases l with
  | nil => exact absurd rfl hl
  | cons x r =>
    have h0 := h 0 x rfl
    rcases Nat.lt_or_ge g w.heap.size with q | q
    · exact q
    · unfold World.cell? at h0
      rw [Array.getElem?_eq_none q] at h0
      simp at h0
theorem At.below {w w' : World} {g : Nat} {l : List Value} (h : At w g l) (hl : l ≠ []) (hb : Below w.heap.size w w') : At w' g l := h.eq (hb.block g (h.lt hl))
theorem at_alloc (w : World) (cs : Array Value) (t : Nat) : At (w.alloc (.cells cs t)) w.heap.size cs.toList := fun j u hu => by
  rw [cell_of_row _ _ j cs t _ (heap_alloc_new w _)]
  simpa using hu
theorem app_store {W V2 V3 : World} {B e size n m s off t : Nat} {v v3 : Value} {xs ys : List Value} {cs : Array Value} (K2 : Below W.heap.size W V2) (own : W.ownsRow B e size v n xs) (o3 : V3.ownsRow B e size v3 m ys) (g3 : V2.grownBy V3 v.ownBlock) (w3 : ∀ k, v3.ownBlock = some k → v.ownBlock = some k ∨ V2.heap.size ≤ k)
    (hs : W.heap[s]? = some (.cells cs t (0, 0))) (hne : ∀ k, v.ownBlock = some k → k ≠ s) :
    (V3.setCell ⟨s, off, none⟩ v3).ownsRow B e size v3 m ys ∧ (V3.setCell ⟨s, off, none⟩ v3).heap[s]? = some (.cells (cs.set! off v3) t (0, 0)) ∧ Chg W (V3.setCell ⟨s, off, none⟩ v3) (fun b => b = s ∨ v.ownBlock = some b) ∧ ∀ k, v3.ownBlock = some k → k ≠ s := by
  have hsl := heap_lt hs
  have hv3 : ∀ k, v3.ownBlock = some k → k ≠ s := fun k hk => by
    rcases w3 k hk with h | h
    · exact hne k h
    · have := K2.size; omega
  have hb3 : ∀ b, b < W.heap.size → v.ownBlock ≠ some b → V3.heap[b]? = W.heap[b]? := fun b hb hn => (g3.block b (by have := K2.size; omega) (fun e => hn e.symm)).trans (K2.block b hb)
  have hs3 : V3.heap[s]? = some (.cells cs t (0, 0)) := (hb3 s hsl (fun e => hne s e rfl)).trans hs
  refine ⟨own_stay o3 fun k hk => Below.heap_setCell _ _ _ _ (hv3 k hk), heap_setCell_same V3 s off _ t _ hs3, ⟨g3.os.trans K2.os, g3.tape.trans K2.tape, g3.output.trans K2.output, ?_, fun b hb hn => ?_⟩, hv3⟩
  · have := g3.size; have := K2.size
    simp [World.setCell]
    omega
  · rw [Below.heap_setCell _ _ _ _ (fun e => hn (.inl e))]
    exact hb3 b hb (fun e => hn (.inr e))
theorem app_keep {W V2 V3 : World} {v : Value} (K2 : Below W.heap.size W V2) (g3 : V2.grownBy V3 v.ownBlock) : ∀ b, b < W.heap.size → v.ownBlock ≠ some b → V3.heap[b]? = W.heap[b]? := fun b hb hn => (g3.block b (by have := K2.size; omega) (fun e => hn e.symm)).trans (K2.block b hb)
end Go.NR
end

section
namespace Go
def Fwd (P : Program) (c : Code) (Q : Exit → Act → World → Prop) : Nat → Exit → Act → World → Prop
  | 0, .goto _, _, _ => False
  | n + 1, .goto l, a, w => ∃ rest, findLabel c l = some rest ∧ rest.wp P (Fwd P c Q n) a w
  | _, e, a, w => Q e a w
theorem Fwd.other {P : Program} {c : Code} {Q : Exit → Act → World → Prop} {n : Nat} {e : Exit} {a : Act} {w : World} (h : ∀ l, e ≠ .goto l) : Fwd P c Q n e a w ↔ Q e a w := by
  cases e <;> cases n <;> first | exact absurd rfl (h _) | exact Iff.rfl
theorem wp_scope_fwd {P : Program} {a : Act} {w : World} {Q : Exit → Act → World → Prop} {c : Code} (n : Nat) (h : c.wp P (Fwd P c Q n) a w) : (Code.scope c).wp P Q a w := by
  intro b k cs
  have key : ∀ n rest a w, rest.wp P (Fwd P c Q n) a w → ∃ e a' w', Q e a' w' ∧ Arrives P (lone (b.at a (.code rest :: .inScope c :: k)) cs w) b k cs e a' w' := by
    intro n
    induction n with
    | zero =>
      intro rest a w h
      obtain ⟨e, a₁, w₁, hq, harr⟩ := h b (.inScope c :: k) cs
      cases e with
      | normal => exact ⟨.normal, a₁, w₁, hq, Steps.trans harr (.one step_inScope)⟩
      | exit id => exact ⟨.exit id, a₁, w₁, hq, fun k' hk => harr k' (by simp [exitTo, hk])⟩
      | goto l' => exact hq.elim
      | ret => exact ⟨_, a₁, w₁, hq, harr⟩
      | panic ch => exact ⟨_, a₁, w₁, hq, harr⟩
      | outgrown => exact ⟨_, a₁, w₁, hq, harr⟩
    | succ n ih =>
      intro rest a w h
      obtain ⟨e, a₁, w₁, hq, harr⟩ := h b (.inScope c :: k) cs
      cases e with
      | normal => exact ⟨.normal, a₁, w₁, hq, Steps.trans harr (.one step_inScope)⟩
      | exit id => exact ⟨.exit id, a₁, w₁, hq, fun k' hk => harr k' (by simp [exitTo, hk])⟩
      | goto l' =>
        obtain ⟨r2, hf, hw⟩ := hq
        have hg : gotoIn l' (.inScope c :: k) = some (.code r2 :: .inScope c :: k) := by simp [gotoIn, hf]
        obtain ⟨e₂, a₂, w₂, hq₂, harr₂⟩ := ih r2 a₁ w₁ hw
        exact ⟨e₂, a₂, w₂, hq₂, .of_steps (harr _ hg) harr₂⟩
      | ret => exact ⟨_, a₁, w₁, hq, harr⟩
      | panic ch => exact ⟨_, a₁, w₁, hq, harr⟩
      | outgrown => exact ⟨_, a₁, w₁, hq, harr⟩
  obtain ⟨e, a₁, w₁, hq, harr⟩ := key n c a w h
  refine ⟨e, a₁, w₁, hq, ?_⟩
  exact .of_steps (.one step_scope) harr
end Go
end
