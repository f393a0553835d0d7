/-
  The abstract machine: a call, seen from the caller.
-/
import Derived.Test.YtmfegciehdjicaaAbsCall
set_option linter.unusedVariables false
set_option linter.unusedSimpArgs false
namespace Go.AbsM

section
variable {P : Program} {w w' : World} {g : Gh} {may : Nat → Prop} {s s' : St} {a : Act}

theorem HRep.shift1 {t : Store} {S : List Store} {x : AV} {v : Value} (h : HRep P w g S x v) (hx : ∀ l, x ≠ .agg l) (hx' : ∀ l, x ≠ .tup l) : HRep P w g.push (t :: S) (x.shift 1) v := by
  cases x <;> first | exact h | exact absurd rfl (hx _) | exact absurd rfl (hx' _)

theorem Rep.hrep_any {g' : Gh} {S : List Store} {x : AV} {v : Value} (h : Rep P w g.M x v) (hM : g'.M = g.M) : HRep P w g' S x v := HRep.of_rep (by rw [hM]; exact h)

/-- What holds in a callee's stores, of what is a value or a handle from below. -/
def LRep (P : Program) (w : World) (g : Gh) (S : List Store) (y : AV) (v : Value) : Prop := (∃ x, y = x.shift 1 ∧ (∀ l, x ≠ .agg l) ∧ (∀ l, x ≠ .tup l) ∧ HRep P w g S x v) ∨ Rep P w g.M y v
theorem LRep.hrep {S : List Store} {y : AV} {v : Value} (h : LRep P w g S y v) : HRep P w g.push ([] :: S) y v := by
  rcases h with ⟨x, rfl, h1, h2, h3⟩ | h
  · exact h3.shift1 h1 h2
  · exact h.hrep_any rfl
theorem LRep.settles {s' : St} {g' : Gh} (h : Settles P may s a w g s' g') {y : AV} {v : Value} (k : LRep P w g s.stores y v) : LRep P w g' s'.stores y v := by
  rcases k with ⟨x, rfl, h1, h2, h3⟩ | k
  · exact .inl ⟨x, rfl, h1, h2, h.hrep (S := []) h3⟩
  · exact .inr (h.rep k)

theorem lendAll_sound (hs : Sim P may s a w g) {xs ys : List AV} {vs : List Value} (hv : HReps P w g s.stores xs vs) (h : lendAll s xs = some (s', ys)) :
    ∃ g', Settles P may s a w g s' g' ∧ vs.length = ys.length ∧ ∀ (i : Nat) (c : AV) (u : Value), ys[i]? = some c → vs[i]? = some u → LRep P w g' s'.stores c u := by
  induction xs generalizing s' ys vs with
  | nil =>
    simp only [lendAll, Option.some.injEq, Prod.mk.injEq] at h
    obtain ⟨rfl, rfl⟩ := h
    exact ⟨g, .refl hs, hv.1, fun i c u hc => by simp at hc⟩
  | cons x r ih =>
    simp only [lendAll] at h
    split at h
    · cases h
    · rename_i s1 l hl
      obtain ⟨v, us, rfl, hx, hr⟩ := hv.split
      obtain ⟨g1, h1, h2, h3⟩ := ih hr hl
      have fin : ∀ {s2 : St} {y : AV} {g2 : Gh}, Settles P may s1 a w g1 s2 g2 → LRep P w g2 s2.stores y v →
          ∃ g', Settles P may s a w g s2 g' ∧ (v :: us).length = (y :: l).length ∧ ∀ (i : Nat) (c : AV) (u : Value), (y :: l)[i]? = some c → (v :: us)[i]? = some u → LRep P w g' s2.stores c u := by
        intro s2 y g2 k hy
        refine ⟨g2, h1.trans k, by simp [h2], fun i c u hc hu => ?_⟩
        cases i with
        | zero => simp at hc hu; subst hc; subst hu; exact hy
        | succ i => simp at hc hu; exact (h3 i c u hc hu).settles k
      split at h
      · simp only [Option.some.injEq, Prod.mk.injEq] at h
        obtain ⟨rfl, rfl⟩ := h
        exact fin (.refl h1.1) (.inl ⟨.arr _ _ _ _ _ _, rfl, fun l => by simp, fun l => by simp, h1.hrep (S := []) hx⟩)
      · simp only [Option.some.injEq, Prod.mk.injEq] at h
        obtain ⟨rfl, rfl⟩ := h
        exact fin (.refl h1.1) (.inl ⟨.ref _ _ _, rfl, fun l => by simp, fun l => by simp, h1.hrep (S := []) hx⟩)
      · split at h
        · rename_i s2 b hb
          simp only [Option.some.injEq, Prod.mk.injEq] at h
          obtain ⟨rfl, rfl⟩ := h
          obtain ⟨g2, k1, k2⟩ := resolve_sound h1.1 (h1.hrep (S := []) hx) hb
          exact fin k1 (.inr k2)
        · cases h

/-- A call's contract, handed to the caller: arguments by value. -/
theorem shut_call {f : FuncId} {as : List AV} {S' : List Store} {r : AV} {s1 : St} {args : List AV} {vs : List Value} {d : Option Nat} (hs : Sim P may s a w g) (hm : ∀ b, w.heap.size ≤ b → may b) (hv : HReps P w g s.stores args vs)
    (hra : resolveAll s args = some (s1, as)) (hc : CallC P f as [] S' r) (hsh : r.shut = true) :
    Calls P f vs.toArray w fun e w' => ∃ v, e = .returned v ∧ Leaves P may s w g (bindA (if r.hasSl then s1 else s) d r) (a.put d v) w' := by
  obtain ⟨g1, k1, k2, k3⟩ := resolveAll_sound hs hv.1 hv.2 hra
  let g0 : Gh := { M := g1.M, B := fun _ _ => 0, C := fun _ _ => 0 }
  have hi0 : SInv P w g0 (fun b => w.heap.size ≤ b) [] := ⟨(fun i k cs h => by cases h), (fun i k e xs h => by cases h), (fun i k e xs h => by cases h), (fun i k o i' k' o' h => by cases h), k1.1.inv.mlt⟩
  refine (hc _ w g0 vs hi0 (fun b h => h) k2 fun i x v hx hv' => ?_).mono fun e w' ⟨v, g', he, hF, hI, _, hR⟩ => ⟨v, he, ?_⟩
  · exact (k3 i x v hx hv').hrep_any rfl
  · have hx : Ext w w' := ⟨hF.os, hF.tape, hF.output, hF.size, fun b hb => hF.heap b (by omega)⟩
    by_cases hsl : r.hasSl = true
    · rw [if_pos hsl]
      obtain ⟨q1, q2, q3⟩ := k1.1.grow hm hx (M' := g'.M) hF.sub (fun b o h hn => by
        refine ⟨Classical.byContradiction fun hb => hn (hF.new b o hb h), hI.mlt b o h⟩)
      have hR' : ResRep P may w' { g1 with M := g'.M } s1.stores r v := hR.shut hsh (.inr fun b o h => h) fun b hb hno => ⟨hm b hb, hno, fun i k o hg hl he => by
        have := (k1.1.inv.lt hg hl).1
        simp only at he hb
        omega⟩
      obtain ⟨g2, p1, p2, p3⟩ := bindA_sound q1 hR' d
      exact ⟨g2, p1, (k1.2.1.trans q2).trans p2, ((k1.2.2.1.trans q3).mono (by omega)).trans p3⟩
    · have hsl : r.hasSl = false := by simpa using hsl
      rw [if_neg (by simp [hsl])]
      obtain ⟨q1, q2, q3⟩ := hs.grow hm hx (M' := fun b o => g.M b o ∨ (w.heap.size ≤ b ∧ g'.M b o)) (fun b o h => .inl h) (fun b o h hn => by
        rcases h with h | ⟨h, h'⟩
        · exact absurd h hn
        · exact ⟨h, hI.mlt b o h'⟩)
      have hR' : ResRep P may w' { g with M := fun b o => g.M b o ∨ (w.heap.size ≤ b ∧ g'.M b o) } s.stores r v := hR.shut hsh (.inl hsl) fun b hb hno => by
        refine ⟨hm b hb, fun o h => ?_, fun i k o hg hl he => ?_⟩
        · rcases h with h | ⟨_, h⟩
          · have := hs.inv.mlt b o h; omega
          · exact hno o h
        · have := (hs.inv.lt hg hl).1
          simp only at he hb
          omega
      obtain ⟨g2, p1, p2, p3⟩ := bindA_sound q1 hR' d
      exact ⟨g2, p1, q2.trans p2, (q3.mono (by omega)).trans p3⟩

/-- The same, the caller's stores open. -/
theorem open_call {f : FuncId} {as : List AV} {S' : List Store} {t : Store} {r : AV} {s1 : St} {args : List AV} {vs : List Value} {d : Option Nat} (hs : Sim P may s a w g) (hm : ∀ b, w.heap.size ≤ b → may b) (hv : HReps P w g s.stores args vs)
    (hra : lendAll s args = some (s1, as)) (hc : CallC P f as s1.stores (t :: S') r) :
    Calls P f vs.toArray w fun e w' => ∃ v, e = .returned v ∧ Leaves P may s w g (bindA { s1 with stores := t :: S' } d r) (a.put d v) w' := by
  obtain ⟨g1, k1, k2, k3⟩ := lendAll_sound hs hv hra
  refine (hc may w g1 vs k1.1.inv hm k2 fun i x v hx hv' => (k3 i x v hx hv').hrep).mono fun e w' ⟨v, g', he, hF, hI, hK, hR⟩ => ⟨v, he, ?_⟩
  have q1 : Sim P may { s1 with stores := t :: S' } a w' g' := k1.1.keep hF.sub hF.cell hK hI (by simp)
  obtain ⟨g2, p1, p2, p3⟩ := bindA_sound q1 hR d
  exact ⟨g2, p1, (k1.2.1.trans hF).trans p2, ((k1.2.2.1.trans hK).mono (by omega)).trans p3⟩
end
end Go.AbsM
