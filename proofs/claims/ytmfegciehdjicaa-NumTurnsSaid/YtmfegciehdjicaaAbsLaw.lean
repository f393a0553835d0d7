/-
  The abstract machine: from a closed run to a law's row: the call returns what the machine says, and below the caller's heap nothing turned.
-/
import Derived.Test.YtmfegciehdjicaaAbsDep
import Derived.Below
set_option linter.unusedVariables false
set_option linter.unusedSimpArgs false
namespace Go.AbsM
open Go.RowKit

section
variable {P : Program} {w : World}

/-- All that is there when a call begins: read only. -/
def allGh (w : World) : Gh := { M := fun b _ => b < w.heap.size, B := fun _ _ => 0, C := fun _ _ => 0 }

/-- An argument of a law. -/
def Arg (P : Program) (w : World) (x : AV) (v : Value) : Prop := Rep P w (allGh w).M x v

theorem law_calls {f : FuncId} {args : List AV} {S' : List Store} {v0 : Value} {vs : List Value} (hc : CallC P f args [] S' (.x v0)) (hl : vs.length = args.length) (hargs : ∀ (i : Nat) (x : AV) (v : Value), args[i]? = some x → vs[i]? = some v → Arg P w x v) :
    Calls P f vs.toArray w fun e w' => e = .returned v0 ∧ Below w.heap.size w w' := by
  have hi0 : SInv P w (allGh w) (fun b => w.heap.size ≤ b) [] := ⟨(fun i k cs h => by cases h), (fun i k e xs h => by cases h), (fun i k e xs h => by cases h), (fun i k o i' k' o' h => by cases h), fun b o h => h⟩
  refine (hc _ w (allGh w) vs hi0 (fun b h => h) hl fun i x v hx hv => (hargs i x v hx hv).hrep_any rfl).mono fun e w' ⟨v, g', he, hF, hI, _, hR⟩ => ?_
  obtain ⟨b, hR⟩ := hR
  have : v = v0 := by
    have h : Rep P w' g'.M (.x v0) v := hR
    cases h; rfl
  subst this
  exact ⟨he, hF.os, hF.tape, hF.output, hF.size, fun k hk => hF.heap k (by omega)⟩

theorem Arg.int {k : IntKind} {n : Int} : Arg P w (.x (.int k n)) (.int k n) := .x rfl
theorem Arg.bool {b : Bool} : Arg P w (.x (.bool b)) (.bool b) := .x rfl
theorem Arg.nils : Arg P w .nils (.slice none 0 0) := Rep.nils
theorem Arg.str {l : List UInt8} : Arg P w (.str l) (.string ⟨l.toArray⟩) := Rep.str

/-- A slice of integers that came in: its elements. -/
theorem Arg.ints {k : IntKind} {e : TypeId} {b off : Nat} {len cap : Nat} {zs : List Int} (he : P.cellsOf e = 1) (hl : len ≤ cap) (hm : cap ≤ maxLen) (hz : zs.length = cap) (hcell : ∀ i, i < zs.length → w.cell? ⟨b, off + i, none⟩ = some (.int k (zs.getD i 0))) :
    Arg P w (.sl e ((zs.take len).map (AV.int k))) (.slice (some ⟨b, off, none⟩) len cap) := by
  have hlen : (zs.take len).length = len := by simp; omega
  refine .sl (us := (zs.take len).map (Value.int k)) (by simp; omega) (by simp) (by simp; omega) hm (by omega) (fun i x u hx hu => ?_) (fun u hu => ?_) fun hne => ⟨b, off, rfl, fun j cv hj => ?_⟩
  · simp only [List.getElem?_map, Option.map_eq_some_iff] at hx hu
    obtain ⟨n, h1, rfl⟩ := hx
    obtain ⟨m, h2, rfl⟩ := hu
    rw [h1] at h2
    simp only [Option.some.injEq] at h2; subst h2
    exact .x rfl
  · obtain ⟨n, _, rfl⟩ := List.mem_map.1 hu
    rw [he]; rfl
  · rw [flat_ints, List.getElem?_map, Option.map_eq_some_iff] at hj
    obtain ⟨n, h1, rfl⟩ := hj
    have hjl : j < zs.length := by
      have := (List.getElem?_eq_some_iff.1 h1).1
      simp at this; omega
    have hg : zs.getD j 0 = n := by
      rw [List.getElem?_take] at h1
      split at h1
      · rw [List.getD_eq_getElem?_getD, h1]; rfl
      · cases h1
    have hc := hcell j hjl
    rw [hg] at hc
    exact ⟨hc, World.block_lt_of_cell? w _ hc⟩
end
end Go.AbsM
