/-
  The typed machine: good contracts, the usual ways.
-/
import Derived.Test.YtmfegciehdjicaaAbtW
set_option linter.unusedVariables false
set_option linter.unusedSimpArgs false
namespace Go.AbsM

def bodyOf (f : Func) : Code := match f.body with
  | some c => c
  | none => .skip
def hasBody (f : Func) : Bool := f.body.isSome
theorem body_some {f : Func} (h : hasBody f = true) : f.body = some (bodyOf f) := by
  unfold hasBody at h; unfold bodyOf
  cases hb : f.body with
  | none => rw [hb] at h; cases h
  | some c => rfl

def one (k : Nat) (p : Piece) (l : Nat) : Option Piece := match l.beq k with
  | true => some p
  | false => none
theorem one_some {k l : Nat} {p ψ : Piece} (h : one k p l = some ψ) : l = k ∧ ψ = p := by
  unfold one at h
  split at h
  · rename_i hb
    cases h; exact ⟨Nat.eq_of_beq_eq_true hb, rfl⟩
  · cases h
def noneK (_ : Nat) : Option Piece := none

/-- Nothing is asked of loops or places in it. -/
def freeB (blk : Nat → Option Piece) (c : Code) : Bool := (blocksOf c).all (fun p => (blk p.1).isNone) && (scopesOf c).isEmpty
def loopOf : Code → Code
  | .loop c => c
  | _ => .skip
def isLoop : Code → Bool
  | .loop _ => true
  | _ => false
theorem isLoop_eq {c : Code} (h : isLoop c = true) : c = .loop (loopOf c) := by
  cases c <;> first | rfl | cases h

section
variable {P : Program} {E : Env}
theorem lamOk_free {Λ : Known} {c : Code} (h : freeB Λ.blk c = true) : LamOk P Λ c := by
  simp only [freeB, Bool.and_eq_true, List.all_eq_true, List.isEmpty_iff] at h
  refine lamOk_of (fun id c' hm ψ hψ => ?_) fun c' hm => ?_
  · have := h.1 _ hm
    rw [hψ] at this; cases this
  · rw [h.2] at hm; cases hm

def sigB (P : Program) (sig : List AT) : Bool := sig.all fun a => match a with
  | .l e _ => decide (0 < P.cellsOf e)
  | _ => true
theorem sigB_ok {sig : List AT} (h : sigB P sig = true) (e : TypeId) (t : VT) (hm : AT.l e t ∈ sig) : 0 < P.cellsOf e := by
  have := List.all_eq_true.1 h _ hm
  exact of_decide_eq_true this

/-- The checks that each contract asks. -/
structure Fits (P : Program) (f : FuncId) (sig : List AT) (fn : Func) : Prop where
  there : P.funcs[f]? = some fn
  body : hasBody fn = true
  name : (fn.name == "runtime.NumGoroutine") = false
  sig : sigB P sig = true

theorem good_by {L : List TCtr} {blk lab : Nat → Option Piece} {c : TCtr} {fn : Func} (hw : P.follows .mixedOrders = true) (hL : Goods P L) (hf : Fits P c.f c.sig fn) (hLam : LamOk P (knownL L blk lab) (bodyOf fn))
    (run : ∀ d, c.pre d → wpFn P (knownL L blk lab) fn (t1s c.sig d) (fun x => x = c.out d)) : GoodC P c :=
  good_of hw hL hf.there (body_some hf.body) hf.name (sigB_ok hf.sig) hLam run

/-- Straight code. -/
theorem good_plain {L : List TCtr} {c : TCtr} {fn : Func} (hw : P.follows .mixedOrders = true) (hL : Goods P L) (hf : Fits P c.f c.sig fn) (h0 : freeB noneK (bodyOf fn) = true)
    (run : ∀ d, c.pre d → wpFn P (knownL L noneK noneK) fn (t1s c.sig d) (fun x => x = c.out d)) : GoodC P c :=
  good_by hw hL hf (lamOk_free h0) run

def restC (c : Code) (l : Nat) : Code := (findLabel (scC c) l).getD .skip

/-- One place that is jumped to. -/
theorem lam_jump {L : List TCtr} {ι : Type} {n : Nat} {ls ks : List Nat} {mk : ι → TSt} {ψ : ι → Post → Prop} {c : Code} {l : Nat} (lx kx : List Nat) (μ : ι → Nat) (hw : P.follows .mixedOrders = true) (hL : Goods P L)
    (h1 : decide ((scopesOf c).length ≤ 1) = true) (h2 : (blocksOf c).isEmpty = true) (h3 : findLabel (scC c) l = some (restC c l)) (h4 : freeB noneK (restC c l) = true)
    (step : ∀ i Φ, ψ i Φ → wpT P (knownL L noneK (one l (loopP n ls ks mk ψ))) (restC c l) (mk i) (jumpK (knownL L noneK (one l (loopP n ls ks mk ψ))) n ls ks lx kx (scC c) l mk μ ψ (μ i) Φ)) : LamOk P (knownL L noneK (one l (loopP n ls ks mk ψ))) c := by
  refine lamOk_body (by rw [List.isEmpty_iff.1 h2]; rfl) h1 (fun id ψ h => by cases h) fun l' rest ψ' hf hl => ?_
  obtain ⟨rfl, rfl⟩ := one_some hl
  rw [h3] at hf
  simp only [Option.some.injEq] at hf; subst hf
  refine run_jump (lx := lx) (kx := kx) (knownL_ok hw hL _ _) μ (lamOk_free h4) h3 (fun l'' rest' ψ'' hne hf' hl' => ?_) step
  obtain ⟨rfl, _⟩ := one_some hl'
  exact absurd rfl hne

theorem good_jump {L : List TCtr} {c : TCtr} {fn : Func} {ι : Type} {n : Nat} {ls ks : List Nat} {mk : ι → TSt} {ψ : ι → Post → Prop} {l : Nat} (lx kx : List Nat) (μ : ι → Nat) (hw : P.follows .mixedOrders = true) (hL : Goods P L) (hf : Fits P c.f c.sig fn)
    (h1 : decide ((scopesOf (bodyOf fn)).length ≤ 1) = true) (h2 : (blocksOf (bodyOf fn)).isEmpty = true) (h3 : findLabel (scC (bodyOf fn)) l = some (restC (bodyOf fn) l)) (h4 : freeB noneK (restC (bodyOf fn) l) = true)
    (step : ∀ i Φ, ψ i Φ → wpT P (knownL L noneK (one l (loopP n ls ks mk ψ))) (restC (bodyOf fn) l) (mk i) (jumpK (knownL L noneK (one l (loopP n ls ks mk ψ))) n ls ks lx kx (scC (bodyOf fn)) l mk μ ψ (μ i) Φ))
    (run : ∀ d, c.pre d → wpFn P (knownL L noneK (one l (loopP n ls ks mk ψ))) fn (t1s c.sig d) (fun x => x = c.out d)) : GoodC P c :=
  good_by hw hL hf (lam_jump lx kx μ hw hL h1 h2 h3 h4 step) run

/-- One loop (inner blocks are no loops). -/
theorem good_loop {L : List TCtr} {c : TCtr} {fn : Func} {ι : Type} {n : Nat} {ls ks : List Nat} {mk : ι → TSt} {ψ : ι → Post → Prop} {id : Nat} (lx kx : List Nat) (μ : ι → Nat) (hw : P.follows .mixedOrders = true) (hL : Goods P L) (hf : Fits P c.f c.sig fn)
    (h1 : (scopesOf (bodyOf fn)).isEmpty = true) (h2 : nodupB ((blocksOf (bodyOf fn)).map (·.1)) = true) (h3 : isLoop (blkC (bodyOf fn) id) = true) (h4 : freeB (one id (loopP n ls ks mk ψ)) (loopOf (blkC (bodyOf fn) id)) = true)
    (step : ∀ i Φ, ψ i Φ → wpT P (knownL L (one id (loopP n ls ks mk ψ)) noneK) (loopOf (blkC (bodyOf fn) id)) (mk i) (stepK n ls ks lx kx id mk μ ψ (μ i) Φ))
    (run : ∀ d, c.pre d → wpFn P (knownL L (one id (loopP n ls ks mk ψ)) noneK) fn (t1s c.sig d) (fun x => x = c.out d)) : GoodC P c := by
  refine good_by (lab := noneK) hw hL hf (lamOk_body h2 (by rw [List.isEmpty_iff.1 h1]; rfl) (fun id' ψ' h s Φ hs => ?_) (fun l rest ψ' _ hl => by cases hl)) run
  obtain ⟨rfl, rfl⟩ := one_some h
  rw [isLoop_eq h3]
  exact run_loop (knownL_ok hw hL _ _) μ (lamOk_free h4) step s Φ hs
end
end Go.AbsM
