/-
  The abstract machine and the typed machine over it: deterministic evaluators of translated code over plain values, each proved sound. Part 5 of 5.
-/
import Derived.Test.YtideihioggdmeaaLib4
/-! ## AbtGood -/
/-
  The typed machine: good contracts, the usual ways.
-/
set_option linter.unusedVariables false
set_option linter.unusedSimpArgs false
namespace Go.AbsM

def bodyOf (f : Func) : Code := match f.body with
  | some c => c
  | none => .skip
def hasBody (f : Func) : Bool := f.body.isSome
theorem body_some {f : Func} (h : hasBody f = true) : f.body = some (bodyOf f) := by
  unfold hasBody at h; unfold bodyOf
  cases hb : f.body with
  | none => rw [hb] at h; cases h
  | some c => rfl

def one (k : Nat) (p : Piece) (l : Nat) : Option Piece := match l.beq k with
  | true => some p
  | false => none
theorem one_some {k l : Nat} {p ψ : Piece} (h : one k p l = some ψ) : l = k ∧ ψ = p := by
  unfold one at h
  split at h
  · rename_i hb
    cases h; exact ⟨Nat.eq_of_beq_eq_true hb, rfl⟩
  · cases h
def noneK (_ : Nat) : Option Piece := none

/-- Nothing is asked of loops or places in it. -/
def freeB (blk : Nat → Option Piece) (c : Code) : Bool := (blocksOf c).all (fun p => (blk p.1).isNone) && (scopesOf c).isEmpty
def loopOf : Code → Code
  | .loop c => c
  | _ => .skip
def isLoop : Code → Bool
  | .loop _ => true
  | _ => false
theorem isLoop_eq {c : Code} (h : isLoop c = true) : c = .loop (loopOf c) := by
  cases c <;> first | rfl | cases h

section
variable {P : Program} {E : Env}
theorem lamOk_free {Λ : Known} {c : Code} (h : freeB Λ.blk c = true) : LamOk P Λ c := by
  simp only [freeB, Bool.and_eq_true, List.all_eq_true, List.isEmpty_iff] at h
  refine lamOk_of (fun id c' hm ψ hψ => ?_) fun c' hm => ?_
  · have := h.1 _ hm
    rw [hψ] at this; cases this
  · rw [h.2] at hm; cases hm

def sigB (P : Program) (sig : List AT) : Bool := sig.all fun a => match a with
  | .l e _ => decide (0 < P.cellsOf e)
  | _ => true
theorem sigB_ok {sig : List AT} (h : sigB P sig = true) (e : TypeId) (t : VT) (hm : AT.l e t ∈ sig) : 0 < P.cellsOf e := by
  have := List.all_eq_true.1 h _ hm
  exact of_decide_eq_true this

/-- The checks that each contract asks. -/
structure Fits (P : Program) (f : FuncId) (sig : List AT) (fn : Func) : Prop where
  there : P.funcs[f]? = some fn
  body : hasBody fn = true
  name : (fn.name == "runtime.NumGoroutine") = false
  sig : sigB P sig = true

theorem good_by {L : List TCtr} {blk lab : Nat → Option Piece} {c : TCtr} {fn : Func} (hw : P.follows .mixedOrders = true) (hL : Goods P L) (hf : Fits P c.f c.sig fn) (hLam : LamOk P (knownL L blk lab) (bodyOf fn))
    (run : ∀ d, c.pre d → wpFn P (knownL L blk lab) fn (t1s c.sig d) (fun x => x = c.out d)) : GoodC P c :=
  good_of hw hL hf.there (body_some hf.body) hf.name (sigB_ok hf.sig) hLam run

/-- Straight code. -/
theorem good_plain {L : List TCtr} {c : TCtr} {fn : Func} (hw : P.follows .mixedOrders = true) (hL : Goods P L) (hf : Fits P c.f c.sig fn) (h0 : freeB noneK (bodyOf fn) = true)
    (run : ∀ d, c.pre d → wpFn P (knownL L noneK noneK) fn (t1s c.sig d) (fun x => x = c.out d)) : GoodC P c :=
  good_by hw hL hf (lamOk_free h0) run

def restC (c : Code) (l : Nat) : Code := (findLabel (scC c) l).getD .skip

/-- One place that is jumped to. -/
theorem lam_jump {L : List TCtr} {ι : Type} {n : Nat} {ls ks : List Nat} {mk : ι → TSt} {ψ : ι → Post → Prop} {c : Code} {l : Nat} (lx kx : List Nat) (μ : ι → Nat) (hw : P.follows .mixedOrders = true) (hL : Goods P L)
    (h1 : decide ((scopesOf c).length ≤ 1) = true) (h2 : (blocksOf c).isEmpty = true) (h3 : findLabel (scC c) l = some (restC c l)) (h4 : freeB noneK (restC c l) = true)
    (step : ∀ i Φ, ψ i Φ → wpT P (knownL L noneK (one l (loopP n ls ks mk ψ))) (restC c l) (mk i) (jumpK (knownL L noneK (one l (loopP n ls ks mk ψ))) n ls ks lx kx (scC c) l mk μ ψ (μ i) Φ)) : LamOk P (knownL L noneK (one l (loopP n ls ks mk ψ))) c := by
  refine lamOk_body (by rw [List.isEmpty_iff.1 h2]; rfl) h1 (fun id ψ h => by cases h) fun l' rest ψ' hf hl => ?_
  obtain ⟨rfl, rfl⟩ := one_some hl
  rw [h3] at hf
  simp only [Option.some.injEq] at hf; subst hf
  refine run_jump (lx := lx) (kx := kx) (knownL_ok hw hL _ _) μ (lamOk_free h4) h3 (fun l'' rest' ψ'' hne hf' hl' => ?_) step
  obtain ⟨rfl, _⟩ := one_some hl'
  exact absurd rfl hne

theorem good_jump {L : List TCtr} {c : TCtr} {fn : Func} {ι : Type} {n : Nat} {ls ks : List Nat} {mk : ι → TSt} {ψ : ι → Post → Prop} {l : Nat} (lx kx : List Nat) (μ : ι → Nat) (hw : P.follows .mixedOrders = true) (hL : Goods P L) (hf : Fits P c.f c.sig fn)
    (h1 : decide ((scopesOf (bodyOf fn)).length ≤ 1) = true) (h2 : (blocksOf (bodyOf fn)).isEmpty = true) (h3 : findLabel (scC (bodyOf fn)) l = some (restC (bodyOf fn) l)) (h4 : freeB noneK (restC (bodyOf fn) l) = true)
    (step : ∀ i Φ, ψ i Φ → wpT P (knownL L noneK (one l (loopP n ls ks mk ψ))) (restC (bodyOf fn) l) (mk i) (jumpK (knownL L noneK (one l (loopP n ls ks mk ψ))) n ls ks lx kx (scC (bodyOf fn)) l mk μ ψ (μ i) Φ))
    (run : ∀ d, c.pre d → wpFn P (knownL L noneK (one l (loopP n ls ks mk ψ))) fn (t1s c.sig d) (fun x => x = c.out d)) : GoodC P c :=
  good_by hw hL hf (lam_jump lx kx μ hw hL h1 h2 h3 h4 step) run

/-- One loop (inner blocks are no loops). -/
theorem good_loop {L : List TCtr} {c : TCtr} {fn : Func} {ι : Type} {n : Nat} {ls ks : List Nat} {mk : ι → TSt} {ψ : ι → Post → Prop} {id : Nat} (lx kx : List Nat) (μ : ι → Nat) (hw : P.follows .mixedOrders = true) (hL : Goods P L) (hf : Fits P c.f c.sig fn)
    (h1 : (scopesOf (bodyOf fn)).isEmpty = true) (h2 : nodupB ((blocksOf (bodyOf fn)).map (·.1)) = true) (h3 : isLoop (blkC (bodyOf fn) id) = true) (h4 : freeB (one id (loopP n ls ks mk ψ)) (loopOf (blkC (bodyOf fn) id)) = true)
    (step : ∀ i Φ, ψ i Φ → wpT P (knownL L (one id (loopP n ls ks mk ψ)) noneK) (loopOf (blkC (bodyOf fn) id)) (mk i) (stepK n ls ks lx kx id mk μ ψ (μ i) Φ))
    (run : ∀ d, c.pre d → wpFn P (knownL L (one id (loopP n ls ks mk ψ)) noneK) fn (t1s c.sig d) (fun x => x = c.out d)) : GoodC P c := by
  refine good_by (lab := noneK) hw hL hf (lamOk_body h2 (by rw [List.isEmpty_iff.1 h1]; rfl) (fun id' ψ' h s Φ hs => ?_) (fun l rest ψ' _ hl => by cases hl)) run
  obtain ⟨rfl, rfl⟩ := one_some h
  rw [isLoop_eq h3]
  exact run_loop (knownL_ok hw hL _ _) μ (lamOk_free h4) step s Φ hs

/-! ### With functions that are lent to -/
theorem good_byD {L : List TCtr} {DL : List LCtr} {blk lab : Nat → Option Piece} {c : TCtr} {fn : Func} (hw : P.follows .mixedOrders = true) (hL : Goods P L) (hD : GoodDs P DL) (hf : Fits P c.f c.sig fn) (hLam : LamOk P (knownD L DL blk lab) (bodyOf fn))
    (run : ∀ d, c.pre d → wpFn P (knownD L DL blk lab) fn (t1s c.sig d) (fun x => x = c.out d)) : GoodC P c :=
  good_ofD hw hL hD hf.there (body_some hf.body) hf.name (sigB_ok hf.sig) hLam run


theorem good_plainD {L : List TCtr} {DL : List LCtr} {c : TCtr} {fn : Func} (hw : P.follows .mixedOrders = true) (hL : Goods P L) (hD : GoodDs P DL) (hf : Fits P c.f c.sig fn) (h0 : freeB noneK (bodyOf fn) = true)
    (run : ∀ d, c.pre d → wpFn P (knownD L DL noneK noneK) fn (t1s c.sig d) (fun x => x = c.out d)) : GoodC P c :=
  good_byD hw hL hD hf (lamOk_free h0) run



theorem lam_jumpD {L : List TCtr} {DL : List LCtr} {ι : Type} {n : Nat} {ls ks : List Nat} {mk : ι → TSt} {ψ : ι → Post → Prop} {c : Code} {l : Nat} (lx kx : List Nat) (μ : ι → Nat) (hw : P.follows .mixedOrders = true) (hL : Goods P L) (hD : GoodDs P DL)
    (h1 : decide ((scopesOf c).length ≤ 1) = true) (h2 : (blocksOf c).isEmpty = true) (h3 : findLabel (scC c) l = some (restC c l)) (h4 : freeB noneK (restC c l) = true)
    (step : ∀ i Φ, ψ i Φ → wpT P (knownD L DL noneK (one l (loopP n ls ks mk ψ))) (restC c l) (mk i) (jumpK (knownD L DL noneK (one l (loopP n ls ks mk ψ))) n ls ks lx kx (scC c) l mk μ ψ (μ i) Φ)) : LamOk P (knownD L DL noneK (one l (loopP n ls ks mk ψ))) c := by
  refine lamOk_body (by rw [List.isEmpty_iff.1 h2]; rfl) h1 (fun id ψ h => by cases h) fun l' rest ψ' hf hl => ?_
  obtain ⟨rfl, rfl⟩ := one_some hl
  rw [h3] at hf
  simp only [Option.some.injEq] at hf; subst hf
  refine run_jump (lx := lx) (kx := kx) (knownD_ok hw hL hD _ _) μ (lamOk_free h4) h3 (fun l'' rest' ψ'' hne hf' hl' => ?_) step
  obtain ⟨rfl, _⟩ := one_some hl'
  exact absurd rfl hne

theorem good_jumpD {L : List TCtr} {DL : List LCtr} {c : TCtr} {fn : Func} {ι : Type} {n : Nat} {ls ks : List Nat} {mk : ι → TSt} {ψ : ι → Post → Prop} {l : Nat} (lx kx : List Nat) (μ : ι → Nat) (hw : P.follows .mixedOrders = true) (hL : Goods P L) (hD : GoodDs P DL) (hf : Fits P c.f c.sig fn)
    (h1 : decide ((scopesOf (bodyOf fn)).length ≤ 1) = true) (h2 : (blocksOf (bodyOf fn)).isEmpty = true) (h3 : findLabel (scC (bodyOf fn)) l = some (restC (bodyOf fn) l)) (h4 : freeB noneK (restC (bodyOf fn) l) = true)
    (step : ∀ i Φ, ψ i Φ → wpT P (knownD L DL noneK (one l (loopP n ls ks mk ψ))) (restC (bodyOf fn) l) (mk i) (jumpK (knownD L DL noneK (one l (loopP n ls ks mk ψ))) n ls ks lx kx (scC (bodyOf fn)) l mk μ ψ (μ i) Φ))
    (run : ∀ d, c.pre d → wpFn P (knownD L DL noneK (one l (loopP n ls ks mk ψ))) fn (t1s c.sig d) (fun x => x = c.out d)) : GoodC P c :=
  good_byD hw hL hD hf (lam_jumpD lx kx μ hw hL hD h1 h2 h3 h4 step) run


theorem good_loopD {L : List TCtr} {DL : List LCtr} {c : TCtr} {fn : Func} {ι : Type} {n : Nat} {ls ks : List Nat} {mk : ι → TSt} {ψ : ι → Post → Prop} {id : Nat} (lx kx : List Nat) (μ : ι → Nat) (hw : P.follows .mixedOrders = true) (hL : Goods P L) (hD : GoodDs P DL) (hf : Fits P c.f c.sig fn)
    (h1 : (scopesOf (bodyOf fn)).isEmpty = true) (h2 : nodupB ((blocksOf (bodyOf fn)).map (·.1)) = true) (h3 : isLoop (blkC (bodyOf fn) id) = true) (h4 : freeB (one id (loopP n ls ks mk ψ)) (loopOf (blkC (bodyOf fn) id)) = true)
    (step : ∀ i Φ, ψ i Φ → wpT P (knownD L DL (one id (loopP n ls ks mk ψ)) noneK) (loopOf (blkC (bodyOf fn) id)) (mk i) (stepK n ls ks lx kx id mk μ ψ (μ i) Φ))
    (run : ∀ d, c.pre d → wpFn P (knownD L DL (one id (loopP n ls ks mk ψ)) noneK) fn (t1s c.sig d) (fun x => x = c.out d)) : GoodC P c := by
  refine good_byD (lab := noneK) hw hL hD hf (lamOk_body h2 (by rw [List.isEmpty_iff.1 h1]; rfl) (fun id' ψ' h s Φ hs => ?_) (fun l rest ψ' _ hl => by cases hl)) run
  obtain ⟨rfl, rfl⟩ := one_some h
  rw [isLoop_eq h3]
  exact run_loop (knownD_ok hw hL hD _ _) μ (lamOk_free h4) step s Φ hs

def sigLB (P : Program) (sig : List LT) : Bool := sig.all fun a => match a with
  | .l e _ => decide (0 < P.cellsOf e)
  | _ => true
theorem sigLB_ok {sig : List LT} (h : sigLB P sig = true) (e : TypeId) (t : VT) (hm : LT.l e t ∈ sig) : 0 < P.cellsOf e := by
  have := List.all_eq_true.1 h _ hm
  exact of_decide_eq_true this
structure FitsL (P : Program) (f : FuncId) (sig : List LT) (fn : Func) : Prop where
  there : P.funcs[f]? = some fn
  body : hasBody fn = true
  name : (fn.name == "runtime.NumGoroutine") = false
  sig : sigLB P sig = true
theorem goodL_by {L : List TCtr} {DL : List LCtr} {blk lab : Nat → Option Piece} {c : LCtr} {fn : Func} (hw : P.follows .mixedOrders = true) (hL : Goods P L) (hD : GoodDs P DL) (hf : FitsL P c.f c.sig fn) (hLam : LamOk P (knownD L DL blk lab) (bodyOf fn))
    (run : ∀ d, c.pre d → wpFnL P (knownD L DL blk lab) fn c.sig d (fun z x => z = c.eff d ∧ x = c.out d)) : GoodL P c :=
  goodL_of hw hL hD hf.there (body_some hf.body) hf.name (sigLB_ok hf.sig) hLam run


theorem goodL_plain {L : List TCtr} {DL : List LCtr} {c : LCtr} {fn : Func} (hw : P.follows .mixedOrders = true) (hL : Goods P L) (hD : GoodDs P DL) (hf : FitsL P c.f c.sig fn) (h0 : freeB noneK (bodyOf fn) = true)
    (run : ∀ d, c.pre d → wpFnL P (knownD L DL noneK noneK) fn c.sig d (fun z x => z = c.eff d ∧ x = c.out d)) : GoodL P c :=
  goodL_by hw hL hD hf (lamOk_free h0) run



theorem goodL_jump {L : List TCtr} {DL : List LCtr} {c : LCtr} {fn : Func} {ι : Type} {n : Nat} {ls ks : List Nat} {mk : ι → TSt} {ψ : ι → Post → Prop} {l : Nat} (lx kx : List Nat) (μ : ι → Nat) (hw : P.follows .mixedOrders = true) (hL : Goods P L) (hD : GoodDs P DL) (hf : FitsL P c.f c.sig fn)
    (h1 : decide ((scopesOf (bodyOf fn)).length ≤ 1) = true) (h2 : (blocksOf (bodyOf fn)).isEmpty = true) (h3 : findLabel (scC (bodyOf fn)) l = some (restC (bodyOf fn) l)) (h4 : freeB noneK (restC (bodyOf fn) l) = true)
    (step : ∀ i Φ, ψ i Φ → wpT P (knownD L DL noneK (one l (loopP n ls ks mk ψ))) (restC (bodyOf fn) l) (mk i) (jumpK (knownD L DL noneK (one l (loopP n ls ks mk ψ))) n ls ks lx kx (scC (bodyOf fn)) l mk μ ψ (μ i) Φ))
    (run : ∀ d, c.pre d → wpFnL P (knownD L DL noneK (one l (loopP n ls ks mk ψ))) fn c.sig d (fun z x => z = c.eff d ∧ x = c.out d)) : GoodL P c :=
  goodL_by hw hL hD hf (lam_jumpD lx kx μ hw hL hD h1 h2 h3 h4 step) run


theorem goodL_loop {L : List TCtr} {DL : List LCtr} {c : LCtr} {fn : Func} {ι : Type} {n : Nat} {ls ks : List Nat} {mk : ι → TSt} {ψ : ι → Post → Prop} {id : Nat} (lx kx : List Nat) (μ : ι → Nat) (hw : P.follows .mixedOrders = true) (hL : Goods P L) (hD : GoodDs P DL) (hf : FitsL P c.f c.sig fn)
    (h1 : (scopesOf (bodyOf fn)).isEmpty = true) (h2 : nodupB ((blocksOf (bodyOf fn)).map (·.1)) = true) (h3 : isLoop (blkC (bodyOf fn) id) = true) (h4 : freeB (one id (loopP n ls ks mk ψ)) (loopOf (blkC (bodyOf fn) id)) = true)
    (step : ∀ i Φ, ψ i Φ → wpT P (knownD L DL (one id (loopP n ls ks mk ψ)) noneK) (loopOf (blkC (bodyOf fn) id)) (mk i) (stepK n ls ks lx kx id mk μ ψ (μ i) Φ))
    (run : ∀ d, c.pre d → wpFnL P (knownD L DL (one id (loopP n ls ks mk ψ)) noneK) fn c.sig d (fun z x => z = c.eff d ∧ x = c.out d)) : GoodL P c := by
  refine goodL_by (lab := noneK) hw hL hD hf (lamOk_body h2 (by rw [List.isEmpty_iff.1 h1]; rfl) (fun id' ψ' h s Φ hs => ?_) (fun l rest ψ' _ hl => by cases hl)) run
  obtain ⟨rfl, rfl⟩ := one_some h
  rw [isLoop_eq h3]
  exact run_loop (knownD_ok hw hL hD _ _) μ (lamOk_free h4) step s Φ hs
end
end Go.AbsM
namespace Go.AbsM
section
variable {P : Program} {E : Env}
/-- The loop with this id, in a body. -/
theorem run_loopB {ι : Type} {Λ : Known} (hΛ : KnownOk P E Λ) {n : Nat} {ls ks lx kx : List Nat} {id : Nat} {mk : ι → TSt} {ψ : ι → Post → Prop} {c : Code} (μ : ι → Nat) (h3 : isLoop (blkC c id) = true) (hL : LamOk P Λ (loopOf (blkC c id)))
    (step : ∀ i Φ, ψ i Φ → wpT P Λ (loopOf (blkC c id)) (mk i) (stepK n ls ks lx kx id mk μ ψ (μ i) Φ)) (s : TSt) (Φ : Post) (h : loopP n ls ks mk ψ s Φ) : Run P (.code (.block id (blkC c id))) s Φ := by
  rw [isLoop_eq h3]
  exact run_loop hΛ μ hL step s Φ h
end
end Go.AbsM

/-! ## AbtLaw -/
/-
  The typed machine: closed functions by the abstract machine; laws.
-/
set_option linter.unusedVariables false
set_option linter.unusedSimpArgs false
namespace Go.AbsM
open Go.RowKit

def phi (P : Program) (f : FuncId) : Option Func :=
  match P.funcs[f]? with
  | some fn => if fn.name == "runtime.NumGoroutine" then none else some fn
  | none => none
def envN (P : Program) (lend : FuncId → Nat → Bool) : Env := { Φ := phi P, Γ := fun _ _ => none, Δ := fun _ _ _ => none, lend := lend, solo := soloK, ok := fun ops => drawM soloK ops }
theorem envN_ok (P : Program) (lend : FuncId → Nat → Bool) (hw : P.follows .mixedOrders = true) : EnvOk P (envN P lend) where
  fn := fun f fn h => by
    have h : phi P f = some fn := h
    unfold phi at h
    split at h
    · rename_i g hg
      split at h
      · cases h
      · rename_i hn
        simp only [Option.some.injEq] at h; subst h
        exact ⟨hg, by simpa using hn⟩
    · cases h
  ga := fun f args r h => by cases h
  de := fun f args S S2 r h => by cases h
  wide := hw
  draw := fun ops h rec s s1 t hr => draw_okM (E := envN P lend) h rec s s1 t hr

/-- A law: it answers true. -/
def lawC (f : FuncId) (sig : List AT) (pre : dens sig → Prop) : TCtr := .det f sig pre (fun _ => TV.bool true) fun _ => rfl
/-- A closed function that answers true. -/
def trueC (f : FuncId) : TCtr := lawC f [] fun _ => True

section
variable {P : Program}
theorem good_closed {f : FuncId} {fn : Func} {lend : FuncId → Nat → Bool} {n : Nat} (hw : P.follows .mixedOrders = true) (hf : Fits P f [] fn) (h : ∀ S, callA P (envN P lend) (Go.AbsM.runN P (envN P lend) n) f [] S = some (S, .x (.bool true))) : GoodC P (trueC f) where
  there := ⟨fn, bodyOf fn, hf.there, body_some hf.body, hf.name⟩
  cells := fun e t hm => by cases hm
  call := fun d _ S => (callA_sound (envN_ok P lend hw) (runN_ok (envN_ok P lend hw) n) (h S)).2

theorem GoodC.law {f : FuncId} {sig : List AT} {pre : dens sig → Prop} (h : GoodC P (lawC f sig pre)) {d : dens sig} (hp : pre d) {w : World} {vs : List Value} (hl : vs.length = (t1s sig d).length)
    (hargs : ∀ (i : Nat) (x : AV) (v : Value), ((t1s sig d).map (T1.emb []))[i]? = some x → vs[i]? = some v → Arg P w x v) : Calls P f vs.toArray w fun e w' => e = .returned (.bool true) ∧ Below w.heap.size w w' :=
  law_calls (h.call d hp []) (by rw [List.length_map]; exact hl) hargs

/-- Integers that came in. -/
def inKind (k : IntKind) (n : Int) : Prop := k.min ≤ n ∧ n ≤ k.max
theorem inKind_of {k : IntKind} {n : Int} (h : (Lit.int k n).wf = true) : inKind k n := by
  simpa [Lit.wf, inKind] using h

/-- Each argument stands for its value. -/
def ArgsOk (P : Program) (w : World) : List AV → List Value → Prop
  | [], [] => True
  | x :: xs, v :: vs => Arg P w x v ∧ ArgsOk P w xs vs
  | _, _ => False
theorem ArgsOk.get {w : World} : ∀ {xs : List AV} {vs : List Value}, ArgsOk P w xs vs → vs.length = xs.length ∧ ∀ (i : Nat) (x : AV) (v : Value), xs[i]? = some x → vs[i]? = some v → Arg P w x v
  | [], [], _ => ⟨rfl, fun i x v h => by simp at h⟩
  | x :: xs, v :: vs, h => by
    obtain ⟨q1, q2⟩ := ArgsOk.get h.2
    refine ⟨by simp [q1], fun i y u hy hu => ?_⟩
    cases i with
    | zero => simp at hy hu; subst hy; subst hu; exact h.1
    | succ i => simp at hy hu; exact q2 i y u hy hu
  | [], _ :: _, h => h.elim
  | _ :: _, [], h => h.elim

theorem GoodC.law2 {f : FuncId} {sig : List AT} {pre : dens sig → Prop} (h : GoodC P (lawC f sig pre)) (d : dens sig) (hp : pre d) {w : World} (vs : List Value) (hargs : ArgsOk P w ((t1s sig d).map (T1.emb [])) vs) :
    Calls P f vs.toArray w fun e w' => e = .returned (.bool true) ∧ Below w.heap.size w w' := by
  obtain ⟨q1, q2⟩ := hargs.get
  exact h.law hp (by rw [q1, List.length_map]) q2

/-- A slice of integers that came in. -/
theorem arg_row {w : World} {k : IntKind} {e : TypeId} (he : P.cellsOf e = 1) {a : Option Addr} {len cap : Nat} {zs : List Int}
    (h : (a = none ∧ len = 0 ∧ cap = 0 ∧ zs = []) ∨ ∃ x, a = some x ∧ len ≤ cap ∧ cap ≤ maxLen ∧ zs.length = cap ∧ (∀ i, i < zs.length → w.cell? (x.add i) = some (.int k (zs.getD i 0))) ∧ ∀ n ∈ zs, (Lit.int k n).wf = true) :
    Arg P w (.sl e ((zs.take len).map (VT.int k).emb)) (.slice a len cap) ∧ (zs.take len).length = len ∧ len ≤ maxLen ∧ ∀ n, n ∈ zs.take len → inKind k n := by
  have hrep : ∀ {A : Option Addr} {c : Nat}, c ≤ maxLen → Arg P w (.sl e []) (.slice A 0 c) := by
    intro A c hc
    exact .sl (us := []) rfl rfl (by simp) hc (by omega) (fun i x u h => by simp at h) (fun u h => by simp at h) (fun h => absurd rfl h)
  rcases h with ⟨rfl, rfl, rfl, rfl⟩ | ⟨x, rfl, hl, hm, hz, hcell, hwz⟩
  · exact ⟨hrep (by omega), rfl, by omega, fun n h => by simp at h⟩
  · have hlen : (zs.take len).length = len := by simp; omega
    refine ⟨?_, hlen, by omega, fun n hn => inKind_of (hwz n (List.mem_of_mem_take hn))⟩
    by_cases h0 : zs = []
    · subst h0
      have : len = 0 := by simp at hz; omega
      subst this
      exact hrep hm
    · have hpos : 0 < zs.length := by
        cases zs with
        | nil => exact absurd rfl h0
        | cons _ _ => simp
      obtain ⟨b, off, spot⟩ := x
      have hc := hcell 0 hpos
      have hspot : spot = none := by simpa [Addr.add] using World.cell?_spot hc
      subst hspot
      refine Arg.ints he hl hm hz fun i hi => ?_
      have hadd : Addr.add ⟨b, off, none⟩ i = ⟨b, off + i, none⟩ := by
        simp [Addr.add]
      rw [← hadd]; exact hcell i hi

theorem in_i64 {n : Int} (h : inKind .i64 n) : -9223372036854775808 ≤ n ∧ n < 9223372036854775808 := by
  simp [inKind, IntKind.min, IntKind.max, IntKind.bits, IntKind.signed] at h; omega
theorem in_u64 {n : Int} (h : inKind .u64 n) : 0 ≤ n ∧ n < 18446744073709551616 := by
  simp [inKind, IntKind.min, IntKind.max, IntKind.bits, IntKind.signed] at h; omega
theorem in_u32 {n : Int} (h : inKind .u32 n) : 0 ≤ n ∧ n < 4294967296 := by
  simp [inKind, IntKind.min, IntKind.max, IntKind.bits, IntKind.signed] at h; omega
theorem in_u16 {n : Int} (h : inKind .u16 n) : 0 ≤ n ∧ n < 65536 := by
  simp [inKind, IntKind.min, IntKind.max, IntKind.bits, IntKind.signed] at h; omega
theorem in_u8 {n : Int} (h : inKind .u8 n) : 0 ≤ n ∧ n < 256 := by
  simp [inKind, IntKind.min, IntKind.max, IntKind.bits, IntKind.signed] at h; omega
end
end Go.AbsM

/-! ## AbtBlk -/
/-
  The typed machine: a run that is to be shown, shut against being unfolded by the way.
-/
namespace Go.AbsM
@[irreducible] def Blk (p : Prop) : Prop := p
theorem Blk.un {p : Prop} (h : Blk p) : p := by unfold Blk at h; exact h
theorem Blk.by {p : Prop} (h : p) : Blk p := by unfold Blk; exact h
theorem Blk.nf {p q : Prop} (e : p = q) (h : q) : Blk p := Blk.by (e.mpr h)

/-- A closed call with a plain answer, whoever calls. -/
theorem CallC.closed {P : Program} {f : FuncId} {v0 : Value} (hc : CallC P f [] [] [] (.x v0)) (S : List Store) : CallC P f [] S S (.x v0) := by
  cases S with
  | nil => exact hc
  | cons t S' =>
    intro may w g vs hi hm hl ha
    let g0 : Gh := { M := g.M, B := fun _ _ => 0, C := fun _ _ => 0 }
    have hi0 : SInv P w g0 (fun b => w.heap.size ≤ b) [] := ⟨(fun i k cs h => by cases h), (fun i k e xs h => by cases h), (fun i k e xs h => by cases h), (fun i k o i' k' o' h => by cases h), hi.mlt⟩
    refine (hc _ w g0 vs hi0 (fun b h => h) hl (fun i x v hx => by simp at hx)).mono fun e w' ⟨v, g', he, hF, hI, _, hR⟩ => ?_
    have hx : Ext w w' := ⟨hF.os, hF.tape, hF.output, hF.size, fun b hb => hF.heap b (by omega)⟩
    have hs : Sim P may { slots := [], stores := t :: S' } ⟨#[], []⟩ w g := ⟨hi, rfl, (fun t x h => by simp at h), rfl, by simp⟩
    obtain ⟨q1, q2, q3⟩ := hs.grow hm hx (M' := g.M) (fun b o h => h) (fun b o h hn => absurd h hn)
    refine ⟨v, g, he, q2, q1.inv, q3, 0, ?_⟩
    obtain ⟨b, hb⟩ := hR
    have hr : Rep P w' g'.M (.x v0) v := hb
    cases hr with
    | x h => exact Rep.x h
/-- A closed function that answers true, run in an empty place. -/
theorem good_closed0 {P : Program} {f : FuncId} {fn : Func} {lend : FuncId → Nat → Bool} {n : Nat} (hw : P.follows .mixedOrders = true) (hf : Fits P f [] fn) (h : callA P (envN P lend) (Go.AbsM.runN P (envN P lend) n) f [] [] = some ([], .x (.bool true))) : GoodC P (trueC f) where
  there := ⟨fn, bodyOf fn, hf.there, body_some hf.body, hf.name⟩
  cells := fun e t hm => by cases hm
  call := fun d _ S => CallC.closed (callA_sound (envN_ok P lend hw) (runN_ok (envN_ok P lend hw) n) h).2 S
end Go.AbsM
