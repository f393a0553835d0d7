/-
  The abstract machine and the typed machine over it: deterministic evaluators of translated code over plain values, each proved sound. Part 5 of 5.
-/
import Derived.Test.YtbfeilpjkcmfhaaLib4
/-! ## AbtGood -/
/-
  The typed machine: good contracts, the usual ways.
-/
set_option linter.unusedVariables false
set_option linter.unusedSimpArgs false
namespace Go.AbsM

def bodyOf (f : Func) : Code := match f.body with
  | some c => c
  | none => .skip
def hasBody (f : Func) : Bool := f.body.isSome
theorem body_some {f : Func} (h : hasBody f = true) : f.body = some (bodyOf f) := by
  unfold hasBody at h; unfold bodyOf
  cases hb : f.body with
  | none => rw [hb] at h; cases h
  | some c => rfl

def one (k : Nat) (p : Piece) (l : Nat) : Option Piece := match l.beq k with
  | true => some p
  | false => none
theorem one_some {k l : Nat} {p ψ : Piece} (h : one k p l = some ψ) : l = k ∧ ψ = p := by
  unfold one at h
  split at h
  · rename_i hb
    cases h; exact ⟨Nat.eq_of_beq_eq_true hb, rfl⟩
  · cases h
def noneK (_ : Nat) : Option Piece := none

/-- Nothing is asked of loops or places in it. -/
def freeB (blk : Nat → Option Piece) (c : Code) : Bool := (blocksOf c).all (fun p => (blk p.1).isNone) && (scopesOf c).isEmpty
def loopOf : Code → Code
  | .loop c => c
  | _ => .skip
def isLoop : Code → Bool
  | .loop _ => true
  | _ => false
theorem isLoop_eq {c : Code} (h : isLoop c = true) : c = .loop (loopOf c) := by
  cases c <;> first | rfl | cases h

section
variable {P : Program} {E : Env}
theorem lamOk_free {Λ : Known} {c : Code} (h : freeB Λ.blk c = true) : LamOk P Λ c := by
  simp only [freeB, Bool.and_eq_true, List.all_eq_true, List.isEmpty_iff] at h
  refine lamOk_of (fun id c' hm ψ hψ => ?_) fun c' hm => ?_
  · have := h.1 _ hm
    rw [hψ] at this; cases this
  · rw [h.2] at hm; cases hm

def sigB (P : Program) (sig : List AT) : Bool := sig.all fun a => match a with
  | .l e _ => decide (0 < P.cellsOf e)
  | _ => true
theorem sigB_ok {sig : List AT} (h : sigB P sig = true) (e : TypeId) (t : VT) (hm : AT.l e t ∈ sig) : 0 < P.cellsOf e := by
  have := List.all_eq_true.1 h _ hm
  exact of_decide_eq_true this

/-- The checks that each contract asks. -/
structure Fits (P : Program) (f : FuncId) (sig : List AT) (fn : Func) : Prop where
  there : P.funcs[f]? = some fn
  body : hasBody fn = true
  name : (fn.name == "runtime.NumGoroutine") = false
  sig : sigB P sig = true

theorem good_by {L : List TCtr} {blk lab : Nat → Option Piece} {c : TCtr} {fn : Func} (hw : P.follows .mixedOrders = true) (hL : Goods P L) (hf : Fits P c.f c.sig fn) (hLam : LamOk P (knownL L blk lab) (bodyOf fn))
    (run : ∀ d, c.pre d → wpFn P (knownL L blk lab) fn (t1s c.sig d) (fun x => x = c.out d)) : GoodC P c :=
  good_of hw hL hf.there (body_some hf.body) hf.name (sigB_ok hf.sig) hLam run

/-- Straight code. -/
theorem good_plain {L : List TCtr} {c : TCtr} {fn : Func} (hw : P.follows .mixedOrders = true) (hL : Goods P L) (hf : Fits P c.f c.sig fn) (h0 : freeB noneK (bodyOf fn) = true)
    (run : ∀ d, c.pre d → wpFn P (knownL L noneK noneK) fn (t1s c.sig d) (fun x => x = c.out d)) : GoodC P c :=
  good_by hw hL hf (lamOk_free h0) run

def restC (c : Code) (l : Nat) : Code := (findLabel (scC c) l).getD .skip

/-- One place that is jumped to. -/
theorem lam_jump {L : List TCtr} {ι : Type} {n : Nat} {ls ks : List Nat} {mk : ι → TSt} {ψ : ι → Post → Prop} {c : Code} {l : Nat} (lx kx : List Nat) (μ : ι → Nat) (hw : P.follows .mixedOrders = true) (hL : Goods P L)
    (h1 : decide ((scopesOf c).length ≤ 1) = true) (h2 : (blocksOf c).isEmpty = true) (h3 : findLabel (scC c) l = some (restC c l)) (h4 : freeB noneK (restC c l) = true)
    (step : ∀ i Φ, ψ i Φ → wpT P (knownL L noneK (one l (loopP n ls ks mk ψ))) (restC c l) (mk i) (jumpK (knownL L noneK (one l (loopP n ls ks mk ψ))) n ls ks lx kx (scC c) l mk μ ψ (μ i) Φ)) : LamOk P (knownL L noneK (one l (loopP n ls ks mk ψ))) c := by
  refine lamOk_body (by rw [List.isEmpty_iff.1 h2]; rfl) h1 (fun id ψ h => by cases h) fun l' rest ψ' hf hl => ?_
  obtain ⟨rfl, rfl⟩ := one_some hl
  rw [h3] at hf
  simp only [Option.some.injEq] at hf; subst hf
  refine run_jump (lx := lx) (kx := kx) (knownL_ok hw hL _ _) μ (lamOk_free h4) h3 (fun l'' rest' ψ'' hne hf' hl' => ?_) step
  obtain ⟨rfl, _⟩ := one_some hl'
  exact absurd rfl hne

theorem good_jump {L : List TCtr} {c : TCtr} {fn : Func} {ι : Type} {n : Nat} {ls ks : List Nat} {mk : ι → TSt} {ψ : ι → Post → Prop} {l : Nat} (lx kx : List Nat) (μ : ι → Nat) (hw : P.follows .mixedOrders = true) (hL : Goods P L) (hf : Fits P c.f c.sig fn)
    (h1 : decide ((scopesOf (bodyOf fn)).length ≤ 1) = true) (h2 : (blocksOf (bodyOf fn)).isEmpty = true) (h3 : findLabel (scC (bodyOf fn)) l = some (restC (bodyOf fn) l)) (h4 : freeB noneK (restC (bodyOf fn) l) = true)
    (step : ∀ i Φ, ψ i Φ → wpT P (knownL L noneK (one l (loopP n ls ks mk ψ))) (restC (bodyOf fn) l) (mk i) (jumpK (knownL L noneK (one l (loopP n ls ks mk ψ))) n ls ks lx kx (scC (bodyOf fn)) l mk μ ψ (μ i) Φ))
    (run : ∀ d, c.pre d → wpFn P (knownL L noneK (one l (loopP n ls ks mk ψ))) fn (t1s c.sig d) (fun x => x = c.out d)) : GoodC P c :=
  good_by hw hL hf (lam_jump lx kx μ hw hL h1 h2 h3 h4 step) run

/-- One loop (inner blocks are no loops). -/
theorem good_loop {L : List TCtr} {c : TCtr} {fn : Func} {ι : Type} {n : Nat} {ls ks : List Nat} {mk : ι → TSt} {ψ : ι → Post → Prop} {id : Nat} (lx kx : List Nat) (μ : ι → Nat) (hw : P.follows .mixedOrders = true) (hL : Goods P L) (hf : Fits P c.f c.sig fn)
    (h1 : (scopesOf (bodyOf fn)).isEmpty = true) (h2 : nodupB ((blocksOf (bodyOf fn)).map (·.1)) = true) (h3 : isLoop (blkC (bodyOf fn) id) = true) (h4 : freeB (one id (loopP n ls ks mk ψ)) (loopOf (blkC (bodyOf fn) id)) = true)
    (step : ∀ i Φ, ψ i Φ → wpT P (knownL L (one id (loopP n ls ks mk ψ)) noneK) (loopOf (blkC (bodyOf fn) id)) (mk i) (stepK n ls ks lx kx id mk μ ψ (μ i) Φ))
    (run : ∀ d, c.pre d → wpFn P (knownL L (one id (loopP n ls ks mk ψ)) noneK) fn (t1s c.sig d) (fun x => x = c.out d)) : GoodC P c := by
  refine good_by (lab := noneK) hw hL hf (lamOk_body h2 (by rw [List.isEmpty_iff.1 h1]; rfl) (fun id' ψ' h s Φ hs => ?_) (fun l rest ψ' _ hl => by cases hl)) run
  obtain ⟨rfl, rfl⟩ := one_some h
  rw [isLoop_eq h3]
  exact run_loop (knownL_ok hw hL _ _) μ (lamOk_free h4) step s Φ hs

/-! ### With functions that are lent to -/
theorem good_byD {L : List TCtr} {DL : List LCtr} {blk lab : Nat → Option Piece} {c : TCtr} {fn : Func} (hw : P.follows .mixedOrders = true) (hL : Goods P L) (hD : GoodDs P DL) (hf : Fits P c.f c.sig fn) (hLam : LamOk P (knownD L DL blk lab) (bodyOf fn))
    (run : ∀ d, c.pre d → wpFn P (knownD L DL blk lab) fn (t1s c.sig d) (fun x => x = c.out d)) : GoodC P c :=
  good_ofD hw hL hD hf.there (body_some hf.body) hf.name (sigB_ok hf.sig) hLam run


theorem good_plainD {L : List TCtr} {DL : List LCtr} {c : TCtr} {fn : Func} (hw : P.follows .mixedOrders = true) (hL : Goods P L) (hD : GoodDs P DL) (hf : Fits P c.f c.sig fn) (h0 : freeB noneK (bodyOf fn) = true)
    (run : ∀ d, c.pre d → wpFn P (knownD L DL noneK noneK) fn (t1s c.sig d) (fun x => x = c.out d)) : GoodC P c :=
  good_byD hw hL hD hf (lamOk_free h0) run



theorem lam_jumpD {L : List TCtr} {DL : List LCtr} {ι : Type} {n : Nat} {ls ks : List Nat} {mk : ι → TSt} {ψ : ι → Post → Prop} {c : Code} {l : Nat} (lx kx : List Nat) (μ : ι → Nat) (hw : P.follows .mixedOrders = true) (hL : Goods P L) (hD : GoodDs P DL)
    (h1 : decide ((scopesOf c).length ≤ 1) = true) (h2 : (blocksOf c).isEmpty = true) (h3 : findLabel (scC c) l = some (restC c l)) (h4 : freeB noneK (restC c l) = true)
    (step : ∀ i Φ, ψ i Φ → wpT P (knownD L DL noneK (one l (loopP n ls ks mk ψ))) (restC c l) (mk i) (jumpK (knownD L DL noneK (one l (loopP n ls ks mk ψ))) n ls ks lx kx (scC c) l mk μ ψ (μ i) Φ)) : LamOk P (knownD L DL noneK (one l (loopP n ls ks mk ψ))) c := by
  refine lamOk_body (by rw [List.isEmpty_iff.1 h2]; rfl) h1 (fun id ψ h => by cases h) fun l' rest ψ' hf hl => ?_
  obtain ⟨rfl, rfl⟩ := one_some hl
  rw [h3] at hf
  simp only [Option.some.injEq] at hf; subst hf
  refine run_jump (lx := lx) (kx := kx) (knownD_ok hw hL hD _ _) μ (lamOk_free h4) h3 (fun l'' rest' ψ'' hne hf' hl' => ?_) step
  obtain ⟨rfl, _⟩ := one_some hl'
  exact absurd rfl hne

theorem good_jumpD {L : List TCtr} {DL : List LCtr} {c : TCtr} {fn : Func} {ι : Type} {n : Nat} {ls ks : List Nat} {mk : ι → TSt} {ψ : ι → Post → Prop} {l : Nat} (lx kx : List Nat) (μ : ι → Nat) (hw : P.follows .mixedOrders = true) (hL : Goods P L) (hD : GoodDs P DL) (hf : Fits P c.f c.sig fn)
    (h1 : decide ((scopesOf (bodyOf fn)).length ≤ 1) = true) (h2 : (blocksOf (bodyOf fn)).isEmpty = true) (h3 : findLabel (scC (bodyOf fn)) l = some (restC (bodyOf fn) l)) (h4 : freeB noneK (restC (bodyOf fn) l) = true)
    (step : ∀ i Φ, ψ i Φ → wpT P (knownD L DL noneK (one l (loopP n ls ks mk ψ))) (restC (bodyOf fn) l) (mk i) (jumpK (knownD L DL noneK (one l (loopP n ls ks mk ψ))) n ls ks lx kx (scC (bodyOf fn)) l mk μ ψ (μ i) Φ))
    (run : ∀ d, c.pre d → wpFn P (knownD L DL noneK (one l (loopP n ls ks mk ψ))) fn (t1s c.sig d) (fun x => x = c.out d)) : GoodC P c :=
  good_byD hw hL hD hf (lam_jumpD lx kx μ hw hL hD h1 h2 h3 h4 step) run


theorem good_loopD {L : List TCtr} {DL : List LCtr} {c : TCtr} {fn : Func} {ι : Type} {n : Nat} {ls ks : List Nat} {mk : ι → TSt} {ψ : ι → Post → Prop} {id : Nat} (lx kx : List Nat) (μ : ι → Nat) (hw : P.follows .mixedOrders = true) (hL : Goods P L) (hD : GoodDs P DL) (hf : Fits P c.f c.sig fn)
    (h1 : (scopesOf (bodyOf fn)).isEmpty = true) (h2 : nodupB ((blocksOf (bodyOf fn)).map (·.1)) = true) (h3 : isLoop (blkC (bodyOf fn) id) = true) (h4 : freeB (one id (loopP n ls ks mk ψ)) (loopOf (blkC (bodyOf fn) id)) = true)
    (step : ∀ i Φ, ψ i Φ → wpT P (knownD L DL (one id (loopP n ls ks mk ψ)) noneK) (loopOf (blkC (bodyOf fn) id)) (mk i) (stepK n ls ks lx kx id mk μ ψ (μ i) Φ))
    (run : ∀ d, c.pre d → wpFn P (knownD L DL (one id (loopP n ls ks mk ψ)) noneK) fn (t1s c.sig d) (fun x => x = c.out d)) : GoodC P c := by
  refine good_byD (lab := noneK) hw hL hD hf (lamOk_body h2 (by rw [List.isEmpty_iff.1 h1]; rfl) (fun id' ψ' h s Φ hs => ?_) (fun l rest ψ' _ hl => by cases hl)) run
  obtain ⟨rfl, rfl⟩ := one_some h
  rw [isLoop_eq h3]
  exact run_loop (knownD_ok hw hL hD _ _) μ (lamOk_free h4) step s Φ hs

def sigLB (P : Program) (sig : List LT) : Bool := sig.all fun a => match a with
  | .l e _ => decide (0 < P.cellsOf e)
  | _ => true
theorem sigLB_ok {sig : List LT} (h : sigLB P sig = true) (e : TypeId) (t : VT) (hm : LT.l e t ∈ sig) : 0 < P.cellsOf e := by
  have := List.all_eq_true.1 h _ hm
  exact of_decide_eq_true this
structure FitsL (P : Program) (f : FuncId) (sig : List LT) (fn : Func) : Prop where
  there : P.funcs[f]? = some fn
  body : hasBody fn = true
  name : (fn.name == "runtime.NumGoroutine") = false
  sig : sigLB P sig = true
theorem goodL_by {L : List TCtr} {DL : List LCtr} {blk lab : Nat → Option Piece} {c : LCtr} {fn : Func} (hw : P.follows .mixedOrders = true) (hL : Goods P L) (hD : GoodDs P DL) (hf : FitsL P c.f c.sig fn) (hLam : LamOk P (knownD L DL blk lab) (bodyOf fn))
    (run : ∀ d, c.pre d → wpFnL P (knownD L DL blk lab) fn c.sig d (fun z x => z = c.eff d ∧ x = c.out d)) : GoodL P c :=
  goodL_of hw hL hD hf.there (body_some hf.body) hf.name (sigLB_ok hf.sig) hLam run


theorem goodL_plain {L : List TCtr} {DL : List LCtr} {c : LCtr} {fn : Func} (hw : P.follows .mixedOrders = true) (hL : Goods P L) (hD : GoodDs P DL) (hf : FitsL P c.f c.sig fn) (h0 : freeB noneK (bodyOf fn) = true)
    (run : ∀ d, c.pre d → wpFnL P (knownD L DL noneK noneK) fn c.sig d (fun z x => z = c.eff d ∧ x = c.out d)) : GoodL P c :=
  goodL_by hw hL hD hf (lamOk_free h0) run



theorem goodL_jump {L : List TCtr} {DL : List LCtr} {c : LCtr} {fn : Func} {ι : Type} {n : Nat} {ls ks : List Nat} {mk : ι → TSt} {ψ : ι → Post → Prop} {l : Nat} (lx kx : List Nat) (μ : ι → Nat) (hw : P.follows .mixedOrders = true) (hL : Goods P L) (hD : GoodDs P DL) (hf : FitsL P c.f c.sig fn)
    (h1 : decide ((scopesOf (bodyOf fn)).length ≤ 1) = true) (h2 : (blocksOf (bodyOf fn)).isEmpty = true) (h3 : findLabel (scC (bodyOf fn)) l = some (restC (bodyOf fn) l)) (h4 : freeB noneK (restC (bodyOf fn) l) = true)
    (step : ∀ i Φ, ψ i Φ → wpT P (knownD L DL noneK (one l (loopP n ls ks mk ψ))) (restC (bodyOf fn) l) (mk i) (jumpK (knownD L DL noneK (one l (loopP n ls ks mk ψ))) n ls ks lx kx (scC (bodyOf fn)) l mk μ ψ (μ i) Φ))
    (run : ∀ d, c.pre d → wpFnL P (knownD L DL noneK (one l (loopP n ls ks mk ψ))) fn c.sig d (fun z x => z = c.eff d ∧ x = c.out d)) : GoodL P c :=
  goodL_by hw hL hD hf (lam_jumpD lx kx μ hw hL hD h1 h2 h3 h4 step) run


theorem goodL_loop {L : List TCtr} {DL : List LCtr} {c : LCtr} {fn : Func} {ι : Type} {n : Nat} {ls ks : List Nat} {mk : ι → TSt} {ψ : ι → Post → Prop} {id : Nat} (lx kx : List Nat) (μ : ι → Nat) (hw : P.follows .mixedOrders = true) (hL : Goods P L) (hD : GoodDs P DL) (hf : FitsL P c.f c.sig fn)
    (h1 : (scopesOf (bodyOf fn)).isEmpty = true) (h2 : nodupB ((blocksOf (bodyOf fn)).map (·.1)) = true) (h3 : isLoop (blkC (bodyOf fn) id) = true) (h4 : freeB (one id (loopP n ls ks mk ψ)) (loopOf (blkC (bodyOf fn) id)) = true)
    (step : ∀ i Φ, ψ i Φ → wpT P (knownD L DL (one id (loopP n ls ks mk ψ)) noneK) (loopOf (blkC (bodyOf fn) id)) (mk i) (stepK n ls ks lx kx id mk μ ψ (μ i) Φ))
    (run : ∀ d, c.pre d → wpFnL P (knownD L DL (one id (loopP n ls ks mk ψ)) noneK) fn c.sig d (fun z x => z = c.eff d ∧ x = c.out d)) : GoodL P c := by
  refine goodL_by (lab := noneK) hw hL hD hf (lamOk_body h2 (by rw [List.isEmpty_iff.1 h1]; rfl) (fun id' ψ' h s Φ hs => ?_) (fun l rest ψ' _ hl => by cases hl)) run
  obtain ⟨rfl, rfl⟩ := one_some h
  rw [isLoop_eq h3]
  exact run_loop (knownD_ok hw hL hD _ _) μ (lamOk_free h4) step s Φ hs
end
end Go.AbsM
namespace Go.AbsM
section
variable {P : Program} {E : Env}
/-- The loop with this id, in a body. -/
theorem run_loopB {ι : Type} {Λ : Known} (hΛ : KnownOk P E Λ) {n : Nat} {ls ks lx kx : List Nat} {id : Nat} {mk : ι → TSt} {ψ : ι → Post → Prop} {c : Code} (μ : ι → Nat) (h3 : isLoop (blkC c id) = true) (hL : LamOk P Λ (loopOf (blkC c id)))
    (step : ∀ i Φ, ψ i Φ → wpT P Λ (loopOf (blkC c id)) (mk i) (stepK n ls ks lx kx id mk μ ψ (μ i) Φ)) (s : TSt) (Φ : Post) (h : loopP n ls ks mk ψ s Φ) : Run P (.code (.block id (blkC c id))) s Φ := by
  rw [isLoop_eq h3]
  exact run_loop hΛ μ hL step s Φ h
end
end Go.AbsM

/-! ## AbtLaw -/
/-
  The typed machine: closed functions by the abstract machine; laws.
-/
set_option linter.unusedVariables false
set_option linter.unusedSimpArgs false
namespace Go.AbsM
open Go.RowKit

def phi (P : Program) (f : FuncId) : Option Func :=
  match P.funcs[f]? with
  | some fn => if fn.name == "runtime.NumGoroutine" then none else some fn
  | none => none
def envN (P : Program) (lend : FuncId → Nat → Bool) : Env := { Φ := phi P, Γ := fun _ _ => none, Δ := fun _ _ _ => none, lend := lend, solo := soloK, ok := fun ops => drawM soloK ops }
theorem envN_ok (P : Program) (lend : FuncId → Nat → Bool) (hw : P.follows .mixedOrders = true) : EnvOk P (envN P lend) where
  fn := fun f fn h => by
    have h : phi P f = some fn := h
    unfold phi at h
    split at h
    · rename_i g hg
      split at h
      · cases h
      · rename_i hn
        simp only [Option.some.injEq] at h; subst h
        exact ⟨hg, by simpa using hn⟩
    · cases h
  ga := fun f args r h => by cases h
  de := fun f args S S2 r h => by cases h
  wide := hw
  draw := fun ops h rec s s1 t hr => draw_okM (E := envN P lend) h rec s s1 t hr

/-- A law: it answers true. -/
def lawC (f : FuncId) (sig : List AT) (pre : dens sig → Prop) : TCtr := .det f sig pre (fun _ => TV.bool true) fun _ => rfl
/-- A closed function that answers true. -/
def trueC (f : FuncId) : TCtr := lawC f [] fun _ => True

section
variable {P : Program}
theorem good_closed {f : FuncId} {fn : Func} {lend : FuncId → Nat → Bool} {n : Nat} (hw : P.follows .mixedOrders = true) (hf : Fits P f [] fn) (h : ∀ S, callA P (envN P lend) (Go.AbsM.runN P (envN P lend) n) f [] S = some (S, .x (.bool true))) : GoodC P (trueC f) where
  there := ⟨fn, bodyOf fn, hf.there, body_some hf.body, hf.name⟩
  cells := fun e t hm => by cases hm
  call := fun d _ S => (callA_sound (envN_ok P lend hw) (runN_ok (envN_ok P lend hw) n) (h S)).2

theorem GoodC.law {f : FuncId} {sig : List AT} {pre : dens sig → Prop} (h : GoodC P (lawC f sig pre)) {d : dens sig} (hp : pre d) {w : World} {vs : List Value} (hl : vs.length = (t1s sig d).length)
    (hargs : ∀ (i : Nat) (x : AV) (v : Value), ((t1s sig d).map (T1.emb []))[i]? = some x → vs[i]? = some v → Arg P w x v) : Calls P f vs.toArray w fun e w' => e = .returned (.bool true) ∧ Below w.heap.size w w' :=
  law_calls (h.call d hp []) (by rw [List.length_map]; exact hl) hargs

/-- Integers that came in. -/
def inKind (k : IntKind) (n : Int) : Prop := k.min ≤ n ∧ n ≤ k.max
theorem inKind_of {k : IntKind} {n : Int} (h : (Lit.int k n).wf = true) : inKind k n := by
  simpa [Lit.wf, inKind] using h

/-- Each argument stands for its value. -/
def ArgsOk (P : Program) (w : World) : List AV → List Value → Prop
  | [], [] => True
  | x :: xs, v :: vs => Arg P w x v ∧ ArgsOk P w xs vs
  | _, _ => False
theorem ArgsOk.get {w : World} : ∀ {xs : List AV} {vs : List Value}, ArgsOk P w xs vs → vs.length = xs.length ∧ ∀ (i : Nat) (x : AV) (v : Value), xs[i]? = some x → vs[i]? = some v → Arg P w x v
  | [], [], _ => ⟨rfl, fun i x v h => by simp at h⟩
  | x :: xs, v :: vs, h => by
    obtain ⟨q1, q2⟩ := ArgsOk.get h.2
    refine ⟨by simp [q1], fun i y u hy hu => ?_⟩
    cases i with
    | zero => simp at hy hu; subst hy; subst hu; exact h.1
    | succ i => simp at hy hu; exact q2 i y u hy hu
  | [], _ :: _, h => h.elim
  | _ :: _, [], h => h.elim

theorem GoodC.law2 {f : FuncId} {sig : List AT} {pre : dens sig → Prop} (h : GoodC P (lawC f sig pre)) (d : dens sig) (hp : pre d) {w : World} (vs : List Value) (hargs : ArgsOk P w ((t1s sig d).map (T1.emb [])) vs) :
    Calls P f vs.toArray w fun e w' => e = .returned (.bool true) ∧ Below w.heap.size w w' := by
  obtain ⟨q1, q2⟩ := hargs.get
  exact h.law hp (by rw [q1, List.length_map]) q2

/-- A slice of integers that came in. -/
theorem arg_row {w : World} {k : IntKind} {e : TypeId} (he : P.cellsOf e = 1) {a : Option Addr} {len cap : Nat} {zs : List Int}
    (h : (a = none ∧ len = 0 ∧ cap = 0 ∧ zs = []) ∨ ∃ x, a = some x ∧ len ≤ cap ∧ cap ≤ maxLen ∧ zs.length = cap ∧ (∀ i, i < zs.length → w.cell? (x.add i) = some (.int k (zs.getD i 0))) ∧ ∀ n ∈ zs, (Lit.int k n).wf = true) :
    Arg P w (.sl e ((zs.take len).map (VT.int k).emb)) (.slice a len cap) ∧ (zs.take len).length = len ∧ len ≤ maxLen ∧ ∀ n, n ∈ zs.take len → inKind k n := by
  have hrep : ∀ {A : Option Addr} {c : Nat}, c ≤ maxLen → Arg P w (.sl e []) (.slice A 0 c) := by
    intro A c hc
    exact .sl (us := []) rfl rfl (by simp) hc (by omega) (fun i x u h => by simp at h) (fun u h => by simp at h) (fun h => absurd rfl h)
  rcases h with ⟨rfl, rfl, rfl, rfl⟩ | ⟨x, rfl, hl, hm, hz, hcell, hwz⟩
  · exact ⟨hrep (by omega), rfl, by omega, fun n h => by simp at h⟩
  · have hlen : (zs.take len).length = len := by simp; omega
    refine ⟨?_, hlen, by omega, fun n hn => inKind_of (hwz n (List.mem_of_mem_take hn))⟩
    by_cases h0 : zs = []
    · subst h0
      have : len = 0 := by simp at hz; omega
      subst this
      exact hrep hm
    · have hpos : 0 < zs.length := by
        cases zs with
        | nil => exact absurd rfl h0
        | cons _ _ => simp
      obtain ⟨b, off, spot⟩ := x
      have hc := hcell 0 hpos
      have hspot : spot = none := by simpa [Addr.add] using World.cell?_spot hc
      subst hspot
      refine Arg.ints he hl hm hz fun i hi => ?_
      have hadd : Addr.add ⟨b, off, none⟩ i = ⟨b, off + i, none⟩ := by
        simp [Addr.add]
      rw [← hadd]; exact hcell i hi

theorem in_i64 {n : Int} (h : inKind .i64 n) : -9223372036854775808 ≤ n ∧ n < 9223372036854775808 := by
  simp [inKind, IntKind.min, IntKind.max, IntKind.bits, IntKind.signed] at h; omega
theorem in_u64 {n : Int} (h : inKind .u64 n) : 0 ≤ n ∧ n < 18446744073709551616 := by
  simp [inKind, IntKind.min, IntKind.max, IntKind.bits, IntKind.signed] at h; omega
theorem in_u32 {n : Int} (h : inKind .u32 n) : 0 ≤ n ∧ n < 4294967296 := by
  simp [inKind, IntKind.min, IntKind.max, IntKind.bits, IntKind.signed] at h; omega
theorem in_u16 {n : Int} (h : inKind .u16 n) : 0 ≤ n ∧ n < 65536 := by
  simp [inKind, IntKind.min, IntKind.max, IntKind.bits, IntKind.signed] at h; omega
theorem in_u8 {n : Int} (h : inKind .u8 n) : 0 ≤ n ∧ n < 256 := by
  simp [inKind, IntKind.min, IntKind.max, IntKind.bits, IntKind.signed] at h; omega
end
end Go.AbsM

/-! ## AbtBlk -/
/-
  The typed machine: a run that is to be shown, shut against being unfolded by the way.
-/
namespace Go.AbsM
@[irreducible] def Blk (p : Prop) : Prop := p
theorem Blk.un {p : Prop} (h : Blk p) : p := by unfold Blk at h; exact h
theorem Blk.by {p : Prop} (h : p) : Blk p := by unfold Blk; exact h
theorem Blk.nf {p q : Prop} (e : p = q) (h : q) : Blk p := Blk.by (e.mpr h)

/-- A closed call with a plain answer, whoever calls. -/
theorem CallC.closed {P : Program} {f : FuncId} {v0 : Value} (hc : CallC P f [] [] [] (.x v0)) (S : List Store) : CallC P f [] S S (.x v0) := by
  cases S with
  | nil => exact hc
  | cons t S' =>
    intro may w g vs hi hm hl ha
    let g0 : Gh := { M := g.M, B := fun _ _ => 0, C := fun _ _ => 0 }
    have hi0 : SInv P w g0 (fun b => w.heap.size ≤ b) [] := ⟨(fun i k cs h => by cases h), (fun i k e xs h => by cases h), (fun i k e xs h => by cases h), (fun i k o i' k' o' h => by cases h), hi.mlt⟩
    refine (hc _ w g0 vs hi0 (fun b h => h) hl (fun i x v hx => by simp at hx)).mono fun e w' ⟨v, g', he, hF, hI, _, hR⟩ => ?_
    have hx : Ext w w' := ⟨hF.os, hF.tape, hF.output, hF.size, fun b hb => hF.heap b (by omega)⟩
    have hs : Sim P may { slots := [], stores := t :: S' } ⟨#[], []⟩ w g := ⟨hi, rfl, (fun t x h => by simp at h), rfl, by simp⟩
    obtain ⟨q1, q2, q3⟩ := hs.grow hm hx (M' := g.M) (fun b o h => h) (fun b o h hn => absurd h hn)
    refine ⟨v, g, he, q2, q1.inv, q3, 0, ?_⟩
    obtain ⟨b, hb⟩ := hR
    have hr : Rep P w' g'.M (.x v0) v := hb
    cases hr with
    | x h => exact Rep.x h
/-- A closed function that answers true, run in an empty place. -/
theorem good_closed0 {P : Program} {f : FuncId} {fn : Func} {lend : FuncId → Nat → Bool} {n : Nat} (hw : P.follows .mixedOrders = true) (hf : Fits P f [] fn) (h : callA P (envN P lend) (Go.AbsM.runN P (envN P lend) n) f [] [] = some ([], .x (.bool true))) : GoodC P (trueC f) where
  there := ⟨fn, bodyOf fn, hf.there, body_some hf.body, hf.name⟩
  cells := fun e t hm => by cases hm
  call := fun d _ S => CallC.closed (callA_sound (envN_ok P lend hw) (runN_ok (envN_ok P lend hw) n) h).2 S
end Go.AbsM

/-! ## AbsFork -/
/-
  The abstract machine: a copy of a slice of which it isn't known whether it is nil.
-/
set_option linter.unusedVariables false
set_option linter.unusedSimpArgs false
namespace Go.AbsM

section
variable {P : Program} {w w' : World} {g : Gh} {may : Nat → Prop} {s s' : St} {a : Act} {E : Env}

/-- What a body leaves to its caller. -/
def endA (P : Program) (fn : Func) (s : St) : Option (List Store × AV) :=
  match resultAll P s fn.results.toList with
  | some l => match settle s l with
    | some (s1, l1) => match outAll s1 [] l1 with
      | some vs => match s1.stores with
        | [] => none
        | _ :: r => some (r, oneOf vs)
      | none => none
    | none => none
  | none => none

theorem endA_fin {fn : Func} {args : List AV} {S S' : List Store} {s1 : St} {r : AV} {e : AExit} {x : Exit} {a' : Act} {R : Ending → World → Prop} (he : e = .ret ∨ e = .normal) (h : endA P fn s1 = some (S', r)) (hx : x = e.toExit) (hL : Leaves P may (enterA fn args S) w g.push s1 a' w')
    (hR : ∀ v g', Fr may w g.M w' g'.M → SInv P w' g' may S' → Kp 0 S g S' g' → ResRep P may w' g' S' r v → R (.returned v) w') : bodyPost P fn R x a' w' := by
  unfold endA at h
  split at h
  · rename_i l hl
    split at h
    · rename_i s2 l1 hse
      split at h
      · rename_i ys ho
        split at h
        · cases h
        · rename_i t R' hst
          simp only [Option.some.injEq, Prod.mk.injEq] at h
          obtain ⟨rfl, rfl⟩ := h
          obtain ⟨g1, h1, h2, h3⟩ := hL
          have fin : a'.defers = [] ∧ ∃ v, (results fn a'.tmps).run P w' = .ok v w' ∧ R (.returned v) w' := by
            refine ⟨h1.defers, ?_⟩
            obtain ⟨us, hrun, hus⟩ := resultAll_sound (f := (fun | .tmp t => pure (a'.tmps.getD t undef) | .cell c t => do loadVar t (← asAddr (a'.tmps.getD c undef)) : ResultVar → Sem Value)) h1 (fun _ => rfl) (fun _ _ => rfl) hl
            obtain ⟨g2, k1, hus1⟩ := settle_sound h1 hus hse
            obtain ⟨hul, ks, o1, o2, o3⟩ := outAll_sound hst k1.1.inv hus1 ho
            refine ⟨_, results_run (fun _ => rfl) (fun _ _ => rfl) hrun, hR _ g2.pop (h2.trans k1.2.1) ?_ ?_ ?_⟩
            · have := k1.1.inv; rw [hst] at this; exact this.pop
            · have := h3.trans (k1.2.2.1.mono (by omega)); rw [hst] at this; exact this.pop
            · have all : OReps P may w' g2.pop R' ys us := ⟨hul, fun i => g2.B 0 (ks i), o1, fun i j e xs e' xs' hi' hj' heq => by
                obtain ⟨_, o, ho1, ho2⟩ := o2 i _ _ hi'
                obtain ⟨_, p, hp1, hp2⟩ := o2 j _ _ hj'
                exact o3 i j _ _ _ _ hi' hj' (k1.1.inv.inj 0 (ks i) o 0 (ks j) p ho1 hp1 ho2 hp2 heq).2⟩
              match ys, us, hul, all with
              | [], [], _, all => exact ⟨[], rfl, all⟩
              | [y], [u], _, all =>
                obtain ⟨_, bl, q1, _⟩ := all
                have := q1 0 y u rfl rfl
                show ResRep P may w' g2.pop R' y u
                unfold ResRep
                split
                · exact this.elim
                · exact ⟨_, this⟩
              | y :: y' :: ys, u :: u' :: us, _, all => exact ⟨_, rfl, all⟩
          rcases he with rfl | rfl
          · subst hx; exact fin
          · subst hx; exact fin
      · cases h
    · cases h
  · cases h

theorem sl_of_nils {e : TypeId} {S : List Store} {v : Value} (he : 0 < P.cellsOf e) (h : ResRep P may w g S .nils v) : ResRep P may w g S (.sl e []) v := by
  obtain ⟨b, hb⟩ := h
  have hb : Rep P w g.M .nils v := hb
  cases hb
  have : Rep P w g.M (.sl e []) (.slice none 0 0) := .sl (us := []) rfl rfl (by simp) (by simp [maxLen]) he (fun i x u h => by simp at h) (fun u h => by simp at h) (fun h => absurd rfl h)
  exact ⟨0, this⟩
theorem sl_of_own {e : TypeId} {S : List Store} {v : Value} (hob : Nat.beq e objE = false) (h : ResRep P may w g S (.own e []) v) : ResRep P may w g S (.sl e []) v := by
  obtain ⟨b, h1, h2, h3, h4⟩ := h
  rcases h4 with ⟨_, he, cur, us, cap, c, rfl, q2, q3, _⟩ | ⟨q1, q2, hv, _⟩
  · have : Rep P w g.M (.sl e []) (.slice (some ⟨b, 0, none⟩) 0 c) := .sl (us := []) rfl rfl (by simp) q3 he (fun i x u h => by simp at h) (fun u h => by simp at h) (fun h => absurd rfl h)
    exact ⟨0, this⟩
  · rw [hob] at q1; cases q1

/-- **slices.Clone of no elements**: none come back, nil or not. -/
theorem clone_empty {f : FuncId} {fn : Func} {n : Nat} {e T e' : TypeId} {R0 C K : Code} {i1 : Nat} {o1 o2 : Oper} {x : Operand} {ty : TypeId} {sl0 sl1 : List AV} {d : Nat} {s3 s4 s5 : List Store → St} (hE : EnvOk P E)
    (hf : P.funcs[f]? = some fn) (hb : fn.body = some (.seq R0 (.seq (.seq (.region i1 #[o1, o2] false) C) K))) (he : 0 < P.cellsOf e) (hob : Nat.beq e objE = false)
    (h0 : ∀ S, runN P E n (.code R0) (enterA fn [.sl e []] S) = some (.normal, ⟨sl0, [] :: S⟩))
    (g1 : o1.guard = none) (g2 : o2.guard = none) (h1 : ∀ S, opA P ⟨sl0, [] :: S⟩ o1 = some ⟨sl1, [] :: S⟩)
    (ho2 : o2.op = .binOp .eql T x (.const (.slice none 0 0)) ty) (hd : o2.dst = some d) (hT : P.underlying T = some (.slice e')) (hx : ∀ S, evalO ⟨sl1, [] :: S⟩ x = some (.sl e []))
    (ht : ∀ S, runN P E n (.code C) ⟨sl1.set d (.x (.bool true)), [] :: S⟩ = some (.ret, s3 S)) (ht' : ∀ S, endA P fn (s3 S) = some (S, .nils))
    (hn : ∀ S, runN P E n (.code C) ⟨sl1.set d (.x (.bool false)), [] :: S⟩ = some (.normal, s4 S)) (hn' : ∀ S, runN P E n (.code K) (s4 S) = some (.ret, s5 S)) (hn'' : ∀ S, endA P fn (s5 S) = some (S, .own e [])) (S : List Store) :
    CallC P f [.sl e []] S S (.sl e []) := by
  intro may w g vs hi hm hlen hargs
  have hrec := runN_ok hE n
  refine calls_of_wp hf hb (wp_seq (wp_mono (hrec.code (h0 S) may _ w _ (enter_sim hi hlen hargs) hm) fun x0 a0 w0 ⟨hx0, hL0⟩ => ?_))
  subst hx0
  obtain ⟨k0, s0, F0, K0⟩ := hL0
  have hm0 : ∀ b, w0.heap.size ≤ b → may b := fun b hb => hm b (Nat.le_trans F0.size hb)
  refine wp_seq (wp_seq (wp_region ?_))
  show wpOps P #[o1, o2] _ [0, 1] a0 w0
  have w1 : ∀ a : Act, Region.wanted o1 (yielded #[o1, o2] a.tmps) = true := fun a => by unfold Region.wanted; rw [g1]
  have w2 : ∀ a : Act, Region.wanted o2 (yielded #[o1, o2] a.tmps) = true := fun a => by unfold Region.wanted; rw [g2]
  simp only [wpOps]
  show (if Region.wanted o1 _ = true then _ else _)
  rw [if_pos (w1 a0)]
  refine .inl (opA_wp (h1 S) may a0 w0 k0 s0 hm0 _ _ fun a1 w1' hL1 => ?_)
  obtain ⟨k1, s1, F1, K1⟩ := hL1
  have hm1 : ∀ b, w1'.heap.size ≤ b → may b := fun b hb => hm0 b (Nat.le_trans F1.size hb)
  show (if Region.wanted o2 _ = true then _ else _)
  rw [if_pos (w2 a1)]
  have hxr := s1.evalO (hx S)
  obtain ⟨A, cc, us, hv, _⟩ := hxr.inv_sl
  have hv : a1.eval x = .slice A 0 cc := hv
  have hrun : (execOp a1.eval o2).run P w1' = .ok (.value (.bool A.isNone)) w1' := by
    have q1 : (eqGuard .eql T x (.const (.slice none 0 0)) (a1.eval x) (.slice none 0 0)).run P w1' = .ok () w1' := eqGuard_plain (fun a b => ⟨by rw [hv]; simp, by rw [hv]; simp⟩)
    have q2 : (binOp .eql T (a1.eval x) (.slice none 0 0)).run P w1' = .ok (.bool A.isNone) w1' := by
      rw [hv]
      have := equalIn_nil_slice (P := P) (w := w1') 9999 hT A 0 cc
      simp [binOp, Op.equal, Op.maxDepth, this]
    have q0 : a1.eval (.const (.slice none 0 0)) = .slice none 0 0 := rfl
    simp [execOp, ho2, q0, q1, q2]
  have key : ∀ (next : Act → World → Prop) (Q : Exit → Act → World → Prop), next (a1.put o2.dst (.bool A.isNone)) w1' → o2.wp P a1 w1' next Q := fun next Q h => by unfold Oper.wp; rw [hrun]; exact h
  refine .inl (key _ _ ?_)
  have s2 : Sim P may ((St.mk sl1 ([] :: S)).put (some d) (.x (.bool A.isNone))) (a1.put (some d) (.bool A.isNone)) w1' k1 := s1.put (HRep.mk_bool _) (some d)
  show Exit.then _ _ .normal (a1.put o2.dst _) w1'
  rw [hd]
  have F01 := F0.trans F1
  have K01 : Kp 1 ([] :: S) g.push ([] :: S) k1 := K0.trans K1
  cases hA : A.isNone with
  | true =>
    rw [hA] at s2
    refine wp_mono (hrec.code (ht S) may _ w1' k1 s2 hm1) fun x3 a3 w3 ⟨hx3, hL3⟩ => ?_
    subst hx3
    obtain ⟨k3, q1, q2, q3⟩ := hL3
    simp only [AExit.toExit, Exit.then]
    refine endA_fin (args := [.sl e []]) (S := S) (e := .ret) (.inl rfl) (ht' S) rfl ⟨k3, q1, F01.trans q2, K01.trans q3⟩ fun v g' r1 r2 r3 r4 => ⟨v, g', rfl, r1, r2, r3, sl_of_nils he r4⟩
  | false =>
    rw [hA] at s2
    refine wp_mono (hrec.code (hn S) may _ w1' k1 s2 hm1) fun x3 a3 w3 ⟨hx3, hL3⟩ => ?_
    subst hx3
    obtain ⟨k3, q1, q2, q3⟩ := hL3
    refine wp_mono (hrec.code (hn' S) may _ w3 k3 q1 fun b hb => hm1 b (Nat.le_trans q2.size hb)) fun x4 a4 w4 ⟨hx4, hL4⟩ => ?_
    obtain ⟨k4, p1, p2, p3⟩ := hL4
    refine endA_fin (args := [.sl e []]) (S := S) (.inl rfl) (hn'' S) hx4 ⟨k4, p1, (F01.trans q2).trans p2, (K01.trans q3).trans p3⟩ fun v g' r1 r2 r3 r4 => ⟨v, g', rfl, r1, r2, r3, sl_of_own hob r4⟩
end
end Go.AbsM
namespace Go.AbsM
def seqL : Code → Code
  | .seq a _ => a
  | _ => .skip
def seqR : Code → Code
  | .seq _ b => b
  | _ => .skip
def regOp : Code → Nat → Oper
  | .region _ ops _, i => ops.getD i default
  | _, _ => default
def regId : Code → Nat
  | .region id _ _ => id
  | _ => 0
def stOf : Option (AExit × St) → St
  | some (_, s) => s
  | none => default
end Go.AbsM

/-! ## AbsHDef -/
/-
  The heap machine: the abstract machine with one store for all frames; each new object has a name of its own. Definitions only.
-/
set_option linter.unusedVariables false
namespace Go.AbsM

/-- The next name. -/
def nextN : Store → Nat
  | [] => 1000000
  | (k, _) :: _ => k + 1

def handleOf (k : Nat) : Ob → AV
  | .box _ => .ref 0 k 0
  | .arr _ e xs => .arr 0 k e 0 xs.length xs.length

section
variable (P : Program)

def makeO (t : TypeId) (l c : Int) : Option (TypeId × List AV) :=
  match elemT P t with
  | none => none
  | some e => match sizeT P e, bytesT P e, zeroT P e with
    | some n, some by_, some z => if 0 ≤ l ∧ l ≤ c ∧ c ≤ 9223372036854775807 ∧ by_ * c ≤ 281474976710656 ∧ 0 < n ∧ z.cells.length = n ∧ z.cells.all AV.isVal then
        some (e, List.replicate l.toNat z) else none
    | _, _, _ => none

def appendO (s : St) (t : TypeId) (a b : AV) : Option (TypeId × List AV) :=
  match elemT P t with
  | none => none
  | some e => match sizeT P e, bytesT P e, s.src P e b, zeroT P e with
    | some es, some by_, some news, some z =>
      if es = 0 ∨ by_ = 0 ∨ z.cells.length ≠ es then none else
      match a with
      | .nils => match news with
        | [] => none
        | y :: ys => if (y :: ys).length * by_ ≤ 140737488355328 then some (e, y :: ys) else none
      | .cap0 => match news with
        | [] => none
        | y :: ys => if (y :: ys).length * by_ ≤ 140737488355328 then some (e, y :: ys) else none
      | _ => none
    | _, _, _, _ => none

def buildSliceO (s : St) (t : TypeId) (len : Nat) (l : List (Nat × AV)) : Option (St × TypeId × List AV) :=
  match elemT P t, resolveAll s (l.map (·.2)) with
  | some e, some (s1, vs) => match sizeT P e, zeroT P e with
    | some n, some z => if n = 0 ∨ len * n > 16777216 ∨ z.cells.length ≠ n then none else
      match fillA (fun i => some (i * n, n)) ((List.replicate len z.cells).flatten) ((l.map (·.1)).zip vs) with
      | some cs => if cs.all AV.isVal then match (aggT P e).bind fun b => chunksA b n len cs with
          | some xs => some (s1, e, xs)
          | none => none else none
      | none => none
    | _, _ => none
  | _, _ => none

def boxO (e : TypeId) (a : AV) : Option Ob :=
  match sizeT P e with
  | some n => if a.cells.length = n ∧ a.cells.all AV.isCell then some (.box a.cells) else none
  | none => none

/-- What an operation makes anew, and the state ahead of that. -/
def newOf (s : St) (o : Oper) : Option (St × Ob) :=
  match o.op with
  | .alloc e => match zeroT P e with
    | some z => (boxO P e z).map fun ob => (s, ob)
    | none => none
  | .box e x => match evalO s x with
    | some a => (boxO P e a).map fun ob => (s, ob)
    | none => none
  | .buildSlice t len ps => match partsA s ps.toList with
    | some l => (buildSliceO P s t len l).map fun q => (q.1, .arr false q.2.1 q.2.2)
    | none => none
  | .makeSlice t lo co => match evalO s lo, evalO s co with
    | some (.x (.int _ l)), some (.x (.int _ c)) => (makeO P t l c).map fun q => (s, .arr false q.1 q.2)
    | _, _ => none
  | .call c => match c.callee with
    | .builtin .append => match evalOs s c.args.toList, c.argTypes.toList with
      | some [a, b], [t, t2] => match P.underlying t2 with
        | some (.slice _) | some .string => (appendO P s t a b).map fun q => (s, .arr false q.1 q.2)
        | _ => none
      | _, _ => none
    | _ => none
  | _ => none

/-- A new object: the stores behind it, its handle. -/
def newly (d : Option Nat) (S S1 : List Store) (ob : Ob) : Option (List Store × AV) :=
  match S, S1, d with
  | [t], [t1], some d =>
    if (look t (nextN t1)).isNone = true ∧ (look t1 (nextN t1)).isNone = true ∧ (look t1 d).isNone = true ∧ d < 500000 then
      some ([(nextN t1, ob) :: t1], handleOf (nextN t1) ob)
    else none
  | _, _, _ => none

/-- One operation, calls apart. -/
def opH (s : St) (o : Oper) : Option St :=
  match newOf P s o with
  | some (s1, ob) => (newly o.dst s.stores s1.stores ob).map fun q => St.put { s with stores := q.1 } o.dst q.2
  | none => opA P s o

/-- append where nothing new is made. -/
def growF (s : St) (t : TypeId) (a b : AV) : Option (List Store × AV) :=
  match elemT P t with
  | none => none
  | some e => match sizeT P e, bytesT P e, s.src P e b, zeroT P e with
    | some es, some by_, some news, some z =>
      if es = 0 ∨ by_ = 0 ∨ z.cells.length ≠ es then none else
      match a with
      | .nils => match news with
        | [] => some (s.stores, .nils)
        | _ => none
      | .cap0 => match news with
        | [] => some (s.stores, .cap0)
        | _ => none
      | .arr i k e' lo n tot => match getOb s.stores i k with
        | some (.arr false e2 xs) =>
          if e' = e ∧ e2 = e ∧ lo = 0 ∧ n = tot ∧ xs.length = tot ∧ (xs.length + news.length) * by_ ≤ 140737488355328 then
            some (setOb s.stores i k (.arr false e (xs ++ news)), .arr i k e 0 (xs.length + news.length) (xs.length + news.length))
          else none
        | _ => none
      | _ => none
    | _, _, _, _ => none

variable (E : Env)

def enterH (fn : Func) (args : List AV) (t : Store) : St := { slots := args ++ List.replicate (fn.ntmps - args.length) .und, stores := [t] }

def AV.isTup : AV → Bool
  | .tup _ => true
  | _ => false

/-- A call in the one store. -/
def callH (rec : Rec) (f : FuncId) (args : List AV) (t : Store) : Option (Store × AV) :=
  match E.Φ f with
  | some fn => match fn.body with
    | some c => if t.all (fun p => Nat.ble 500000 p.1) = true then match rec (.code c) (enterH fn args t) with
      | some (e, s) => if e = .ret ∨ e = .normal then match resultAll P s fn.results.toList with
          | some l => match s.stores with
            | [t'] => if l.all (fun a => !a.isTup) = true then some (t', oneOf l) else none
            | _ => none
          | none => none else none
      | none => none else none
    | none => none
  | none => none

/-- Is it called by value, by what is known of it? -/
def gamK (f : FuncId) : Bool := E.lend f 999
def stepOpH (q rec : Rec) (s : St) (o : Oper) : Option St :=
  match o.op with
  | .call c => match c.callee with
    | .value (.func f) => if gamK E f then quietA P E q s o else match evalOs s c.args.toList with
      | some as => match s.stores with
        | [t] => match callH P E rec f as t with
          | some (t', r) => some (St.put { s with stores := [t'] } o.dst r)
          | none => none
        | _ => none
      | none => none
    | _ => opH P s o
  | _ => opH P s o

/-- An operation that may change the store, where others may cross it: what it leaves, what it yields. -/
def soloF (rec : Rec) (s : St) (o : Oper) : Option (List Store × AV) :=
  match o.op with
  | .call c => match c.callee with
    | .value (.func f) => if gamK E f then none else match evalOs s c.args.toList with
      | some as => match s.stores with
        | [t] => match callH P E rec f as t with
          | some (t', r) => some ([t'], r)
          | none => none
        | _ => none
      | none => none
    | .builtin .append => match newOf P s o with
      | some (s1, ob) => newly o.dst s.stores s1.stores ob
      | none => match evalOs s c.args.toList, c.argTypes.toList with
        | some [a, b], [t, t2] => match P.underlying t2 with
          | some (.slice _) | some .string => growF P s t a b
          | _ => none
        | _, _ => none
    | _ => none
  | .alloc _ | .box _ _ | .buildSlice _ _ _ | .makeSlice _ _ _ => match newOf P s o with
    | some (s1, ob) => newly o.dst s.stores s1.stores ob
    | none => none
  | _ => none

/-- What an operation yields that looks at slots alone. -/
def pureF (s : St) (op : Op) : Option AV :=
  match op with
  | .move x => evalO s x
  | .assign x => evalO s x
  | .pick c a b => pickF s c a b
  | .nilCheck x => nilF s x
  | .build t ps => buildF P s t ps.toList
  | .field t x f => fieldF P s t x f
  | .extract x i => extractF s x i
  | .fieldAddr t x f => match P.underlying t, evalO s x with
    | some (.struct fields), some (.ref i k off) => match fields[f]? with
      | some fd => match sizeT P fd.type with
        | some (_ + 1) => some (.ref i k (off + fd.offset))
        | _ => none
      | none => none
    | some (.struct fields), some (.efz cs off) => match fields[f]? with
      | some fd => match sizeT P fd.type with
        | some (_ + 1) => some (.efz cs (off + fd.offset))
        | _ => none
      | none => none
    | _, _ => none
  | _ => none

def crossK (o : Oper) : Bool := E.solo o && (match o.op with
  | .call c => match c.callee with
    | .value (.func _) => true
    | .builtin .append => true
    | _ => false
  | .alloc _ | .box _ _ | .buildSlice _ _ _ | .makeSlice _ _ _ => true
  | _ => false)
def pureK (o : Oper) : Bool := !E.solo o && (match o.op with
  | .move _ | .assign _ | .pick _ _ _ | .nilCheck _ | .build _ _ | .field _ _ _ | .extract _ _ | .fieldAddr _ _ _ => true
  | _ => false)

/-- Operations that make a new object, nothing else. -/
def allocK (o : Oper) : Bool := E.solo o && (match o.op with
  | .alloc _ | .box _ _ | .buildSlice _ _ _ | .makeSlice _ _ _ => true
  | _ => false)
/-- Operations that look at slots and stores. -/
def readK (o : Oper) : Bool := !E.solo o && (match o.op with
  | .load _ _ | .indexAddr _ _ _ | .index _ _ _ | .slice _ _ _ _ _ | .binOp _ _ _ _ _ | .unOp _ _ _ | .convert _ _ _ => true
  | .call c => match c.callee with
    | .builtin .len => true
    | _ => false
  | _ => false)

/-- In a region whose order is open. -/
def drawOpH (q rec : Rec) (s : St) (o : Oper) : Option St :=
  if E.solo o then (if crossK E o then (soloF P E rec s o).map fun z => St.put { s with stores := z.1 } o.dst z.2 else stepOpH P E q rec s o)
  else if pureK E o then (pureF P s o.op).map fun v => s.put o.dst v else quietA P E q s o

/-- May two change places? -/
def commH (ops : Array Oper) (i j : Nat) : Bool :=
  match ops[i]?, ops[j]? with
  | some x, some y => Oper.apart ops x y && ((!E.solo x && !E.solo y) || (crossK E x && pureK E y) || (pureK E x && crossK E y) || (readK E x && allocK E y))
  | _, _ => false

def stepG (ok : Array Oper → Bool) (so dr : Oper → St → Option St) (rec : Rec) : Rec
  | .code .skip, s => some (.normal, s)
  | .code (.label _), s => some (.normal, s)
  | .code (.region _ ops false), s => match opsA so ops (List.range ops.size) s with
    | some s1 => some (.normal, s1)
    | none => none
  | .code (.region _ ops true), s => if ok ops then match opsA dr ops (List.range ops.size) s with
    | some s1 => some (.normal, s1)
    | none => none else none
  | .code (.seq a b), s => match rec (.code a) s with
    | some (.normal, s1) => rec (.code b) s1
    | r => r
  | .code (.cond c a b), s => match evalO s c with
    | some (.x (.bool t)) => rec (.code (if t then a else b)) s
    | _ => none
  | .code (.block id c), s => match rec (.code c) s with
    | some (.exit i, s1) => if i = id then some (.normal, s1) else some (.exit i, s1)
    | r => r
  | .code (.loop c), s => match rec (.code c) s with
    | some (.normal, s1) => rec (.code (.loop c)) s1
    | r => r
  | .code (.exit id), s => some (.exit id, s)
  | .code (.goto l), s => some (.goto l, s)
  | .code .ret, s => some (.ret, s)
  | .code (.scope c), s => rec (.within c c) s
  | .within c rest, s => match rec (.code rest) s with
    | some (.goto l, s1) => match findLabel c l with
      | some rest1 => rec (.within c rest1) s1
      | none => some (.goto l, s1)
    | r => r
  | .code (.rangeFunc ..), _ => none
  | .code (.refuse _), _ => none

end
end Go.AbsM

/-! ## AbsHNew -/
/-
  The heap machine: new objects under names of their own.
-/
set_option linter.unusedVariables false
set_option linter.unusedSimpArgs false
set_option linter.unusedSectionVars false
namespace Go.AbsM

section
variable {P : Program} {w w' : World} {g : Gh} {may : Nat → Prop} {s s' : St} {a : Act}

/-- It names nothing that isn't there. -/
def ValidC (P : Program) (t : Store) (c : AV) : Prop := ∃ w g u, CRep P w g [t] c u
def ValidH (P : Program) (t : Store) (c : AV) : Prop := ∃ w g u, HRep P w g [t] c u

section
variable {t : Store} {d nm : Nat} {ob : Ob} (hd : look t d = none) (hn : look t nm = none)
include hd hn

theorem look1 {k : Nat} (hk : k ≠ d) : getOb [((d, ob.kill d) :: drop (killStore d t) d)] 0 k = (look t k).map (Ob.kill d) := by
  simp only [getOb, look, look_drop, look_kill, if_neg (Ne.symm hk), if_neg hk]
theorem look2 {k : Nat} (hk : k ≠ nm) : getOb [((nm, ob) :: t)] 0 k = look t k := by
  simp only [getOb, look, if_neg (Ne.symm hk)]
theorem ne_d {k : Nat} {o : Ob} (h : look t k = some o) : k ≠ d := fun e => by rw [e, hd] at h; cases h
theorem ne_nm {k : Nat} {o : Ob} (h : look t k = some o) : k ≠ nm := fun e => by rw [e, hn] at h; cases h

theorem CRep.renew {c : AV} {u : Value} (hv : ValidC P t c) (h : CRep P w g [((d, ob.kill d) :: drop (killStore d t) d)] (c.killCell d) u) :
    CRep P w (g.new nm (g.B 0 d) (g.C 0 d)) [((nm, ob) :: t)] c u := by
  obtain ⟨w0, g0, u0, h0⟩ := hv
  cases c with
  | arr i k e lo n tot =>
    obtain ⟨fz0, xs0, hg0, _⟩ := h0
    cases i with
    | succ i => cases hg0
    | zero =>
      have hk0 : look t k = some (.arr fz0 e xs0) := hg0
      have kd := ne_d hd hn hk0
      have kn := ne_nm hd hn hk0
      have hkc : AV.killCell d (.arr 0 k e lo n tot) = .arr 0 k e lo n tot := by simp [AV.killCell, kd]
      rw [hkc] at h
      obtain ⟨fz, xs, hg, ht, hq, h1⟩ := h
      rw [look1 hd hn kd, hk0] at hg
      simp only [Option.map_some, Ob.kill, Option.some.injEq, Ob.arr.injEq] at hg
      obtain ⟨rfl, _, rfl⟩ := hg
      refine ⟨fz0, xs0, by rw [look2 hd hn kn, hk0], ht, fun hl => ?_, h1⟩
      obtain ⟨hln, A, c, rfl, hnc, hcm, hA, hC⟩ := hq hl
      refine ⟨hln, A, c, rfl, hnc, hcm, fun h3 => ?_, fun hf => ?_⟩
      · simp only [Gh.new, kn, and_false, if_false]; exact hA h3
      · simp only [Gh.new, kn, and_false, if_false]; exact hC hf
  | ref i k off =>
    obtain ⟨⟨cs, hg0⟩, _⟩ := h0
    cases i with
    | succ i => cases hg0
    | zero =>
      have hk0 : look t k = some (.box cs) := hg0
      have kd := ne_d hd hn hk0
      have kn := ne_nm hd hn hk0
      have hkc : AV.killCell d (.ref 0 k off) = .ref 0 k off := by simp [AV.killCell, kd]
      rw [hkc] at h
      obtain ⟨_, rfl⟩ := h
      exact ⟨⟨cs, by rw [look2 hd hn kn, hk0]⟩, by simp [Gh.new, kn]⟩
  | ear i k e tot j off =>
    obtain ⟨fz0, xs0, hg0, _⟩ := h0
    cases i with
    | succ i => cases hg0
    | zero =>
      have hk0 : look t k = some (.arr fz0 e xs0) := hg0
      have kd := ne_d hd hn hk0
      have kn := ne_nm hd hn hk0
      have hkc : AV.killCell d (.ear 0 k e tot j off) = .ear 0 k e tot j off := by simp [AV.killCell, kd]
      rw [hkc] at h
      obtain ⟨fz, xs, hg, ht, hq⟩ := h
      rw [look1 hd hn kd, hk0] at hg
      simp only [Option.map_some, Ob.kill, Option.some.injEq, Ob.arr.injEq] at hg
      obtain ⟨rfl, _, rfl⟩ := hg
      refine ⟨fz0, xs0, by rw [look2 hd hn kn, hk0], ht, fun hl => ?_⟩
      simp only [Gh.new, kn, and_false, if_false]; exact hq hl
  | efz cs off => exact h
  | und => exact h
  | dead => trivial
  | agg => exact h0.elim
  | tup => exact h0.elim
  | own => exact h0.elim
  | obj => exact h0.elim
  | x => exact h
  | str => exact h
  | nils => exact h
  | cap0 => exact h
  | sl => exact h

theorem HRep1.renew {c : AV} {u : Value} (hv : ∃ w g u, HRep1 P w g [t] c u) (h : HRep1 P w g [((d, ob.kill d) :: drop (killStore d t) d)] (c.kill1 d) u) :
    HRep1 P w (g.new nm (g.B 0 d) (g.C 0 d)) [((nm, ob) :: t)] c u := by
  obtain ⟨w0, g0, u0, h0⟩ := hv
  cases c with
  | agg cs =>
    obtain ⟨vs0, rfl, hl0, hr0⟩ := h0
    obtain ⟨vs, rfl, hl, hr⟩ := h
    refine ⟨vs, rfl, by simpa using hl, fun i c u hc hu => ?_⟩
    have hi : i < cs.length := (List.getElem?_eq_some_iff.1 hc).1
    have h1 := hr i (c.killCell d) u (by simp [hc]) hu
    exact ⟨CRep.renew hd hn ⟨w0, g0, _, (hr0 i c (vs0[i]'(by omega)) hc (by simp)).1⟩ h1.1, h1.2⟩
  | _ =>
    unfold HRep1 at h0
    refine HRep1.of_cell (CRep.renew hd hn ⟨w0, g0, _, h0⟩ ?_)
    revert h
    simp only [AV.kill1]
    intro h
    first
      | exact h
      | (unfold HRep1 at h; exact h)
      | (simp only [AV.killCell] at h ⊢; split at h <;> exact h)
      | (rename_i i k e lo n tot; cases i <;> (simp only [AV.killCell] at h ⊢; try split at h) <;> simp_all [HRep1])
      | (rename_i i k off; cases i <;> (simp only [AV.killCell] at h ⊢; try split at h) <;> simp_all [HRep1])

theorem HRep.renew {c : AV} {u : Value} (hv : ValidH P t c) (h : HRep P w g [((d, ob.kill d) :: drop (killStore d t) d)] (c.kill d) u) :
    HRep P w (g.new nm (g.B 0 d) (g.C 0 d)) [((nm, ob) :: t)] c u := by
  obtain ⟨w0, g0, u0, h0⟩ := hv
  by_cases ht : ∃ as, c = .tup as
  · obtain ⟨as, rfl⟩ := ht
    obtain ⟨vs0, rfl, hl0, hr0⟩ := h0
    obtain ⟨vs, rfl, hl, hr⟩ := h
    refine ⟨vs, rfl, by simpa using hl, fun i c u hc hu => ?_⟩
    have hi : i < as.length := (List.getElem?_eq_some_iff.1 hc).1
    exact HRep1.renew hd hn ⟨w0, g0, _, hr0 i c (vs0[i]'(by omega)) hc (by simp)⟩ (hr i (c.kill1 d) u (by simp [hc]) hu)
  · have e1 : c.kill d = c.kill1 d := by cases c <;> first | rfl | exact absurd ⟨_, rfl⟩ ht
    rw [e1] at h
    have h0' : HRep1 P w0 g0 [t] c u0 := by cases c <;> first | exact h0 | exact absurd ⟨_, rfl⟩ ht
    have h' : HRep1 P w g [((d, ob.kill d) :: drop (killStore d t) d)] (c.kill1 d) u := by
      have hk : ∀ l, c.kill1 d ≠ .tup l := by
        intro l
        cases c with
        | tup as => exact absurd ⟨_, rfl⟩ ht
        | arr i k e lo n tot => cases i <;> simp only [AV.kill1, AV.killCell] <;> first | (split <;> simp) | simp
        | ref i k off => cases i <;> simp only [AV.kill1, AV.killCell] <;> first | (split <;> simp) | simp
        | ear i k e tot j off => cases i <;> simp only [AV.kill1, AV.killCell] <;> first | (split <;> simp) | simp
        | _ => simp [AV.kill1, AV.killCell]
      revert h hk
      generalize c.kill1 d = q
      intro h hk
      cases q <;> first | exact h | exact absurd rfl (hk _)
    exact HRep.of_one (HRep1.renew hd hn ⟨w0, g0, u0, h0'⟩ h') fun l e => ht ⟨l, e⟩

theorem SInv.renew (hv : ∀ k cs, look t k = some (.box cs) → ∀ c, c ∈ cs → ValidC P t c) (ho : ∀ cs, ob = .box cs → ∀ c, c ∈ cs → ValidC P t c)
    (h : SInv P w g may [((d, ob.kill d) :: drop (killStore d t) d)]) : SInv P w (g.new nm (g.B 0 d) (g.C 0 d)) may [((nm, ob) :: t)] := by
  have hnd : getOb [((d, ob.kill d) :: drop (killStore d t) d)] 0 d = some (ob.kill d) := by simp [getOb, look]
  -- where an object stood
  have was : ∀ i k o, getOb [((nm, ob) :: t)] i k = some o → i = 0 ∧ ∃ j, getOb [((d, ob.kill d) :: drop (killStore d t) d)] 0 j = some (o.kill d) ∧ (g.new nm (g.B 0 d) (g.C 0 d)).B 0 k = g.B 0 j ∧ (g.new nm (g.B 0 d) (g.C 0 d)).C 0 k = g.C 0 j ∧
      ((k = nm ∧ j = d ∧ o = ob) ∨ (k ≠ nm ∧ j ≠ d ∧ j = k ∧ look t k = some o)) := by
    intro i k o hg
    cases i with
    | succ i => cases hg
    | zero =>
      refine ⟨rfl, ?_⟩
      by_cases hk : k = nm
      · subst hk
        have : ob = o := by simpa [getOb, look] using hg
        subst this
        exact ⟨d, hnd, by simp [Gh.new], by simp [Gh.new], .inl ⟨rfl, rfl, rfl⟩⟩
      · rw [look2 hd hn hk] at hg
        have kd := ne_d hd hn hg
        exact ⟨k, by rw [look1 hd hn kd, hg]; rfl, by simp [Gh.new, hk], by simp [Gh.new, hk], .inr ⟨hk, kd, rfl, hg⟩⟩
  refine ⟨fun i k cs hg => ?_, fun i k e xs hg => ?_, fun i k e xs hg => ?_, fun i k o i' k' o' hg hg' hl hl' he => ?_, h.mlt⟩
  · obtain ⟨rfl, j, h1, h2, h3, h4⟩ := was i k _ hg
    obtain ⟨q1, q2, vs, ty, q3, q4, q5⟩ := h.box 0 j _ h1
    rw [h2]
    refine ⟨q1, q2, vs, ty, q3, by simpa using q4, fun m c u hc hu => ?_⟩
    obtain ⟨r1, r2⟩ := q5 m (c.killCell d) u (by simp [hc]) hu
    rw [AV.shift_zero] at r1 ⊢
    refine ⟨CRep.renew hd hn ?_ r1, r2⟩
    rcases h4 with ⟨_, _, h4⟩ | ⟨_, _, _, h4⟩
    · exact ho cs h4.symm c (List.mem_of_getElem? hc)
    · exact hv k cs h4 c (List.mem_of_getElem? hc)
  · obtain ⟨rfl, j, h1, h2, h3, h4⟩ := was i k _ hg
    have := h.arr 0 j e xs h1
    rw [h2, h3]; exact this
  · obtain ⟨rfl, j, h1, h2, h3, h4⟩ := was i k _ hg
    have := h.fz 0 j e xs h1
    rw [h2]; exact this
  · obtain ⟨rfl, j, h1, h2, h3, h4⟩ := was i k _ hg
    obtain ⟨rfl, j', h1', h2', h3', h4'⟩ := was i' k' _ hg'
    rw [h2, h2'] at he
    have lo : ∀ o : Ob, (o.kill d).loose = o.loose := fun o => by cases o <;> rfl
    have := (h.inj 0 j _ 0 j' _ h1 h1' (by rw [lo]; exact hl) (by rw [lo]; exact hl') he).2
    refine ⟨rfl, ?_⟩
    rcases h4 with ⟨r1, r2, _⟩ | ⟨r1, r2, r3, _⟩ <;> rcases h4' with ⟨q1, q2, _⟩ | ⟨q1, q2, q3, _⟩ <;> omega
end

theorem validC_of {t : Store} {S : List Store} (hS : S = [t]) (hi : SInv P w g may S) : ∀ k cs, look t k = some (.box cs) → ∀ c, c ∈ cs → ValidC P t c := by
  intro k cs hk c hc
  subst hS
  obtain ⟨_, _, vs, ty, _, h4, h5⟩ := hi.box 0 k cs hk
  obtain ⟨m, hm, rfl⟩ := List.getElem_of_mem hc
  have := (h5 m cs[m] (vs[m]'(by omega)) (by simp [hm]) (by simp)).1
  rw [AV.shift_zero] at this
  exact ⟨_, _, _, this⟩

/-- **A new object** under a name of its own, out of one that bears its slot's. -/
theorem leaves_renew {t0 t : Store} {d nm : Nat} {ob : Ob} {s1 : St} {a1 : Act} {w1 : World} {g1 : Gh} {v : Value} (hst : s.stores = [t0]) (hst1 : s1.stores = [t]) (hs1 : Sim P may s1 a1 w1 g1) (hd : look t d = none) (hn : look t nm = none) (hn0 : look t0 nm = none)
    (h500 : d < 500000) (ho : ∀ cs, ob = .box cs → ∀ c, c ∈ cs → ValidC P t c)
    (hL : Leaves P may s w g ((s1.create d (ob.kill d)).put (some d) (handleOf d ob)) (a.put (some d) v) w') :
    Leaves P may s w g { slots := s1.slots.set d (handleOf nm ob), stores := [((nm, ob) :: t)] } (a.put (some d) v) w' := by
  obtain ⟨g', h1, h2, h3⟩ := hL
  have hS : ((s1.create d (ob.kill d)).put (some d) (handleOf d ob)).stores = [((d, ob.kill d) :: drop (killStore d t) d)] := by rw [put_stores]; simp only [St.create, hst1]
  have hinv := h1.inv
  rw [hS] at hinv
  have hinv2 := SInv.renew hd hn (validC_of hst1 hs1.inv) ho hinv
  refine ⟨g'.new nm (g'.B 0 d) (g'.C 0 d), ⟨hinv2, ?_, fun m x hx => ?_, h1.defers, by simp⟩, h2, ⟨fun i k cs hi hg => ?_, fun i k fz e xs hi hg => ?_⟩⟩
  · have := h1.len
    simpa [St.create, St.put] using this
  · simp only [List.getElem?_set] at hx
    by_cases hmd : d = m
    · subst hmd
      rw [if_pos rfl] at hx
      split at hx
      · rename_i hlt
        simp only [Option.some.injEq] at hx; subst hx
        have := h1.slots d (handleOf d ob) (by simp [St.put, St.create, hlt])
        rw [hS] at this
        cases ob with
        | box cs =>
          obtain ⟨_, hv⟩ := (show CRep P w' g' _ (.ref 0 d 0) _ from this)
          exact ⟨⟨cs, by simp [getOb, look]⟩, by rw [hv]; simp [Gh.new]⟩
        | arr fz e xs =>
          obtain ⟨fz', xs', hg, ht, hq, h9⟩ := (show CRep P w' g' _ (.arr 0 d e 0 xs.length xs.length) _ from this)
          simp [getOb, look, Ob.kill] at hg
          obtain ⟨rfl, rfl⟩ := hg
          refine ⟨fz, xs, by simp [getOb, look], ht, fun hl => ?_, h9⟩
          obtain ⟨hln, A, c, hv, hnc, hcm, hA, hC⟩ := hq hl
          exact ⟨hln, A, c, hv, hnc, hcm, fun h3 => by simp only [Gh.new, and_self, if_true]; exact hA h3, fun hf => by simp only [Gh.new, and_self, if_true]; exact hC hf⟩
      · cases hx
    · rw [if_neg hmd] at hx
      have h5 := h1.slots m (x.kill d) (by simp [St.put, St.create, List.getElem?_set_ne hmd, hx])
      rw [hS] at h5
      have hv := hs1.slots m x hx
      rw [hst1] at hv
      exact HRep.renew hd hn ⟨_, _, _, hv⟩ h5
  · rw [hst] at hg
    cases i with
    | succ i => cases hg
    | zero =>
      have hk : k ≠ nm := fun e => by rw [e] at hg; rw [show getOb [t0] 0 nm = look t0 nm from rfl, hn0] at hg; cases hg
      obtain ⟨⟨cs', q1⟩, q2⟩ := h3.box 0 k cs hi (by rw [hst]; exact hg)
      rw [hS] at q1
      have hkd : k ≠ d := by
        have : 500000 ≤ k := by omega
        omega
      rw [look1 hd hn hkd] at q1
      refine ⟨?_, by simp [Gh.new, hk, q2]⟩
      rw [look2 hd hn hk]
      cases hq : look t k with
      | none => rw [hq] at q1; cases q1
      | some o =>
        rw [hq] at q1
        cases o with
        | box cs => exact ⟨cs, rfl⟩
        | arr => simp [Ob.kill] at q1
  · rw [hst] at hg
    cases i with
    | succ i => cases hg
    | zero =>
      have hk : k ≠ nm := fun e => by rw [e] at hg; rw [show getOb [t0] 0 nm = look t0 nm from rfl, hn0] at hg; cases hg
      obtain ⟨fz', xs', q1, q2, q3⟩ := h3.arr 0 k fz e xs hi (by rw [hst]; exact hg)
      rw [hS] at q1
      have hkd : k ≠ d := by
        have : 500000 ≤ k := by omega
        omega
      rw [look1 hd hn hkd] at q1
      refine ⟨fz', xs', ?_, q2, fun hl => by
        have := q3 hl
        simpa [Gh.new, hk] using this⟩
      rw [look2 hd hn hk]
      cases hq : look t k with
      | none => rw [hq] at q1; cases q1
      | some o =>
        rw [hq] at q1
        cases o with
        | box cs => simp [Ob.kill] at q1
        | arr => simpa [Ob.kill] using q1
end
end Go.AbsM

/-! ## AbsHOp -/
/-
  The heap machine: one operation, calls apart.
-/
set_option linter.unusedVariables false
set_option linter.unusedSimpArgs false
namespace Go.AbsM

section
variable {P : Program} {w w' : World} {g : Gh} {may : Nat → Prop} {s s' : St} {a : Act}

theorem makeO_fresh {d : Option Nat} {t : TypeId} {l c : Int} {e : TypeId} {xs : List AV} (h : makeO P t l c = some (e, xs)) : makeA P s d t l c = s.fresh d e xs := by
  unfold makeO at h
  unfold makeA
  split at h
  · cases h
  · rename_i e' he
    rw [he]
    simp only
    split at h
    · rename_i n by_ z h1 h2 h3
      rw [h1, h2, h3]
      simp only
      split at h
      · rename_i hc
        simp only [Option.some.injEq, Prod.mk.injEq] at h
        obtain ⟨rfl, rfl⟩ := h
        rw [if_pos hc]
      · cases h
    · cases h

theorem appendO_fresh {d : Option Nat} {t : TypeId} {x y : AV} {e : TypeId} {xs : List AV} (h : appendO P s t x y = some (e, xs)) : appendA P s d t x y = s.fresh d e xs := by
  unfold appendO at h
  unfold appendA
  split at h
  · cases h
  · rename_i e' he
    rw [he]
    simp only
    split at h
    · rename_i es by_ news z h1 h2 h3 h4
      rw [h1, h2, h3, h4]
      simp only
      split at h
      · cases h
      · rename_i hc
        rw [if_neg hc]
        split at h
        · split at h
          · cases h
          · rename_i q qs
            split at h
            · rename_i hl
              simp only [Option.some.injEq, Prod.mk.injEq] at h
              obtain ⟨rfl, rfl⟩ := h
              simp only [if_pos hl]
            · cases h
        · split at h
          · cases h
          · rename_i q qs
            split at h
            · rename_i hl
              simp only [Option.some.injEq, Prod.mk.injEq] at h
              obtain ⟨rfl, rfl⟩ := h
              simp only [if_pos hl]
            · cases h
        · cases h
    · cases h

theorem buildSliceO_fresh {d : Option Nat} {t : TypeId} {len : Nat} {l : List (Nat × AV)} {s1 : St} {e : TypeId} {xs : List AV} (h : buildSliceO P s t len l = some (s1, e, xs)) :
    buildSliceA P s d t len l = s1.fresh d e xs ∧ ∃ vs, resolveAll s (l.map (·.2)) = some (s1, vs) := by
  unfold buildSliceO at h
  unfold buildSliceA
  split at h
  · rename_i e' s1' vs he hr
    rw [he, hr]
    simp only
    split at h
    · rename_i n z h1 h2
      rw [h1, h2]
      simp only
      split at h
      · cases h
      · rename_i hc
        rw [if_neg hc]
        split at h
        · rename_i cs hf
          rw [hf]
          simp only
          split at h
          · rename_i hv
            rw [if_pos hv]
            split at h
            · rename_i ys hy
              simp only [Option.some.injEq, Prod.mk.injEq] at h
              obtain ⟨rfl, rfl, rfl⟩ := h
              rw [hy]
              exact ⟨rfl, _, rfl⟩
            · cases h
          · cases h
        · cases h
    · cases h
  · cases h

theorem boxO_box {d : Nat} {e : TypeId} {x : AV} {ob : Ob} (h : boxO P e x = some ob) (hd : d < 500000) : ob = .box x.cells ∧ x.cells.all AV.isCell = true ∧ boxA P s (some d) e x = some ((s.create d (ob.kill d)).put (some d) (handleOf d ob)) := by
  unfold boxO at h
  split at h
  · rename_i n hn
    split at h
    · rename_i hc
      simp only [Option.some.injEq] at h; subst h
      refine ⟨rfl, hc.2, ?_⟩
      unfold boxA
      rw [hn]
      simp only [if_pos (And.intro hc hd)]
      rfl
    · cases h
  · cases h

theorem fresh_eq {d : Nat} {e : TypeId} {xs : List AV} (hd : d < 500000) : s.fresh (some d) e xs = some ((s.create d ((Ob.arr false e xs).kill d)).put (some d) (handleOf d (.arr false e xs))) := by
  simp only [St.fresh, if_pos hd]
  rfl

theorem validC_cells {t : Store} (hs : Sim P may s a w g) (hst : s.stores = [t]) {x : AV} {v : Value} (hv : HRep P w g s.stores x v) (hc : x.cells.all AV.isCell = true) : ∀ c, c ∈ x.cells → ValidC P t c := by
  intro c hm
  rw [hst] at hv
  obtain ⟨m, hm', rfl⟩ := List.getElem_of_mem hm
  have hcr := hv.cellsRep hc
  have := (hcr.2 m x.cells[m] (v.cells.toList[m]'(by rw [hcr.1]; exact hm')) (by simp [hm']) (by simp)).1
  exact ⟨w, g, _, this⟩

/-- What is made anew is what the operation makes. -/
theorem newOf_opA {o : Oper} {d : Nat} {s1 : St} {ob : Ob} {t : Store} (hs : Sim P may s a w g) (hst : s.stores = [t]) (hd : d < 500000) (hdst : o.dst = some d) (h : newOf P s o = some (s1, ob)) :
    opA P s o = some ((s1.create d (ob.kill d)).put (some d) (handleOf d ob)) ∧ (∃ w1 g1, Sim P may s1 a w1 g1) ∧ s1.slots = s.slots ∧ ∀ t1, s1.stores = [t1] → ∀ cs, ob = .box cs → ∀ c, c ∈ cs → ValidC P t1 c := by
  unfold newOf at h
  split at h
  · rename_i e ho
    split at h
    · rename_i z hz
      obtain ⟨ob', hb, he⟩ := Option.map_eq_some_iff.1 h
      simp only [Prod.mk.injEq] at he
      obtain ⟨rfl, rfl⟩ := he
      obtain ⟨rfl, h2, h3⟩ := boxO_box (s := s) hb hd
      obtain ⟨i, v, hi, hzv, hc⟩ := zeroT_some hz
      have hr : HRep P w g s.stores z v := HRep.of_rep (constAV_rep hc g.M)
      refine ⟨by simp only [opA, ho, hz, hdst, h3], ⟨w, g, hs⟩, rfl, fun t1 ht1 cs hcs c hm => ?_⟩
      cases hcs
      exact validC_cells hs ht1 hr h2 c hm
    · cases h
  · rename_i e x ho
    split at h
    · rename_i y hy
      obtain ⟨ob', hb, he⟩ := Option.map_eq_some_iff.1 h
      simp only [Prod.mk.injEq] at he
      obtain ⟨rfl, rfl⟩ := he
      obtain ⟨rfl, h2, h3⟩ := boxO_box (s := s) hb hd
      refine ⟨by simp only [opA, ho, hy, hdst, h3], ⟨w, g, hs⟩, rfl, fun t1 ht1 cs hcs c hm => ?_⟩
      cases hcs
      exact validC_cells hs ht1 (hs.evalO hy) h2 c hm
    · cases h
  · rename_i ty len ps ho
    split at h
    · rename_i l hl
      obtain ⟨q, hb, he⟩ := Option.map_eq_some_iff.1 h
      obtain ⟨q1, q2, q3⟩ := q
      simp only [Prod.mk.injEq] at he
      obtain ⟨rfl, rfl⟩ := he
      obtain ⟨h1, vs, h2⟩ := buildSliceO_fresh (d := some d) hb
      have hp := partsA_sound hs hl
      obtain ⟨g1, k1, _⟩ := resolveAll_sound hs (vs := (ps.toList.map fun x => (x.1, a.eval x.2)).map (·.2)) (by simpa using hp.1) (fun i c u hc hu => by
        simp only [List.getElem?_map, Option.map_eq_some_iff] at hc hu
        obtain ⟨p, hp1, rfl⟩ := hc
        obtain ⟨r, hr1, rfl⟩ := hu
        exact (hp.2 i p r hp1 (by simpa using hr1)).2) h2
      refine ⟨by simp only [opA, ho, hl, hdst, h1, fresh_eq hd], ⟨w, g1, k1.1⟩, k1.2.2.2, fun t1 ht1 cs hcs c hm => ?_⟩
      cases hcs
    · cases h
  · rename_i ty lo co ho
    split at h
    · rename_i k1 l k2 c hl hc
      obtain ⟨q, hb, he⟩ := Option.map_eq_some_iff.1 h
      simp only [Prod.mk.injEq] at he
      obtain ⟨rfl, rfl⟩ := he
      refine ⟨by simp only [opA, ho, hl, hc, hdst, makeO_fresh (s := s) (d := some d) hb, fresh_eq hd], ⟨w, g, hs⟩, rfl, fun t1 ht1 cs hcs c hm => ?_⟩
      cases hcs
    · cases h
  · rename_i c ho
    split at h
    · rename_i hc
      split at h
      · rename_i x y ty ty2 has hts
        split at h
        · rename_i e2 he2
          obtain ⟨q, hb, he⟩ := Option.map_eq_some_iff.1 h
          simp only [Prod.mk.injEq] at he
          obtain ⟨rfl, rfl⟩ := he
          refine ⟨by simp only [opA, ho, hc, has, hts, builtinA, he2, hdst, appendO_fresh (d := some d) hb, fresh_eq hd], ⟨w, g, hs⟩, rfl, fun t1 ht1 cs hcs c hm => ?_⟩
          cases hcs
        · rename_i he2
          obtain ⟨q, hb, he⟩ := Option.map_eq_some_iff.1 h
          simp only [Prod.mk.injEq] at he
          obtain ⟨rfl, rfl⟩ := he
          refine ⟨by simp only [opA, ho, hc, has, hts, builtinA, he2, hdst, appendO_fresh (d := some d) hb, fresh_eq hd], ⟨w, g, hs⟩, rfl, fun t1 ht1 cs hcs c hm => ?_⟩
          cases hcs
        · cases h
      · cases h
    · cases h
  · cases h

theorem opH_wp {o : Oper} (h : opH P s o = some s') : OpWp P o s s' := by
  unfold opH at h
  split at h
  · rename_i s1 ob hnew
    obtain ⟨q, hq, rfl⟩ := Option.map_eq_some_iff.1 h
    unfold newly at hq
    split at hq
    · rename_i t t1 d hst hst1 hdst
      split at hq
      · rename_i hc
        obtain ⟨c1, c2, c3, c4⟩ := hc
        simp only [Option.isNone_iff_eq_none] at c1 c2 c3
        simp only [Option.some.injEq] at hq; subst hq
        intro may a w g hs hm next Q hn
        obtain ⟨e1, ⟨w1, g1, hs1⟩, hsl, e2⟩ := newOf_opA hs hst c4 hdst hnew
        have fin : ∀ v w', Leaves P may s w g ((s1.create d (ob.kill d)).put (some d) (handleOf d ob)) (a.put (some d) v) w' → Leaves P may s w g (St.put { s with stores := [(nextN t1, ob) :: t1] } o.dst (handleOf (nextN t1) ob)) (a.put o.dst v) w' := by
          intro v w' h2
          have := leaves_renew hst hst1 hs1 c3 c2 c1 c4 (e2 _ hst1) h2
          rw [hdst]
          simp only [St.put, ← hsl]
          exact this
        obtain ⟨w', h1 | h1⟩ := opA_sound hs hm e1
        · obtain ⟨v, h1, h2⟩ := h1
          unfold Oper.wp; rw [h1]
          refine hn _ _ (fin v w' ?_)
          rw [hdst] at h2; exact h2
        · obtain ⟨h1, h2⟩ := h1
          unfold Oper.wp; rw [h1]
          refine hn _ _ (fin _ w' ?_)
          rw [hdst] at h2; exact h2
      · cases hq
    · cases hq
  · exact opA_wp h
end
end Go.AbsM

/-! ## AbsHDraw -/
/-
  The heap machine: regions whose order is open.
-/
set_option linter.unusedVariables false
set_option linter.unusedSimpArgs false
namespace Go.AbsM

def commMC (cm : Nat → Nat → Bool) (i m : Nat) : List Nat → Bool
  | [] => true
  | j :: r => (!m.testBit j || decide (j < i) || cm i j) && commMC cm i m r
def oneMC (cm : Nat → Nat → Bool) (n : Nat) (ps : List Nat) (i : Nat) : Bool :=
  let m := candM i ps 0 0
  let p := ps.getD i 0
  (p &&& (2 ^ i - 1)) == p && (List.range i).all (m.testBit ·) && closM i m ps 0 && commMC cm i m (List.range n)
def allMC (cm : Nat → Nat → Bool) (n : Nat) (ps : List Nat) : List Nat → Bool
  | [] => true
  | i :: r => oneMC cm n ps i && allMC cm n ps r
/-- May the order be left open? -/
def drawMC (cm : Nat → Nat → Bool) (ops : Array Oper) : Bool := allMC cm ops.size (ops.toList.map predM) (List.range ops.size)
def drawH (E : Env) (ops : Array Oper) : Bool := drawMC (commH E ops) ops

theorem commMC_spec {cm : Nat → Nat → Bool} {i m : Nat} {l : List Nat} (h : commMC cm i m l = true) (j : Nat) (hj : j ∈ l) : m.testBit j = false ∨ j < i ∨ cm i j = true := by
  induction l with
  | nil => cases hj
  | cons a r ih =>
    simp only [commMC, Bool.and_eq_true, Bool.or_eq_true, Bool.not_eq_true', decide_eq_true_eq] at h
    rcases List.mem_cons.1 hj with rfl | hj
    · rcases h.1 with (h1 | h1) | h1
      · exact .inl h1
      · exact .inr (.inl h1)
      · exact .inr (.inr h1)
    · exact ih h.2 hj
theorem allMC_spec {cm : Nat → Nat → Bool} {n : Nat} {ps l : List Nat} (h : allMC cm n ps l = true) (i : Nat) (hi : i ∈ l) : oneMC cm n ps i = true := by
  induction l with
  | nil => cases hi
  | cons a r ih =>
    simp only [allMC, Bool.and_eq_true] at h
    rcases List.mem_cons.1 hi with rfl | hi
    · exact h.1
    · exact ih h.2 hi

section
variable {ops : Array Oper} {st : Oper → St → Option St}
theorem AnyA.lexMC {cm : Nat → Nat → Bool} (hc : ∀ i j, cm i j = true → Comm (ab st ops) i j) (hB : drawMC cm ops = true) : ∀ (n k : Nat) (listed : Array Bool) (s s' : St), k + n = ops.size → listed.size = ops.size →
    (∀ j, j < ops.size → listed.getD j false = decide (j < k)) → opsA st ops (List.range' k n) s = some s' → AnyA (ab st ops) ops n listed s s' := by
  intro n
  induction n with
  | zero =>
    intro k listed s s' hk hsz hl h
    simp only [List.range'_zero, opsA, Option.some.injEq] at h
    refine ⟨?_, h⟩
    cases hr : Region.ready .any ops listed with
    | nil => rfl
    | cons x xs =>
      have hx : x ∈ Region.ready .any ops listed := by rw [hr]; exact List.mem_cons_self
      obtain ⟨h1, o, ho, _⟩ := mem_ready.1 hx
      have hxs : x < ops.size := (Array.getElem?_eq_some_iff.1 ho).1
      have := hl x hxs
      rw [decide_eq_true (by omega)] at this
      have hx2 : x < listed.size := by omega
      simp [hx2] at h1 this
      rw [h1] at this; cases this
  | succ n ih =>
    intro k listed s s' hk hsz hl h
    have hks : k < ops.size := by omega
    have h1 := allMC_spec hB k (List.mem_range.2 hks)
    simp only [oneMC, Bool.and_eq_true, beq_iff_eq, List.all_eq_true, List.mem_range] at h1
    obtain ⟨⟨⟨q1, q2⟩, q3⟩, q4⟩ := h1
    rw [List.range'_succ, opsA_cons] at h
    cases hab : ab st ops k s with
    | none => rw [hab] at h; cases h
    | some s1 =>
      rw [hab] at h
      have hget : ∀ (j : Nat) (o : Oper), ops[j]? = some o → (ops.toList.map predM)[j]? = some (predM o) := by
        intro j o ho
        rw [List.getElem?_map, Array.getElem?_toList, ho]; rfl
      have hready : k ∈ Region.ready .any ops listed := by
        refine mem_ready.2 ⟨?_, ops[k], Array.getElem?_eq_getElem hks, fun e he hb => ?_⟩
        · have := hl k hks
          have hkl : k < listed.size := by omega
          simp [hkl] at this ⊢; exact this
        · have hp : (ops.toList.map predM).getD k 0 = predM ops[k] := by
            rw [List.getD_eq_getElem?_getD, hget k _ (Array.getElem?_eq_getElem hks)]; rfl
          rw [hp] at q1
          have hbit : (predM ops[k]).testBit e.on = true := by
            rw [predM_bit]
            exact List.any_eq_true.2 ⟨e, by simpa using he, by simp [hb]⟩
          have := and_sub q1 _ hbit
          rw [Nat.testBit_two_pow_sub_one] at this
          have hlt : e.on < k := by simpa using this
          rw [hl e.on (by omega)]; simpa using hlt
      refine AnyA.first (R := maskA ops.size (candM k (ops.toList.map predM) 0 0)) (listed0 := listed) (maskA_size _ _) (fun j hj => ?_) (fun j hj hlj => ?_) n listed s s1 s' (fun j hj => ?_) (fun j hj => hj) hready hab (ih (k + 1) _ _ _ (by omega) (by simp [hsz]) (fun j hj => ?_) h)
      · obtain ⟨r1, o, ho, r2⟩ := mem_ready.1 hj
        have hjs : j < ops.size := (Array.getElem?_eq_some_iff.1 ho).1
        rw [maskA_get, if_pos hjs] at r1
        rcases closM_spec _ 0 q3 j _ (hget j o ho) with h' | h' | h'
        · rw [Nat.zero_add] at h'; rw [h'] at r1; cases r1
        · omega
        · refine absurd (sub_and fun b hb => ?_) h'
          rw [predM_bit, List.any_eq_true] at hb
          obtain ⟨e, he, hbb⟩ := hb
          simp only [Bool.and_eq_true, beq_iff_eq] at hbb
          have := r2 e (by simpa using he) hbb.1
          rw [maskA_get] at this
          rw [hbb.2] at this
          split at this
          · exact this
          · cases this
      · rw [maskA_get] at hj
        split at hj
        · rename_i hjs
          rcases commMC_spec q4 j (List.mem_range.2 hjs) with h' | h' | h'
          · rw [h'] at hj; cases hj
          · have := hl j hjs
            rw [decide_eq_true h'] at this
            have hjl : j < listed.size := by omega
            simp [hjl] at this hlj
            rw [this] at hlj; cases hlj
          · exact hc k j h'
        · cases hj
      · rw [maskA_get]
        have hjs : j < ops.size := by
          rcases Nat.lt_or_ge j listed.size with h' | h'
          · omega
          · simp [Array.getElem?_eq_none h'] at hj
        rw [if_pos hjs]
        have := hl j hjs
        rw [hj] at this
        exact q2 j (by simpa using this.symm)
      · by_cases hjk : k = j
        · subst hjk
          have hkl : k < listed.size := by omega
          simp [Array.getD, hkl]
        · rw [getD_set_ne false hjk, hl j hj]
          congr 1
          apply propext
          omega


/-- What an operation does hangs on the slots that it looks at and on the stores; it may change the stores. -/
def DepS (st : Oper → St → Option St) (ops : Array Oper) (o : Oper) : Prop :=
  ∀ (s s1 : St), st o s = some s1 → ∃ S v, s1 = St.put { s with stores := S } o.dst v ∧ ∀ s' : St, s'.stores = s.stores → (∀ t, t ∈ o.looksAt ops → s'.get t = s.get t) → st o s' = some (St.put { s' with stores := S } o.dst v)
/-- What an operation does hangs on the slots that it looks at alone. -/
def DepP (st : Oper → St → Option St) (ops : Array Oper) (o : Oper) : Prop :=
  ∀ (s s1 : St), st o s = some s1 → ∃ v, s1 = s.put o.dst v ∧ ∀ s' : St, (∀ t, t ∈ o.looksAt ops → s'.get t = s.get t) → st o s' = some (s'.put o.dst v)

theorem put_with (s : St) (d : Option Nat) (v : AV) (S : List Store) : ({ s.put d v with stores := S } : St) = St.put { s with stores := S } d v := by cases d <;> rfl
theorem get_with (s : St) (S : List Store) (t : Nat) : ({ s with stores := S } : St).get t = s.get t := rfl

theorem ab_depS {i : Nat} {o : Oper} (hi : ops[i]? = some o) (h : DepS st ops o) (s s1 : St) (h1 : ab st ops i s = some s1) :
    ∃ S v, s1 = St.put { s with stores := S } o.dst v ∧ ∀ s' : St, s'.stores = s.stores → (∀ t, t ∈ o.looksAt ops → s'.get t = s.get t) → ab st ops i s' = some (St.put { s' with stores := S } o.dst v) := by
  simp only [ab, hi] at h1 ⊢
  cases hg : guardA ops s o.guard with
  | none => rw [hg] at h1; cases h1
  | some b =>
    rw [hg] at h1
    cases b with
    | false =>
      simp only [Option.some.injEq] at h1
      refine ⟨s.stores, .und, h1.symm, fun s' hs hl => ?_⟩
      rw [guard_dep hl, hg]
      have : ({ s' with stores := s.stores } : St) = s' := by rw [← hs]
      rw [this]
    | true =>
      obtain ⟨S, v, hv, hr⟩ := h s s1 h1
      exact ⟨S, v, hv, fun s' hs hl => by rw [guard_dep hl, hg]; exact hr s' hs hl⟩
theorem ab_depP {i : Nat} {o : Oper} (hi : ops[i]? = some o) (h : DepP st ops o) (s s1 : St) (h1 : ab st ops i s = some s1) :
    ∃ v, s1 = s.put o.dst v ∧ ∀ s' : St, (∀ t, t ∈ o.looksAt ops → s'.get t = s.get t) → ab st ops i s' = some (s'.put o.dst v) := by
  simp only [ab, hi] at h1 ⊢
  cases hg : guardA ops s o.guard with
  | none => rw [hg] at h1; cases h1
  | some b =>
    rw [hg] at h1
    cases b with
    | false =>
      simp only [Option.some.injEq] at h1
      exact ⟨.und, h1.symm, fun s' hl => by rw [guard_dep hl, hg]⟩
    | true =>
      obtain ⟨v, hv, hr⟩ := h s s1 h1
      exact ⟨v, hv, fun s' hl => by rw [guard_dep hl, hg]; exact hr s' hl⟩

theorem comm_SP {i j : Nat} {x y : Oper} (hi : ops[i]? = some x) (hj : ops[j]? = some y) (hx : DepS st ops x) (hy : DepP st ops y) (hap : Oper.apart ops x y = true) : Comm (ab st ops) i j := by
  intro s si sij h1 h2
  obtain ⟨p1, p2, p3⟩ := Oper.apart_spec hap
  obtain ⟨S, v, rfl, hv⟩ := ab_depS hi hx s si h1
  obtain ⟨u, rfl, hu⟩ := ab_depP hj hy _ sij h2
  refine ⟨s.put y.dst u, hu s fun t ht => (get_put (s := { s with stores := S }) (v := v) fun hd => p1 t hd ht).symm, ?_⟩
  rw [hv (s.put y.dst u) (put_stores _ _ _) fun t ht => get_put fun hd => p3 t hd ht]
  rw [put_with, put_comm fun k hk => p2 k hk]
theorem comm_PS {i j : Nat} {x y : Oper} (hi : ops[i]? = some x) (hj : ops[j]? = some y) (hx : DepP st ops x) (hy : DepS st ops y) (hap : Oper.apart ops x y = true) : Comm (ab st ops) i j := by
  intro s si sij h1 h2
  obtain ⟨p1, p2, p3⟩ := Oper.apart_spec hap
  obtain ⟨v, rfl, hv⟩ := ab_depP hi hx s si h1
  obtain ⟨S, u, rfl, hu⟩ := ab_depS hj hy _ sij h2
  refine ⟨St.put { s with stores := S } y.dst u, hu s (put_stores _ _ _).symm fun t ht => (get_put fun hd => p1 t hd ht).symm, ?_⟩
  rw [hv (St.put { s with stores := S } y.dst u) fun t ht => get_put fun hd => p3 t hd ht]
  rw [put_with, put_comm fun k hk => p2 k hk]
end

section
variable {P : Program} {E : Env} {s s' : St}

theorem newOf_dep {o : Oper} (hs : s'.stores = s.stores) (hx : ∀ x, x ∈ o.op.operands.toList → evalO s' x = evalO s x) : (newOf P s' o).map (fun q => (q.1.stores, q.2)) = (newOf P s o).map fun q => (q.1.stores, q.2) := by
  obtain ⟨dst, op, ty, pos, af, gd⟩ := o
  simp only at hx
  cases op with
  | alloc e => simp only [newOf]; split <;> simp [Option.map_map, Function.comp_def, hs]
  | box e x =>
    have h1 := hx x (by simp [Op.operands])
    simp only [newOf, h1]
    split <;> simp [Option.map_map, Function.comp_def, hs]
  | makeSlice t l c =>
    have h1 := hx l (by simp [Op.operands])
    have h2 := hx c (by simp [Op.operands])
    simp only [newOf, h1, h2]
    split <;> simp [Option.map_map, Function.comp_def, hs]
  | buildSlice t len ps =>
    have h1 := partsA_dep (s := s) (s' := s') (l := ps.toList) fun x hm => hx x (by simpa [Op.operands] using hm)
    simp only [newOf, h1]
    split
    · rename_i l hl
      simp only [Option.map_map, Function.comp_def]
      have h2 := resolveAll_dep (l.map (·.2)) s s' hs
      unfold buildSliceO
      cases ha : resolveAll s (l.map (·.2)) with
      | none =>
        rw [ha] at h2
        simp at h2
        rw [h2]
      | some p =>
        rw [ha] at h2
        simp only [Option.map_some, Option.map_eq_some_iff] at h2
        obtain ⟨q, hq, he⟩ := h2
        rw [hq]
        obtain ⟨s1, b⟩ := p
        obtain ⟨s2, b'⟩ := q
        simp only [Prod.mk.injEq] at he
        obtain ⟨he, rfl⟩ := he
        cases elemT P t with
        | none => rfl
        | some e =>
          simp only
          cases sizeT P e with
          | none => rfl
          | some n => cases zeroT P e with
            | none => rfl
            | some z =>
              simp only
              split
              · rfl
              · split
                · split
                  · split
                    · simp [he]
                    · rfl
                  · rfl
                · rfl
    · rfl
  | call c =>
    have ha : evalOs s' c.args.toList = evalOs s c.args.toList := evalOs_dep fun x hm => hx x (by
      simp only [Op.operands, Call.operands]
      first | (simp; simp at hm; exact .inr hm) | (simp; simp at hm; exact hm) | skip)
    simp only [newOf, ha, appendO, src_dep hs]
    repeat' (first | rfl | (simp [Option.map_map, Function.comp_def, hs]; done) | split)
  | _ => rfl

theorem growF_dep (hs : s'.stores = s.stores) (t : TypeId) (a b : AV) : growF P s' t a b = growF P s t a b := by
  simp only [growF, src_dep hs, hs]

theorem soloF_dep {rec : Rec} {o : Oper} (hs : s'.stores = s.stores) (hx : ∀ x, x ∈ o.op.operands.toList → evalO s' x = evalO s x) : soloF P E rec s' o = soloF P E rec s o := by
  have hn := newOf_dep (P := P) (o := o) hs hx
  have new : (match newOf P s' o with
      | some (s1, ob) => newly o.dst s'.stores s1.stores ob
      | none => none) = (match newOf P s o with
      | some (s1, ob) => newly o.dst s.stores s1.stores ob
      | none => none) := by
    cases h1 : newOf P s o with
    | none => rw [h1] at hn; simp at hn; rw [hn]
    | some p =>
      rw [h1] at hn
      simp only [Option.map_some, Option.map_eq_some_iff] at hn
      obtain ⟨q, hq, he⟩ := hn
      rw [hq]
      simp only [Prod.mk.injEq] at he
      simp only [he.1, he.2, hs]
  unfold soloF
  split
  · rename_i c ho
    have ha : evalOs s' c.args.toList = evalOs s c.args.toList := evalOs_dep fun x hm => hx x (by
      rw [ho]
      simp only [Op.operands, Call.operands]
      first | (simp; simp at hm; exact .inr hm) | (simp; simp at hm; exact hm) | skip)
    rw [ha, hs]
    split
    · rfl
    · cases h1 : newOf P s o with
      | none =>
        rw [h1] at hn; simp at hn; rw [hn]
        simp only [growF_dep hs]
      | some p =>
        rw [h1] at hn
        simp only [Option.map_some, Option.map_eq_some_iff] at hn
        obtain ⟨q, hq, he⟩ := hn
        rw [hq]
        simp only [Prod.mk.injEq] at he
        simp only [he.1, he.2]
    · rfl
  all_goals first | exact new | rfl

theorem pureF_dep {op : Op} (hx : ∀ x, x ∈ op.operands.toList → evalO s' x = evalO s x) : pureF P s' op = pureF P s op := by
  cases op with
  | move x => exact hx x (by simp [Op.operands])
  | assign x => exact hx x (by simp [Op.operands])
  | pick c a b => simp only [pureF, pickF, hx c (by simp [Op.operands]), hx a (by simp [Op.operands]), hx b (by simp [Op.operands])]
  | nilCheck x => simp only [pureF, nilF, hx x (by simp [Op.operands])]
  | build t ps => simp only [pureF, buildF, partsA_dep (s := s) (s' := s') (l := ps.toList) fun x hm => hx x (by simpa [Op.operands] using hm)]
  | fieldAddr t x f => simp only [pureF, hx x (by simp [Op.operands])]
  | field t x f => simp only [pureF, fieldF, hx x (by simp [Op.operands])]
  | extract x i => simp only [pureF, extractF, hx x (by simp [Op.operands])]
  | _ => rfl

theorem growF_append {d : Option Nat} {t : TypeId} {x y : AV} {S : List Store} {v : AV} (h : growF P s t x y = some (S, v)) : appendA P s d t x y = some (St.put { s with stores := S } d v) := by
  unfold growF at h
  unfold appendA
  split at h
  · cases h
  · rename_i e he
    rw [he]
    simp only
    split at h
    · rename_i es by_ news z h1 h2 h3 h4
      rw [h1, h2, h3, h4]
      simp only
      split at h
      · cases h
      · rename_i hc
        rw [if_neg hc]
        split at h
        · split at h
          · simp only [Option.some.injEq, Prod.mk.injEq] at h
            obtain ⟨rfl, rfl⟩ := h; rfl
          · cases h
        · split at h
          · simp only [Option.some.injEq, Prod.mk.injEq] at h
            obtain ⟨rfl, rfl⟩ := h; rfl
          · cases h
        · rename_i i k e' lo n tot
          split at h
          · rename_i e2 xs hg
            simp only [hg]
            split at h
            · rename_i hq
              rw [if_pos hq]
              simp only [Option.some.injEq, Prod.mk.injEq] at h
              obtain ⟨rfl, rfl⟩ := h; rfl
            · cases h
          · cases h
        · cases h
    · cases h

theorem soloF_step {q rec : Rec} {o : Oper} {S : List Store} {v : AV} (h : soloF P E rec s o = some (S, v)) : stepOpH P E q rec s o = some (St.put { s with stores := S } o.dst v) := by
  have new : (match newOf P s o with
      | some (s1, ob) => newly o.dst s.stores s1.stores ob
      | none => none) = some (S, v) → opH P s o = some (St.put { s with stores := S } o.dst v) := by
    intro h
    split at h
    · rename_i s1 ob hn
      simp only [opH, hn, h, Option.map_some]
    · cases h
  unfold soloF at h
  split at h
  · rename_i c ho
    split at h
    · rename_i f hc
      split at h
      · cases h
      rename_i hgam
      split at h
      · rename_i as has
        split at h
        · rename_i t hst
          split at h
          · rename_i t' r hcall
            simp only [Option.some.injEq, Prod.mk.injEq] at h
            obtain ⟨rfl, rfl⟩ := h
            simp only [stepOpH, ho, hc, has, hst, hcall, if_neg hgam]
          · cases h
        · cases h
      · cases h
    · rename_i hc
      have e1 : stepOpH P E q rec s o = opH P s o := by simp only [stepOpH, ho, hc]
      rw [e1]
      split at h
      · rename_i s1 ob hn
        simp only [opH, hn, h, Option.map_some]
      · rename_i hn
        split at h
        · rename_i x y t t2 has hts
          split at h
          · rename_i e2 he2
            simp only [opH, hn, opA, ho, hc, has, hts, builtinA, he2, growF_append h]
          · rename_i he2
            simp only [opH, hn, opA, ho, hc, has, hts, builtinA, he2, growF_append h]
          · cases h
        · cases h
    · cases h
  all_goals first
    | (rename_i ho
       have e1 : stepOpH P E q rec s o = opH P s o := by simp only [stepOpH, ho]
       rw [e1]; exact new h)
    | cases h

theorem pureF_quiet {q : Rec} {op : Op} {v : AV} (h : pureF P s op = some v) : quietF P E q s op = some v := by
  cases op with
  | fieldAddr t x f =>
    simp only [pureF] at h
    simp only [quietF, fieldAddrF]
    split at h
    · rename_i fields i k off hu hx
      rw [hu, hx]
      simp only
      split at h
      · rename_i fd hf
        rw [hf]
        simp only
        split at h
        · rename_i m hm
          rw [hm]
          exact h
        · cases h
      · cases h
    · rename_i fields cs off hu hx
      rw [hu, hx]
      simp only
      split at h
      · rename_i fd hf
        rw [hf]
        simp only
        split at h
        · rename_i m hm
          rw [hm]
          exact h
        · cases h
      · cases h
    · cases h
  | _ => first | exact h | cases h

end

/-! ### What is looked at stays, where an object comes to it -/
def SExt (S S' : List Store) : Prop := ∀ i k o, getOb S i k = some o → ∃ o', getOb S' i k = some o' ∧ (o' = o ∨ ∃ fz fz' e xs, o = .arr fz e xs ∧ o' = .arr fz' e xs)
theorem SExt.refl (S : List Store) : SExt S S := fun i k o h => ⟨o, h, .inl rfl⟩
theorem SExt.trans {S1 S2 S3 : List Store} (h : SExt S1 S2) (k : SExt S2 S3) : SExt S1 S3 := by
  intro i n o ho
  obtain ⟨o2, h2, e2⟩ := h i n o ho
  obtain ⟨o3, h3, e3⟩ := k i n o2 h2
  refine ⟨o3, h3, ?_⟩
  rcases e2 with rfl | ⟨fz, fz', e, xs, rfl, rfl⟩
  · exact e3
  · rcases e3 with rfl | ⟨fz2, fz3, e2, xs2, h4, rfl⟩
    · exact .inr ⟨fz, fz', e, xs, rfl, rfl⟩
    · cases h4
      exact .inr ⟨fz, fz3, e, xs, rfl, rfl⟩
theorem SExt.box {S S' : List Store} (h : SExt S S') {i k : Nat} {cs : List AV} (hg : getOb S i k = some (.box cs)) : getOb S' i k = some (.box cs) := by
  obtain ⟨o, h1, h2⟩ := h i k _ hg
  rcases h2 with rfl | ⟨_, _, _, _, h2, _⟩
  · exact h1
  · cases h2
theorem SExt.arr {S S' : List Store} (h : SExt S S') {i k : Nat} {fz : Bool} {e : TypeId} {xs : List AV} (hg : getOb S i k = some (.arr fz e xs)) : ∃ fz', getOb S' i k = some (.arr fz' e xs) := by
  obtain ⟨o, h1, h2⟩ := h i k _ hg
  rcases h2 with rfl | ⟨_, fz', _, _, h2, rfl⟩
  · exact ⟨fz, h1⟩
  · cases h2; exact ⟨fz', h1⟩

section
variable {P : Program} {E : Env} {s s' : St} (hS : SExt s.stores s'.stores)
include hS
theorem elems_ext {i k lo n tot : Nat} {xs : List AV} (h : s.elems i k lo n tot = some xs) : s'.elems i k lo n tot = some xs := by
  simp only [St.elems] at h ⊢
  split at h
  · rename_i fz e ys hg
    obtain ⟨fz', h1⟩ := hS.arr hg
    rw [h1]; exact h
  · cases h
theorem src_ext {e : TypeId} {a : AV} {xs : List AV} (h : s.src P e a = some xs) : s'.src P e a = some xs := by
  cases a with
  | arr i k e' lo n tot =>
    simp only [St.src] at h ⊢
    split at h
    · rename_i he
      rw [if_pos he]; exact elems_ext hS h
    · cases h
  | _ => exact h
theorem fwd_ext {n : Nat} {a b : AV} (h : s.fwd n a = some b) : s'.fwd n a = some b := by
  cases a with
  | ear i k e tot j off =>
    simp only [St.fwd] at h ⊢
    split at h
    · rename_i fz e ys hg
      obtain ⟨fz', h1⟩ := hS.arr hg
      rw [h1]; exact h
    · cases h
  | _ => exact h
theorem loadA_ext {t : TypeId} {p v : AV} (h : loadA P s t p = some v) : loadA P s' t p = some v := by
  cases p with
  | ref i k off =>
    simp only [loadA] at h ⊢
    split at h
    · rename_i cs hg
      rw [hS.box hg]; exact h
    · cases h
  | ear i k e tot j off =>
    simp only [loadA] at h ⊢
    split at h
    · rename_i fz e ys hg
      obtain ⟨fz', h1⟩ := hS.arr hg
      rw [h1]; exact h
    · cases h
  | _ => exact h
theorem isNilA_ext {a : AV} {b : Bool} (h : isNilA s a = some b) : isNilA s' a = some b := by
  unfold isNilA at h
  split at h
  · exact h
  · exact h
  · split at h
    · rename_i xs hx
      simp only [isNilA, elems_ext hS hx]; exact h
    · cases h
  · cases h
theorem isNilT_ext {t : TypeId} {a : AV} {b : Bool} (h : isNilT P s t a = some b) : isNilT P s' t a = some b := by
  unfold isNilT at h ⊢
  split at h
  · exact isNilA_ext hS h
  · exact h
  · cases h
theorem binA_ext {op : BinOp} {t : TypeId} {x y v : AV} (h : binA P s op t x y = some v) : binA P s' op t x y = some v := by
  have m1 : ∀ {f : Bool → AV}, (isNilT P s t x).map f = some v → (isNilT P s' t x).map f = some v := by
    intro f h
    obtain ⟨b, hb, h⟩ := Option.map_eq_some_iff.1 h
    rw [isNilT_ext hS hb]; exact congrArg some h
  unfold binA at h ⊢
  split at h
  · split at h
    · split at h
      · exact m1 h
      · exact m1 h
      · cases h
    · cases h
  · split at h
    · split at h
      · exact m1 h
      · exact m1 h
      · cases h
    · cases h
  all_goals exact h
theorem convA_ext {src dst : TypeId} {a v : AV} (h : convA P s src dst a = some v) : convA P s' src dst a = some v := by
  have key : ∀ {a : AV}, (match P.underlying src, P.underlying dst with
      | some (.slice e), some .string => match P.underlying e, s.src P e a with
        | some (.int .u8), some xs => (bytesOfAVs xs).map AV.str
        | _, _ => none
      | _, _ => none) = some v → (match P.underlying src, P.underlying dst with
      | some (.slice e), some .string => match P.underlying e, s'.src P e a with
        | some (.int .u8), some xs => (bytesOfAVs xs).map AV.str
        | _, _ => none
      | _, _ => none) = some v := by
    intro a h
    split at h
    · split at h
      · rename_i xs hu hx
        rw [hu, src_ext hS hx]; exact h
      · cases h
    · cases h
  cases a with
  | x w => cases w <;> first | exact h | exact key h
  | str l => exact h
  | _ => exact key h
theorem indexAddrA_ext {t : TypeId} {p v : AV} {i : Int} (h : indexAddrA P s t p i = some v) : indexAddrA P s' t p i = some v := by
  unfold indexAddrA at h ⊢
  split at h
  · rename_i e hu
    split at h
    · rename_i h0
      rw [if_pos h0]
      split at h
      · exact h
      · rename_i j k e' lo n tot
        split at h
        · rename_i hc
          rw [if_pos hc]
          split at h
          · rename_i xs hx
            rw [elems_ext hS hx]; exact h
          · cases h
        · cases h
      · cases h
    · cases h
  · rename_i len e hu
    split at h
    · rename_i n hn
      split at h
      · rename_i hc
        rw [if_pos hc]; exact fwd_ext hS h
      · cases h
    · cases h
  · cases h
theorem lenOfA_ext {t : TypeId} {a : AV} {n : Nat} (h : lenOfA P s t a = some n) : lenOfA P s' t a = some n := by
  unfold lenOfA at h ⊢
  split at h
  · exact h
  · split at h
    · exact h
    · exact h
    · exact h
    · split at h
      · rename_i xs hx
        simp only [elems_ext hS hx]; exact h
      · cases h
    · cases h
  · exact h
  · exact h
  · cases h
theorem sliceA_ext {lo hi mx : Option Operand} (h1 : ∀ y, lo = some y → evalO s' y = evalO s y) (h2 : ∀ y, hi = some y → evalO s' y = evalO s y) (h3 : ∀ y, mx = some y → evalO s' y = evalO s y) {t : TypeId} {a v : AV} (h : sliceA P s t a lo hi mx = some v) : sliceA P s' t a lo hi mx = some v := by
  have e1 := boundA_dep (s := s) (s' := s') h1
  have e2 := boundA_dep (s := s) (s' := s') h2
  have e3 := boundA_dep (s := s) (s' := s') h3
  cases mx with
  | none =>
    simp only [sliceA, e1, e2] at h ⊢
    split at h
    · exact h
    · split at h
      · cases h
      · split at h
        · exact h
        · split at h
          · rename_i hc
            rw [if_pos hc]
            split at h
            · rename_i xs hh hx hbd
              simp only [elems_ext hS hx, hbd]; exact h
            · cases h
          · cases h
        · exact h
        · exact h
        · cases h
    · cases h
  | some m => cases hi with
    | none =>
      simp only [sliceA] at h ⊢
      exact h
    | some hh =>
      simp only [sliceA, e1, e2, e3] at h ⊢
      split at h
      · exact h
      · split at h
        · cases h
        · split at h
          · exact h
          · exact h
          · exact h
          · split at h
            · rename_i hc
              rw [if_pos hc]
              split at h
              · rename_i xs mm hx hbd
                simp only [elems_ext hS hx, hbd]; exact h
              · cases h
            · cases h
          · cases h
      · cases h
end

theorem setFz_ext (s : St) (i k : Nat) : SExt s.stores (s.setFz i k).stores := by
  unfold St.setFz
  split
  · rename_i fz e xs hg
    intro i' k' o ho
    rw [getOb_set]
    by_cases hc : i' = i ∧ k' = k
    · rw [if_pos hc, hg]
      obtain ⟨rfl, rfl⟩ := hc
      rw [hg] at ho
      simp only [Option.some.injEq] at ho; subst ho
      exact ⟨_, rfl, .inr ⟨fz, true, e, xs, rfl, rfl⟩⟩
    · rw [if_neg hc]
      exact ⟨o, ho, .inl rfl⟩
  · exact SExt.refl _
theorem resolve1_ext {s s1 : St} {a b : AV} (h : resolve1 s a = some (s1, b)) : SExt s.stores s1.stores := by
  unfold resolve1 at h
  split at h
  · split at h
    · simp only [Option.some.injEq, Prod.mk.injEq] at h
      obtain ⟨rfl, _⟩ := h
      exact setFz_ext _ _ _
    · cases h
  all_goals first
    | (simp only [Option.some.injEq, Prod.mk.injEq] at h; obtain ⟨rfl, _⟩ := h; exact SExt.refl _)
    | cases h
theorem resolveL_ext : ∀ {l m : List AV} {s s1 : St}, resolveL s l = some (s1, m) → SExt s.stores s1.stores
  | [], m, s, s1, h => by
    simp only [resolveL, Option.some.injEq, Prod.mk.injEq] at h
    obtain ⟨rfl, _⟩ := h; exact SExt.refl _
  | a :: r, m, s, s1, h => by
    simp only [resolveL] at h
    split at h
    · rename_i s2 b h1
      split at h
      · rename_i s3 q h2
        simp only [Option.some.injEq, Prod.mk.injEq] at h
        obtain ⟨rfl, _⟩ := h
        exact (resolve1_ext h1).trans (resolveL_ext h2)
      · cases h
    · cases h
theorem resolve_ext {s s1 : St} {a b : AV} (h : resolve s a = some (s1, b)) : SExt s.stores s1.stores := by
  unfold resolve at h
  split at h
  · split at h
    · rename_i s2 l h1
      simp only [Option.some.injEq, Prod.mk.injEq] at h
      obtain ⟨rfl, _⟩ := h
      exact resolveL_ext h1
    · cases h
  · exact resolve1_ext h
theorem resolveAll_ext : ∀ {l m : List AV} {s s1 : St}, resolveAll s l = some (s1, m) → SExt s.stores s1.stores
  | [], m, s, s1, h => by
    simp only [resolveAll, Option.some.injEq, Prod.mk.injEq] at h
    obtain ⟨rfl, _⟩ := h; exact SExt.refl _
  | a :: r, m, s, s1, h => by
    simp only [resolveAll] at h
    split at h
    · rename_i s2 b h1
      split at h
      · rename_i s3 q h2
        simp only [Option.some.injEq, Prod.mk.injEq] at h
        obtain ⟨rfl, _⟩ := h
        exact (resolve_ext h1).trans (resolveAll_ext h2)
      · cases h
    · cases h

section
variable {P : Program} {E : Env} {s s' : St}
theorem newOf_ext {o : Oper} {s1 : St} {ob : Ob} (h : newOf P s o = some (s1, ob)) : SExt s.stores s1.stores := by
  have self : ∀ {x : Option Ob}, x.map (fun ob => (s, ob)) = some (s1, ob) → SExt s.stores s1.stores := by
    intro x h
    obtain ⟨q, _, he⟩ := Option.map_eq_some_iff.1 h
    simp only [Prod.mk.injEq] at he
    rw [he.1]; exact SExt.refl _
  have self2 : ∀ {x : Option (TypeId × List AV)}, x.map (fun q => (s, Ob.arr false q.1 q.2)) = some (s1, ob) → SExt s.stores s1.stores := by
    intro x h
    obtain ⟨q, _, he⟩ := Option.map_eq_some_iff.1 h
    simp only [Prod.mk.injEq] at he
    rw [he.1]; exact SExt.refl _
  unfold newOf at h
  split at h
  · split at h
    · exact self h
    · cases h
  · split at h
    · exact self h
    · cases h
  · split at h
    · rename_i l hl
      obtain ⟨q, hb, he⟩ := Option.map_eq_some_iff.1 h
      obtain ⟨q1, q2, q3⟩ := q
      simp only [Prod.mk.injEq] at he
      obtain ⟨rfl, _⟩ := he
      obtain ⟨_, vs, h2⟩ := buildSliceO_fresh (d := none) hb
      exact resolveAll_ext h2
    · cases h
  · split at h
    · exact self2 h
    · cases h
  · split at h
    · split at h
      · split at h
        · exact self2 h
        · exact self2 h
        · cases h
      · cases h
    · cases h
  · cases h

theorem newly_ext {d : Option Nat} {S S1 S2 : List Store} {ob : Ob} {v : AV} (h0 : SExt S S1) (h : newly d S S1 ob = some (S2, v)) : SExt S S2 := by
  unfold newly at h
  split at h
  · rename_i t t1 d
    split at h
    · rename_i hc
      simp only [Option.some.injEq, Prod.mk.injEq] at h
      obtain ⟨rfl, _⟩ := h
      refine h0.trans fun i k o ho => ?_
      cases i with
      | succ i => cases ho
      | zero =>
        refine ⟨o, ?_, .inl rfl⟩
        have hn := hc.2.1
        simp only [Option.isNone_iff_eq_none] at hn
        have hk : nextN t1 ≠ k := fun e => by
          have ho : look t1 k = some o := ho
          rw [← e, hn] at ho; cases ho
        show look ((nextN t1, ob) :: t1) k = some o
        simp only [look, if_neg hk]; exact ho
    · cases h
  · cases h

theorem alloc_ext {rec : Rec} {o : Oper} (ha : allocK E o = true) {S : List Store} {v : AV} (h : soloF P E rec s o = some (S, v)) : SExt s.stores S := by
  unfold soloF at h
  unfold allocK at ha
  cases ho : o.op with
  | alloc => rw [ho] at h; simp only at h; split at h; exact newly_ext (newOf_ext (by assumption)) h; cases h
  | box => rw [ho] at h; simp only at h; split at h; exact newly_ext (newOf_ext (by assumption)) h; cases h
  | buildSlice => rw [ho] at h; simp only at h; split at h; exact newly_ext (newOf_ext (by assumption)) h; cases h
  | makeSlice => rw [ho] at h; simp only at h; split at h; exact newly_ext (newOf_ext (by assumption)) h; cases h
  | _ => rw [ho] at ha; simp at ha

theorem read_ext {q : Rec} {o : Oper} (hr : readK E o = true) (hS : SExt s.stores s'.stores) (hx : ∀ x, x ∈ o.op.operands.toList → evalO s' x = evalO s x) {v : AV} (h : quietF P E q s o.op = some v) : quietF P E q s' o.op = some v := by
  unfold readK at hr
  cases ho : o.op with
  | load t x =>
    rw [ho] at h hx
    have h1 := hx x (by simp [Op.operands])
    simp only [quietF, loadF, h1] at h ⊢
    split at h
    · exact loadA_ext hS h
    · cases h
  | indexAddr t x y =>
    rw [ho] at h hx
    have h1 := hx x (by simp [Op.operands])
    have h2 := hx y (by simp [Op.operands])
    simp only [quietF, indexAddrF, h1, h2] at h ⊢
    split at h
    · exact indexAddrA_ext hS h
    · cases h
  | index t x y =>
    rw [ho] at h hx
    have h1 := hx x (by simp [Op.operands])
    have h2 := hx y (by simp [Op.operands])
    simp only [quietF, indexF, h1, h2] at h ⊢
    exact h
  | slice t x lo hi mx =>
    rw [ho] at h hx
    have h1 := hx x (by simp [Op.operands])
    simp only [quietF, h1] at h ⊢
    split at h
    · exact sliceA_ext hS (fun y h => hx y (by subst h; simp [Op.operands])) (fun y h => hx y (by subst h; simp [Op.operands])) (fun y h => hx y (by subst h; simp [Op.operands])) h
    · cases h
  | binOp op t x y p =>
    rw [ho] at h hx
    have h1 := hx x (by simp [Op.operands])
    have h2 := hx y (by simp [Op.operands])
    simp only [quietF, h1, h2] at h ⊢
    split at h
    · exact binA_ext hS h
    · cases h
  | unOp op t x =>
    rw [ho] at h hx
    have h1 := hx x (by simp [Op.operands])
    simp only [quietF, h1] at h ⊢
    exact h
  | convert src dst x =>
    rw [ho] at h hx
    have h1 := hx x (by simp [Op.operands])
    simp only [quietF, h1] at h ⊢
    split at h
    · exact convA_ext hS h
    · cases h
  | call c =>
    rw [ho] at h hx hr
    have ha : evalOs s' c.args.toList = evalOs s c.args.toList := evalOs_dep fun x hm => hx x (by
      simp only [Op.operands, Call.operands]
      first | (simp; simp at hm; exact .inr hm) | (simp; simp at hm; exact hm) | skip)
    simp only [quietF, ha] at h ⊢
    simp only [Bool.and_eq_true] at hr
    split at hr
    · rename_i hc
      rw [hc] at h ⊢
      simp only at h ⊢
      split at h
      · unfold biF at h ⊢
        simp only at h ⊢
        split at h
        · split at h
          · rename_i hl
            rw [lenOfA_ext hS hl]; exact h
          · cases h
        · cases h
      · cases h
    · simp at hr
  | _ => rw [ho] at hr; simp at hr
end

section
variable {ops : Array Oper} {st : Oper → St → Option St}
/-- What is looked at stays, whatever new objects come. -/
def DepR (st : Oper → St → Option St) (ops : Array Oper) (o : Oper) : Prop :=
  ∀ (s s1 : St), st o s = some s1 → ∃ v, s1 = s.put o.dst v ∧ ∀ s' : St, SExt s.stores s'.stores → (∀ t, t ∈ o.looksAt ops → s'.get t = s.get t) → st o s' = some (s'.put o.dst v)
/-- A new object, nothing else. -/
def DepA (st : Oper → St → Option St) (ops : Array Oper) (o : Oper) : Prop :=
  ∀ (s s1 : St), st o s = some s1 → ∃ S v, s1 = St.put { s with stores := S } o.dst v ∧ SExt s.stores S ∧ ∀ s' : St, s'.stores = s.stores → (∀ t, t ∈ o.looksAt ops → s'.get t = s.get t) → st o s' = some (St.put { s' with stores := S } o.dst v)
theorem ab_depR {i : Nat} {o : Oper} (hi : ops[i]? = some o) (h : DepR st ops o) (s s1 : St) (h1 : ab st ops i s = some s1) :
    ∃ v, s1 = s.put o.dst v ∧ ∀ s' : St, SExt s.stores s'.stores → (∀ t, t ∈ o.looksAt ops → s'.get t = s.get t) → ab st ops i s' = some (s'.put o.dst v) := by
  simp only [ab, hi] at h1 ⊢
  cases hg : guardA ops s o.guard with
  | none => rw [hg] at h1; cases h1
  | some b =>
    rw [hg] at h1
    cases b with
    | false =>
      simp only [Option.some.injEq] at h1
      exact ⟨.und, h1.symm, fun s' _ hl => by rw [guard_dep hl, hg]⟩
    | true =>
      obtain ⟨v, hv, hr⟩ := h s s1 h1
      exact ⟨v, hv, fun s' hS hl => by rw [guard_dep hl, hg]; exact hr s' hS hl⟩
theorem ab_depA {i : Nat} {o : Oper} (hi : ops[i]? = some o) (h : DepA st ops o) (s s1 : St) (h1 : ab st ops i s = some s1) :
    ∃ S v, s1 = St.put { s with stores := S } o.dst v ∧ SExt s.stores S ∧ ∀ s' : St, s'.stores = s.stores → (∀ t, t ∈ o.looksAt ops → s'.get t = s.get t) → ab st ops i s' = some (St.put { s' with stores := S } o.dst v) := by
  simp only [ab, hi] at h1 ⊢
  cases hg : guardA ops s o.guard with
  | none => rw [hg] at h1; cases h1
  | some b =>
    rw [hg] at h1
    cases b with
    | false =>
      simp only [Option.some.injEq] at h1
      refine ⟨s.stores, .und, h1.symm, SExt.refl _, fun s' hs hl => ?_⟩
      rw [guard_dep hl, hg]
      have : ({ s' with stores := s.stores } : St) = s' := by rw [← hs]
      rw [this]
    | true =>
      obtain ⟨S, v, hv, hx, hr⟩ := h s s1 h1
      exact ⟨S, v, hv, hx, fun s' hs hl => by rw [guard_dep hl, hg]; exact hr s' hs hl⟩
theorem comm_RA {i j : Nat} {x y : Oper} (hi : ops[i]? = some x) (hj : ops[j]? = some y) (hx : DepR st ops x) (hy : DepA st ops y) (hap : Oper.apart ops x y = true) : Comm (ab st ops) i j := by
  intro s si sij h1 h2
  obtain ⟨p1, p2, p3⟩ := Oper.apart_spec hap
  obtain ⟨v, rfl, hv⟩ := ab_depR hi hx s si h1
  obtain ⟨S, u, rfl, hS, hu⟩ := ab_depA hj hy _ sij h2
  rw [put_stores] at hS
  refine ⟨St.put { s with stores := S } y.dst u, hu s (put_stores _ _ _).symm fun t ht => (get_put fun hd => p1 t hd ht).symm, ?_⟩
  rw [hv (St.put { s with stores := S } y.dst u) (by rw [put_stores]; exact hS) fun t ht => get_put (s := { s with stores := S }) (v := u) fun hd => p3 t hd ht]
  rw [put_with, put_comm fun k hk => p2 k hk]
end

section
variable {P : Program} {E : Env} {s s' : St}
/-- **Every order does the same**, where the check says so. -/
theorem drawH_ok {ops : Array Oper} (h : drawH E ops = true) (q rec : Rec) (s s1 : St) (t : Nat) (hr : opsA (fun o s => drawOpH P E q rec s o) ops (List.range ops.size) s = some s1) :
    opsA (fun o s => drawOpH P E q rec s o) ops (Region.schedule true ops t) s = some s1 := by
  have hsch : Region.schedule true ops t = Region.linearise.go .any ops ops.size t (Array.replicate ops.size false) [] := by simp [Region.schedule, Region.linearise]
  rw [hsch]
  refine AnyA.sound _ _ _ _ _ (AnyA.lexMC (cm := commH E ops) (fun i j hc => ?_) h ops.size 0 _ s s1 (by omega) (by simp) (fun j hj => by simp [Array.getD, hj]) (by rw [← List.range_eq_range']; exact hr))
  unfold commH at hc
  split at hc
  · rename_i x y hi hj
    simp only [Bool.and_eq_true, Bool.not_eq_true', Bool.or_eq_true] at hc
    obtain ⟨hap, hc⟩ := hc
    have pu : ∀ {o : Oper}, pureK E o = true → DepP (fun o s => drawOpH P E q rec s o) ops o := by
      intro o ho s s1 h
      have hns : E.solo o = false := by
        simp only [pureK, Bool.and_eq_true, Bool.not_eq_true'] at ho; exact ho.1
      simp only [drawOpH, hns, Bool.false_eq_true, if_false, ho, if_true] at h
      obtain ⟨v, hv, rfl⟩ := Option.map_eq_some_iff.1 h
      refine ⟨v, rfl, fun s' hl => ?_⟩
      simp only [drawOpH, hns, Bool.false_eq_true, if_false, ho, if_true]
      rw [pureF_dep fun x hx => evalO_dep hl hx, hv]; rfl
    have dep : ∀ {o : Oper}, E.solo o = false → Dep (fun o s => drawOpH P E q rec s o) ops o := by
      intro o ho s s1 h
      by_cases hp : pureK E o = true
      · obtain ⟨v, hv, hq⟩ := pu hp s s1 h
        exact ⟨v, hv, fun s' _ hl => hq s' hl⟩
      · have hp : pureK E o = false := by simpa using hp
        simp only [drawOpH, ho, Bool.false_eq_true, if_false, hp] at h
        obtain ⟨v, hv, hq⟩ := quiet_dep (ops := ops) s s1 h
        exact ⟨v, hv, fun s' hs hl => by simp only [drawOpH, ho, Bool.false_eq_true, if_false, hp]; exact hq s' hs hl⟩
    have so : ∀ {o : Oper}, crossK E o = true → DepS (fun o s => drawOpH P E q rec s o) ops o := by
      intro o ho s s1 h
      have hns : E.solo o = true := by
        simp only [crossK, Bool.and_eq_true] at ho; exact ho.1
      simp only [drawOpH, hns, if_true, ho] at h
      obtain ⟨z, hz, rfl⟩ := Option.map_eq_some_iff.1 h
      refine ⟨z.1, z.2, rfl, fun s' hs hl => ?_⟩
      simp only [drawOpH, hns, if_true, ho]
      rw [soloF_dep hs fun x hx => evalO_dep hl hx, hz]; rfl
    have rd : ∀ {o : Oper}, readK E o = true → DepR (fun o s => drawOpH P E q rec s o) ops o := by
      intro o ho s s1 h
      have hns : E.solo o = false := by
        simp only [readK, Bool.and_eq_true, Bool.not_eq_true'] at ho; exact ho.1
      have hnp : pureK E o = false := by
        unfold readK at ho
        unfold pureK
        cases hop : o.op <;> rw [hop] at ho <;> simp_all
      simp only [drawOpH, hns, Bool.false_eq_true, if_false, hnp] at h
      rw [quiet_eq] at h
      obtain ⟨v, hv, rfl⟩ := Option.map_eq_some_iff.1 h
      refine ⟨v, rfl, fun s' hS hl => ?_⟩
      simp only [drawOpH, hns, Bool.false_eq_true, if_false, hnp]
      rw [quiet_eq, read_ext ho hS (fun x hx => evalO_dep hl hx) hv]; rfl
    have al : ∀ {o : Oper}, allocK E o = true → DepA (fun o s => drawOpH P E q rec s o) ops o := by
      intro o ho s s1 h
      have hc : crossK E o = true := by
        unfold allocK at ho
        unfold crossK
        cases hop : o.op <;> rw [hop] at ho <;> simp_all
      have hns : E.solo o = true := by
        simp only [crossK, Bool.and_eq_true] at hc; exact hc.1
      simp only [drawOpH, hns, if_true, hc] at h
      obtain ⟨z, hz, rfl⟩ := Option.map_eq_some_iff.1 h
      refine ⟨z.1, z.2, rfl, alloc_ext ho hz, fun s' hs hl => ?_⟩
      simp only [drawOpH, hns, if_true, hc]
      rw [soloF_dep hs fun x hx => evalO_dep hl hx, hz]; rfl
    rcases hc with ((hc | hc) | hc) | hc
    · exact comm_of_dep hi hj (dep hc.1) (dep hc.2) hap
    · exact comm_SP hi hj (so hc.1) (pu hc.2) hap
    · exact comm_PS hi hj (pu hc.1) (so hc.2) hap
    · exact comm_RA hi hj (rd hc.1) (al hc.2) hap
  · cases hc
end
end Go.AbsM

/-! ## AbsHRun -/
/-
  The heap machine: calls, regions, code by fuel; closed functions.
-/
set_option linter.unusedVariables false
set_option linter.unusedSimpArgs false
namespace Go.AbsM

section
variable {P : Program} {w w' : World} {g : Gh} {may : Nat → Prop} {s s' : St} {a : Act} {E : Env}

/-- The contract of a call in the one store. -/
def CallHC (P : Program) (f : FuncId) (args : List AV) (t t' : Store) (r : AV) : Prop :=
  ∀ (may : Nat → Prop) (w : World) (g : Gh) (vs : List Value), SInv P w g may [t] → (∀ b, w.heap.size ≤ b → may b) → vs.length = args.length →
    (∀ (i : Nat) (x : AV) (v : Value), args[i]? = some x → vs[i]? = some v → HRep P w g [t] x v) →
    Calls P f vs.toArray w fun e w' => ∃ v g', e = .returned v ∧ Fr may w g.M w' g'.M ∧ SInv P w' g' may [t'] ∧ Kp 0 [t] g [t'] g' ∧ HRep P w' g' [t'] r v

theorem enterH_sim {fn : Func} {args : List AV} {t : Store} {vs : List Value} (hi : SInv P w g may [t]) (hl : vs.length = args.length)
    (hr : ∀ (i : Nat) (x : AV) (v : Value), args[i]? = some x → vs[i]? = some v → HRep P w g [t] x v) :
    Sim P may (enterH fn args t) { tmps := vs.toArray ++ Array.replicate (fn.ntmps - vs.toArray.size) undef, defers := [] } w g := by
  refine ⟨hi, ?_, fun m x hx => ?_, rfl, by simp [enterH]⟩
  · simp [enterH, hl]
  · simp only [enterH] at hx
    rw [List.getElem?_append] at hx
    split at hx
    · rename_i hlt
      have hv : vs[m]? = some (vs[m]'(by omega)) := List.getElem?_eq_getElem _
      have : (vs.toArray ++ Array.replicate (fn.ntmps - vs.toArray.size) undef).getD m undef = vs[m]'(by omega) := by
        rw [Array.getD_eq_getD_getElem?, Array.getElem?_append_left (by simp; omega)]
        simp [hl, hlt]
      rw [this]
      exact hr m x _ hx hv
    · rename_i hge
      rw [List.getElem?_replicate] at hx
      split at hx
      · rename_i hlt
        simp only [Option.some.injEq] at hx; subst hx
        show _ = undef
        rw [Array.getD_eq_getD_getElem?, Array.getElem?_append_right (by simp; omega)]
        simp only [List.size_toArray]
        rw [Array.getElem?_replicate, if_pos (by omega)]
        rfl
      · cases hx

theorem look_mem {t : Store} {k : Nat} {o : Ob} (h : look t k = some o) : (k, o) ∈ t := by
  induction t with
  | nil => cases h
  | cons p r ih =>
    obtain ⟨j, q⟩ := p
    simp only [look] at h
    split at h
    · rename_i hk
      simp only [Option.some.injEq] at h; subst h; subst hk; exact List.mem_cons_self
    · exact List.mem_cons_of_mem _ (ih h)

theorem Kp.up {t t' : Store} {g' : Gh} (ht : t.all (fun p => Nat.ble 500000 p.1) = true) (h : Kp 1 [t] g [t'] g') : Kp 0 [t] g [t'] g' := by
  have key : ∀ i k o, getOb [t] i k = some o → 1 ≤ i ∨ 500000 ≤ k := by
    intro i k o hg
    cases i with
    | succ i => exact .inl (by omega)
    | zero =>
      have := List.all_eq_true.1 ht _ (look_mem (show look t k = some o from hg))
      exact .inr (Nat.le_of_ble_eq_true this)
  exact ⟨fun i k cs _ hg => h.box i k cs (key i k _ hg) hg, fun i k fz e xs _ hg => h.arr i k fz e xs (key i k _ hg) hg⟩

theorem HRep1.of_h {S : List Store} {x : AV} {v : Value} (h : HRep P w g S x v) (hx : x.isTup = false) : HRep1 P w g S x v := by
  cases x <;> first | exact h | cases hx

theorem bodyH_sound {f : FuncId} {fn : Func} {c : Code} {args : List AV} {t t' : Store} {e : AExit} {s1 : St} {l : List AV} (hf : P.funcs[f]? = some fn) (hb : fn.body = some c) (hc : CodeOk P c (enterH fn args t) e s1)
    (ht : t.all (fun p => Nat.ble 500000 p.1) = true) (he : e = .ret ∨ e = .normal) (hl : resultAll P s1 fn.results.toList = some l) (hst : s1.stores = [t']) (hlt : l.all (fun a => !a.isTup) = true) : CallHC P f args t t' (oneOf l) := by
  intro may w g vs hi hm hlen hargs
  refine calls_of_wp hf hb (wp_mono (hc may _ w _ (enterH_sim hi hlen hargs) hm) fun x a' w' ⟨hx, g1, h1, h2, h3⟩ => ?_)
  have fin : a'.defers = [] ∧ ∃ v, (results fn a'.tmps).run P w' = .ok v w' ∧ (∃ v' g', Ending.returned v = Ending.returned v' ∧ Fr may w g.M w' g'.M ∧ SInv P w' g' may [t'] ∧ Kp 0 [t] g [t'] g' ∧ HRep P w' g' [t'] (oneOf l) v') := by
    refine ⟨h1.defers, ?_⟩
    obtain ⟨us, hrun, hus⟩ := resultAll_sound (f := (fun | .tmp t => pure (a'.tmps.getD t undef) | .cell c t => do loadVar t (← asAddr (a'.tmps.getD c undef)) : ResultVar → Sem Value)) h1 (fun _ => rfl) (fun _ _ => rfl) hl
    rw [hst] at hus
    refine ⟨_, results_run (fun _ => rfl) (fun _ _ => rfl) hrun, _, g1, rfl, h2, ?_, ?_, ?_⟩
    · have := h1.inv; rw [hst] at this; exact this
    · rw [hst] at h3; exact Kp.up ht h3
    · have all : ∀ (i : Nat) (c : AV) (u : Value), l[i]? = some c → us[i]? = some u → HRep1 P w' g1 [t'] c u := fun i c u hc hu => HRep1.of_h (hus.2 i c u hc hu) (by simpa using List.all_eq_true.1 hlt c (List.mem_of_getElem? hc))
      match l, us, hus.1, all with
      | [], [], _, all => exact ⟨[], rfl, rfl, all⟩
      | [y], [u], _, all => exact hus.2 0 y u rfl rfl
      | y :: y' :: ys, u :: u' :: us, hlen, all => exact ⟨u :: u' :: us, rfl, hlen, all⟩
  rcases he with rfl | rfl
  · subst hx; exact fin
  · subst hx; exact fin

theorem callH_sound (hE : EnvOk P E) {rec : Rec} (hrec : RecOk P rec) {f : FuncId} {args : List AV} {t t' : Store} {r : AV} (h : callH P E rec f args t = some (t', r)) :
    (∃ fn c, P.funcs[f]? = some fn ∧ fn.body = some c ∧ (fn.name == "runtime.NumGoroutine") = false) ∧ CallHC P f args t t' r := by
  unfold callH at h
  split at h
  · rename_i fn hfn
    obtain ⟨hf, hname⟩ := hE.fn _ _ hfn
    split at h
    · rename_i c hc
      split at h
      · rename_i ht
        split at h
        · rename_i e s hb
          split at h
          · rename_i he
            split at h
            · rename_i l hl
              split at h
              · rename_i t2 hst
                split at h
                · rename_i hlt
                  simp only [Option.some.injEq, Prod.mk.injEq] at h
                  obtain ⟨rfl, rfl⟩ := h
                  exact ⟨⟨fn, c, hf, hc, hname⟩, bodyH_sound hf hc (hrec.code hb) ht he hl hst hlt⟩
                · cases h
              · cases h
            · cases h
          · cases h
        · cases h
      · cases h
    · cases h
  · cases h

theorem stepOpH_wp (hE : EnvOk P E) {q rec : Rec} (hq : RecOk P q) (hrec : RecOk P rec) {o : Oper} (h : stepOpH P E q rec s o = some s') : OpWp P o s s' := by
  unfold stepOpH at h
  split at h
  · rename_i c ho
    split at h
    · rename_i f hc
      split at h
      · exact quietA_wp hE hq h
      split at h
      · rename_i as has
        split at h
        · rename_i t hst
          split at h
          · rename_i t' r hcall
            simp only [Option.some.injEq] at h; subst h
            obtain ⟨hf, hcc⟩ := callH_sound hE hrec hcall
            intro may a w g hs hm next Q hn
            obtain ⟨vs, hvs, hreps⟩ := evalOs_reps hs has
            refine call_wp ho hc hf ?_
            rw [hvs]
            have hinv := hs.inv
            rw [hst] at hinv
            rw [hst] at hreps
            refine (hcc may w g vs hinv hm hreps.1 hreps.2).mono fun e w' ⟨v, g', he, hF, hI, hK, hR⟩ => ⟨v, he, hn _ _ ?_⟩
            have q1 : Sim P may { s with stores := [t'] } a w' g' := hs.keep hF.sub hF.cell (by rw [hst]; exact hK) hI (by simp)
            refine ⟨g', q1.put hR o.dst, hF, ?_⟩
            rw [put_stores, hst]
            exact hK.mono (by omega)
          · cases h
        · cases h
      · cases h
    · exact opH_wp h
  · exact opH_wp h

theorem drawOpH_wp (hE : EnvOk P E) {q rec : Rec} (hq : RecOk P q) (hrec : RecOk P rec) {o : Oper} (h : drawOpH P E q rec s o = some s') : OpWp P o s s' := by
  unfold drawOpH at h
  split at h
  · split at h
    · obtain ⟨z, hz, rfl⟩ := Option.map_eq_some_iff.1 h
      exact stepOpH_wp hE hq hrec (soloF_step hz)
    · exact stepOpH_wp hE hq hrec h
  · split at h
    · obtain ⟨v, hv, rfl⟩ := Option.map_eq_some_iff.1 h
      refine quietA_wp (E := E) hE hq ?_
      rw [quiet_eq, pureF_quiet hv]; rfl
    · exact quietA_wp hE hq h

/-- One step of the machine over a good one is a good one. -/
theorem stepG_ok {ok : Array Oper → Bool} {so dr : Oper → St → Option St} (hwide : P.follows .mixedOrders = true) (hdraw : ∀ ops, ok ops = true → ∀ (s s1 : St) (t : Nat), opsA dr ops (List.range ops.size) s = some s1 → opsA dr ops (Region.schedule true ops t) s = some s1) {rec : Rec} (hrec : RecOk P rec)
    (hso : ∀ (o : Oper) (s s' : St), so o s = some s' → OpWp P o s s') (hq : ∀ (o : Oper) (s s' : St), dr o s = some s' → OpWp P o s s') : RecOk P (stepG ok so dr rec) := by
  intro t s e s' h may a w g hs hm
  have self : ∀ {a' : Act} {w' : World}, a' = a → w' = w → Leaves P may s w g s a' w' := fun h1 h2 => by subst h1; subst h2; exact .same hs rfl
  unfold stepG at h
  split at h
  · -- skip
    simp only [Option.some.injEq, Prod.mk.injEq] at h; obtain ⟨rfl, rfl⟩ := h
    exact wp_skip ⟨rfl, self rfl rfl⟩
  · simp only [Option.some.injEq, Prod.mk.injEq] at h; obtain ⟨rfl, rfl⟩ := h
    exact wp_label ⟨rfl, self rfl rfl⟩
  · -- region
    rename_i id ops
    split at h
    · rename_i s1 h1
      simp only [Option.some.injEq, Prod.mk.injEq] at h; obtain ⟨rfl, rfl⟩ := h
      exact wp_region (opsA_wp hso hm (fun a' w' hl => ⟨rfl, hl⟩) _ _ _ _ h1 (self rfl rfl))
    · cases h
  · rename_i id ops
    split at h
    · rename_i hok
      split at h
      · rename_i s1 h1
        simp only [Option.some.injEq, Prod.mk.injEq] at h; obtain ⟨rfl, rfl⟩ := h
        refine wp_region_draw fun t => ?_
        rw [hwide]
        have h2 := hdraw ops hok s _ t h1
        have hd : Ext w { w with drawn := w.drawn + 1 } := Ext.drew w
        obtain ⟨q1, q2, q3⟩ := hs.grow hm hd (M' := g.M) (fun b o h => h) (fun b o h hn => absurd h hn)
        exact opsA_wp hq hm (fun a' w' hl => ⟨rfl, hl⟩) _ _ _ _ h2 ⟨_, q1, q2, q3.mono (by omega)⟩
      · cases h
    · cases h
  · -- seq
    rename_i x y
    split at h
    · rename_i s1 h1
      refine wp_seq (wp_mono ((hrec _ _ _ _ h1 may a w g hs hm).code) fun ex a1 w1 ⟨hx, hl⟩ => ?_)
      subst hx
      obtain ⟨g1, k1, k2, k3⟩ := hl
      refine wp_mono ((hrec _ _ _ _ h may a1 w1 g1 k1 fun b hb => hm b (Nat.le_trans k2.size hb)).code) fun ex a2 w2 ⟨hx, hl2⟩ => ⟨hx, ?_⟩
      obtain ⟨g2, q1, q2, q3⟩ := hl2
      exact ⟨g2, q1, k2.trans q2, k3.trans q3⟩
    · rename_i hno
      refine wp_seq (wp_mono ((hrec _ _ _ _ h may a w g hs hm).code) fun ex a1 w1 ⟨hx, hl⟩ => ?_)
      subst hx
      cases e with
      | normal => exact absurd h (hno _)
      | exit id => exact ⟨rfl, hl⟩
      | goto l => exact ⟨rfl, hl⟩
      | ret => exact ⟨rfl, hl⟩
  · -- cond
    rename_i c x y
    split at h
    · rename_i t ht
      have := (hs.evalO ht).inv_x.1
      exact wp_cond this ((hrec _ _ _ _ h may a w g hs hm).code)
    · cases h
  · -- block
    rename_i id c
    split at h
    · rename_i i s1 h1
      refine wp_block (wp_mono ((hrec _ _ _ _ h1 may a w g hs hm).code) fun ex a1 w1 ⟨hx, hl⟩ => ?_)
      subst hx
      simp only [AExit.toExit, Exit.inBlock]
      split at h
      · rename_i hid
        simp only [Option.some.injEq, Prod.mk.injEq] at h; obtain ⟨rfl, rfl⟩ := h
        rw [if_pos hid]; exact ⟨rfl, hl⟩
      · rename_i hid
        simp only [Option.some.injEq, Prod.mk.injEq] at h; obtain ⟨rfl, rfl⟩ := h
        rw [if_neg hid]; exact ⟨rfl, hl⟩
    · rename_i hno
      refine wp_block (wp_mono ((hrec _ _ _ _ h may a w g hs hm).code) fun ex a1 w1 ⟨hx, hl⟩ => ?_)
      subst hx
      cases e with
      | exit id => exact absurd h (hno _ _)
      | normal => exact ⟨rfl, hl⟩
      | goto l => exact ⟨rfl, hl⟩
      | ret => exact ⟨rfl, hl⟩
  · -- loop
    rename_i c
    split at h
    · rename_i s1 h1
      intro b k cs
      obtain ⟨ex, a1, w1, ⟨hx, hl⟩, harr⟩ := (hrec _ _ _ _ h1 may a w g hs hm).code b (.inLoop c :: k) cs
      subst hx
      obtain ⟨g1, k1, k2, k3⟩ := hl
      obtain ⟨ex, a2, w2, ⟨hx, hl2⟩, harr2⟩ := hrec _ _ _ _ h may a1 w1 g1 k1 (fun b hb => hm b (Nat.le_trans k2.size hb)) b k cs
      obtain ⟨g2, q1, q2, q3⟩ := hl2
      exact ⟨ex, a2, w2, ⟨hx, g2, q1, k2.trans q2, k3.trans q3⟩, .of_steps (Steps.trans harr (.one step_inLoop)) harr2⟩
    · rename_i hno
      intro b k cs
      obtain ⟨ex, a1, w1, ⟨hx, hl⟩, harr⟩ := (hrec _ _ _ _ h may a w g hs hm).code b (.inLoop c :: k) cs
      subst hx
      cases e with
      | normal => exact absurd h (hno _)
      | exit id => exact ⟨_, a1, w1, ⟨rfl, hl⟩, .pass (x := .inLoop c) rfl (fun _ _ => .inl (by simp [AExit.toExit])) harr⟩
      | goto l => exact ⟨_, a1, w1, ⟨rfl, hl⟩, .pass (x := .inLoop c) rfl (fun _ _ => .inl (by simp [AExit.toExit])) harr⟩
      | ret => exact ⟨_, a1, w1, ⟨rfl, hl⟩, .pass (x := .inLoop c) rfl (fun _ _ => .inl (by simp [AExit.toExit])) harr⟩
  · simp only [Option.some.injEq, Prod.mk.injEq] at h; obtain ⟨rfl, rfl⟩ := h
    exact wp_exit ⟨rfl, self rfl rfl⟩
  · simp only [Option.some.injEq, Prod.mk.injEq] at h; obtain ⟨rfl, rfl⟩ := h
    exact wp_goto ⟨rfl, self rfl rfl⟩
  · simp only [Option.some.injEq, Prod.mk.injEq] at h; obtain ⟨rfl, rfl⟩ := h
    exact wp_ret ⟨rfl, self rfl rfl⟩
  · -- scope
    rename_i c
    intro b k cs
    obtain ⟨ex, a1, w1, hq, harr⟩ := hrec _ _ _ _ h may a w g hs hm b k cs
    exact ⟨ex, a1, w1, hq, .of_steps (.one step_scope) harr⟩
  · -- within
    rename_i c rest
    split at h
    · rename_i l s1 h1
      intro b k cs
      obtain ⟨ex, a1, w1, ⟨hx, hl⟩, harr⟩ := (hrec _ _ _ _ h1 may a w g hs hm).code b (.inScope c :: k) cs
      subst hx
      split at h
      · rename_i rest1 hf
        obtain ⟨g1, k1, k2, k3⟩ := hl
        obtain ⟨ex, a2, w2, ⟨hx, hl2⟩, harr2⟩ := hrec _ _ _ _ h may a1 w1 g1 k1 (fun b hb => hm b (Nat.le_trans k2.size hb)) b k cs
        obtain ⟨g2, q1, q2, q3⟩ := hl2
        exact ⟨ex, a2, w2, ⟨hx, g2, q1, k2.trans q2, k3.trans q3⟩, .of_steps (harr _ (gotoIn_scope hf)) harr2⟩
      · rename_i hf
        simp only [Option.some.injEq, Prod.mk.injEq] at h; obtain ⟨rfl, rfl⟩ := h
        exact ⟨_, a1, w1, ⟨rfl, hl⟩, fun k' hk => harr k' (by simp [gotoIn, hf, hk])⟩
    · rename_i hno
      intro b k cs
      obtain ⟨ex, a1, w1, ⟨hx, hl⟩, harr⟩ := (hrec _ _ _ _ h may a w g hs hm).code b (.inScope c :: k) cs
      subst hx
      cases e with
      | normal => exact ⟨_, a1, w1, ⟨rfl, hl⟩, Steps.trans harr (.one step_inScope)⟩
      | exit id => exact ⟨_, a1, w1, ⟨rfl, hl⟩, fun k' hk => harr k' (by simp [exitTo, hk])⟩
      | goto l => exact absurd h (hno _ _)
      | ret => exact ⟨_, a1, w1, ⟨rfl, hl⟩, harr⟩
  · cases h
  · cases h
/-- The heap machine, by fuel; q: fuel of the quiet calls. -/
def runH (P : Program) (E : Env) (q : Nat) : Nat → Rec
  | 0 => fun _ _ => none
  | n + 1 => stepG (drawH E) (fun o s => stepOpH P E (runN P E q) (runH P E q n) s o) (fun o s => drawOpH P E (runN P E q) (runH P E q n) s o) (runH P E q n)

/-- **Fuel**: every run of the heap machine is a good one. -/
theorem runH_ok (hE : EnvOk P E) (q : Nat) : ∀ n, RecOk P (runH P E q n)
  | 0 => fun t s e s' h => by simp [runH] at h
  | n + 1 => stepG_ok hE.wide (fun ops h s s1 t hr => drawH_ok h _ _ s s1 t hr) (runH_ok hE q n) (fun o s s' h => stepOpH_wp hE (runN_ok hE q) (runH_ok hE q n) h) fun o s s' h => drawOpH_wp hE (runN_ok hE q) (runH_ok hE q n) h

/-- With some calls named solo, and some called by what is known of them. -/
def envH (P : Program) (heapy gam : FuncId → Bool) (Γ : FuncId → List AV → Option AV) : Env :=
  let so : Oper → Bool := fun o => soloK o || (match o.op with
    | .call c => match c.callee with
      | .value (.func f) => heapy f
      | _ => false
    | _ => false)
  { Φ := phi P, Γ := Γ, Δ := fun _ _ _ => none, lend := fun f i => match Nat.beq i 999 with
      | true => gam f
      | false => false, solo := so, ok := fun ops => drawM so ops }
/-- What is known holds. -/
def GamOk (P : Program) (Γ : FuncId → List AV → Option AV) : Prop := ∀ f args r, Γ f args = some r → (∃ fn c, P.funcs[f]? = some fn ∧ fn.body = some c ∧ (fn.name == "runtime.NumGoroutine") = false) ∧ ∀ S, CallC P f args S S r
theorem GamOk.none : GamOk P (fun _ _ => none) := fun f args r h => by cases h
theorem envH_ok (P : Program) (heapy gam : FuncId → Bool) {Γ : FuncId → List AV → Option AV} (hΓ : GamOk P Γ) (hw : P.follows .mixedOrders = true) : EnvOk P (envH P heapy gam Γ) where
  fn := (envN_ok P (fun _ _ => false) hw).fn
  ga := hΓ
  de := fun f args S S2 r h => by cases h
  wide := hw
  draw := fun ops h rec s s1 t hr => draw_okM (E := envH P heapy gam Γ) h rec s s1 t hr

theorem CallHC.toC {f : FuncId} {t' : Store} {v0 : Value} (h : CallHC P f [] [] t' (.x v0)) : CallC P f [] [] [] (.x v0) := by
  intro may w g vs hi hm hl ha
  have hi0 : SInv P w g may [[]] := ⟨(fun i k cs h => by cases i <;> cases h), (fun i k e xs h => by cases i <;> cases h), (fun i k e xs h => by cases i <;> cases h), (fun i k o i' k' o' h => by cases i <;> cases h), hi.mlt⟩
  refine (h may w g vs hi0 hm hl (fun i x v hx => by simp at hx)).mono fun e w' ⟨v, g', he, hF, hI, _, hR⟩ => ⟨v, g', he, hF, ?_, ?_, 0, ?_⟩
  · exact ⟨(fun i k cs h => by cases h), (fun i k e xs h => by cases h), (fun i k e xs h => by cases h), (fun i k o i' k' o' h => by cases h), hI.mlt⟩
  · exact ⟨(fun i k cs _ h => by cases h), (fun i k fz e xs _ h => by cases h)⟩
  · have hr : Rep P w' g'.M (.x v0) v := hR
    exact hr

def isTrueA : Option (Store × AV) → Bool
  | some (_, .x (.bool true)) => true
  | _ => false
/-- **A closed function that answers true**, by the heap machine. -/
theorem good_closedH {f : FuncId} {fn : Func} {heapy gam : FuncId → Bool} {Γ : FuncId → List AV → Option AV} {q n : Nat} (hw : P.follows .mixedOrders = true) (hf : Fits P f [] fn) (hΓ : GamOk P Γ)
    (h : isTrueA (callH P (envH P heapy gam Γ) (runH P (envH P heapy gam Γ) q n) f [] []) = true) : GoodC P (trueC f) where
  there := ⟨fn, bodyOf fn, hf.there, body_some hf.body, hf.name⟩
  cells := fun e t hm => by cases hm
  call := fun d _ S => by
    unfold isTrueA at h
    split at h
    · rename_i t' hc
      exact CallC.closed (callH_sound (envH_ok P heapy gam hΓ hw) (runH_ok (envH_ok P heapy gam hΓ hw) q n) hc).2.toC S
    · cases h

/-- Bytes, as they are listed. -/
def u8sOf : List AV → Option (List Int)
  | [] => some []
  | .x (.int .u8 n) :: r => match n with
    | .ofNat m => match Nat.blt m 256 with
      | true => match u8sOf r with
        | some l => some (.ofNat m :: l)
        | none => none
      | false => none
    | _ => none
  | _ => none
theorem u8sOf_ok : ∀ {xs : List AV} {l : List Int}, u8sOf xs = some l → xs = l.map (VT.int .u8).emb ∧ ∀ n, n ∈ l → 0 ≤ n ∧ n < 256
  | [], l, h => by simp only [u8sOf, Option.some.injEq] at h; subst h; exact ⟨rfl, fun n h => by cases h⟩
  | x :: r, l, h => by
    unfold u8sOf at h
    split at h
    · rename_i hh; cases hh
    · rename_i n q hh
      cases hh
      split at h
      · rename_i m
        split at h
        · rename_i hb
          split at h
          · rename_i k hk
            simp only [Option.some.injEq] at h; subst h
            obtain ⟨q1, q2⟩ := u8sOf_ok hk
            refine ⟨by rw [q1]; rfl, fun n hn => ?_⟩
            rcases List.mem_cons.1 hn with rfl | hn
            · have := Nat.le_of_ble_eq_true hb
              have hm : m < 256 := this
              exact ⟨by show (0 : Int) ≤ ((m : Nat) : Int); omega, by show ((m : Nat) : Int) < 256; omega⟩
            · exact q2 n hn
          · cases h
        · cases h
      · cases h
    · cases h
end
end Go.AbsM
