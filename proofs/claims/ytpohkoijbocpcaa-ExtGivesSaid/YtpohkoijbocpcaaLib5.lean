/-
  The abstract machine and the typed machine over it: deterministic evaluators of translated code over plain values, each proved sound. Part 5 of 5.
-/
import Derived.Test.YtpohkoijbocpcaaLib4
import Derived.Deep.SlicePairs
/-! ## AbtW -/
/-
  The typed machine: its words reckoned.
-/
set_option linter.unusedVariables false
set_option linter.unusedSimpArgs false
namespace Go.AbsM

section
variable {a b : Int} {m n : Nat} {A B : Prop}
theorem grd_ile (h : a ≤ b) (k : A) : grd (W.ile a b) A := grd_iff.2 ⟨decide_eq_true h, k⟩
theorem grd_ilt (h : a < b) (k : A) : grd (W.ilt a b) A := grd_iff.2 ⟨decide_eq_true h, k⟩
theorem grd_nlt (h : m < n) (k : A) : grd (W.nlt m n) A := grd_iff.2 ⟨decide_eq_true h, k⟩
theorem grd_nle (h : m ≤ n) (k : A) : grd (W.nle m n) A := grd_iff.2 ⟨decide_eq_true h, k⟩
theorem grd_neq (h : m = n) (k : A) : grd (W.neq m n) A := grd_iff.2 ⟨decide_eq_true h, k⟩
theorem grd_true {t : Bool} (h : t = true) (k : A) : grd t A := grd_iff.2 ⟨h, k⟩
theorem brc_of {t : Bool} (h : t = true → A) (k : t = false → B) : brc t A B := brc_iff.2 ⟨h, k⟩
theorem brc_yes {t : Bool} (h : t = true) (k : A) : brc t A B := brc_iff.2 ⟨fun _ => k, fun e => (by rw [h] at e; cases e)⟩
theorem brc_no {t : Bool} (h : t = false) (k : B) : brc t A B := brc_iff.2 ⟨fun e => (by rw [h] at e; cases e), fun _ => k⟩
theorem brc_ilt (h : a < b → A) (k : b ≤ a → B) : brc (W.ilt a b) A B := brc_of (fun t => h (of_decide_eq_true t)) (fun t => k (by have := of_decide_eq_false t; omega))
theorem brc_ile (h : a ≤ b → A) (k : b < a → B) : brc (W.ile a b) A B := brc_of (fun t => h (of_decide_eq_true t)) (fun t => k (by have := of_decide_eq_false t; omega))
theorem brc_igt (h : b < a → A) (k : a ≤ b → B) : brc (W.igt a b) A B := brc_of (fun t => h (of_decide_eq_true t)) (fun t => k (by have := of_decide_eq_false t; omega))
theorem brc_ige (h : b ≤ a → A) (k : a < b → B) : brc (W.ige a b) A B := brc_of (fun t => h (of_decide_eq_true t)) (fun t => k (by have := of_decide_eq_false t; omega))
theorem brc_ieq (h : a = b → A) (k : a ≠ b → B) : brc (W.ieq a b) A B := brc_of (fun t => h (by simpa [W.ieq] using t)) (fun t => k (by simpa [W.ieq] using t))
theorem brc_ine (h : a ≠ b → A) (k : a = b → B) : brc (W.ine a b) A B := brc_of (fun t => h (by simpa [W.ine] using t)) (fun t => k (by simpa [W.ine] using t))
theorem brc_none {α : Type} {l : List α} (h : l = [] → A) (k : l ≠ [] → B) : brc (W.none l) A B := brc_of (fun t => h (by simpa [W.none] using t)) (fun t => k (by intro e; subst e; simp [W.none] at t))
theorem brc_bnot {t : Bool} (h : t = false → A) (k : t = true → B) : brc (W.bnot t) A B := by
  cases t
  · exact brc_yes rfl (h rfl)
  · exact brc_no rfl (k rfl)
end

/-! ### Kinds -/
theorem wrap_u8 (n : Int) : IntKind.u8.wrap n = n % 256 := by simp [IntKind.wrap, IntKind.bits, IntKind.signed]
theorem wrap_u16 (n : Int) : IntKind.u16.wrap n = n % 65536 := by simp [IntKind.wrap, IntKind.bits, IntKind.signed]
theorem wrap_u32 (n : Int) : IntKind.u32.wrap n = n % 4294967296 := by simp [IntKind.wrap, IntKind.bits, IntKind.signed]
theorem wrap_u64 (n : Int) : IntKind.u64.wrap n = n % 18446744073709551616 := by simp [IntKind.wrap, IntKind.bits, IntKind.signed]
theorem wrap_i64 (n : Int) : IntKind.i64.wrap n = (n + 9223372036854775808) % 18446744073709551616 - 9223372036854775808 := by
  simp [IntKind.wrap, IntKind.bits, IntKind.signed]
  split <;> omega

namespace W
variable {a b : Int}
theorem wu8 : W.wrap .u8 a = a % 256 := wrap_u8 a
theorem wu16 : W.wrap .u16 a = a % 65536 := wrap_u16 a
theorem wu32 : W.wrap .u32 a = a % 4294967296 := wrap_u32 a
theorem wu64 : W.wrap .u64 a = a % 18446744073709551616 := wrap_u64 a
theorem wi64 : W.wrap .i64 a = (a + 9223372036854775808) % 18446744073709551616 - 9223372036854775808 := wrap_i64 a
theorem wu8_in (h : 0 ≤ a) (k : a < 256) : W.wrap .u8 a = a := by rw [wu8]; omega
theorem wu32_in (h : 0 ≤ a) (k : a < 4294967296) : W.wrap .u32 a = a := by rw [wu32]; omega
theorem wu64_in (h : 0 ≤ a) (k : a < 18446744073709551616) : W.wrap .u64 a = a := by rw [wu64]; omega
theorem wi64_in (h : -9223372036854775808 ≤ a) (k : a < 9223372036854775808) : W.wrap .i64 a = a := by rw [wi64]; omega
theorem add_i64 (h : -9223372036854775808 ≤ a + b) (k : a + b < 9223372036854775808) : W.add .i64 a b = a + b := by
  show IntKind.i64.wrap (a + b) = _; rw [wrap_i64]; omega
theorem sub_i64 (h : -9223372036854775808 ≤ a - b) (k : a - b < 9223372036854775808) : W.sub .i64 a b = a - b := by
  show IntKind.i64.wrap (a - b) = _; rw [wrap_i64]; omega
theorem mul_i64 (h : -9223372036854775808 ≤ a * b) (k : a * b < 9223372036854775808) : W.mul .i64 a b = a * b := by
  show IntKind.i64.wrap (a * b) = _; rw [wrap_i64]; omega
theorem quo_i64 (h : 0 ≤ a) (k : 0 < b) (m : a < 9223372036854775808) : W.quo .i64 a b = a / b := by
  show IntKind.i64.wrap (a.tdiv b) = _
  rw [Int.tdiv_eq_ediv_of_nonneg h, wrap_i64]
  have h1 : 0 ≤ a / b := Int.ediv_nonneg h (by omega)
  have h2 : a / b ≤ a := Int.ediv_le_self b h
  omega
theorem rem_pos (h : 0 ≤ a) : W.rem a b = a % b := Int.tmod_eq_emod_of_nonneg h
theorem bit_toNat {n : Nat} (h : 0 ≤ a) (k : a < 2 ^ n) : (BitVec.ofInt n a).toNat = a.toNat := by
  rw [BitVec.toNat_ofInt]
  rw [Int.emod_eq_of_lt h (by exact_mod_cast k)]
theorem toNat_lt2 {n : Nat} (h : 0 ≤ a) (k : a < 2 ^ n) : a.toNat < 2 ^ n := by
  have h1 : (a.toNat : Int) = a := Int.toNat_of_nonneg h
  have h2 : (a.toNat : Int) < ((2 ^ n : Nat) : Int) := by rw [h1]; push_cast; exact k
  exact_mod_cast h2
theorem or_pos {k : IntKind} (hk : k.signed = false) (h1 : 0 ≤ a) (h2 : a < 2 ^ k.bits) (h3 : 0 ≤ b) (h4 : b < 2 ^ k.bits) : W.or k a b = ((a.toNat ||| b.toNat : Nat) : Int) := by
  unfold W.or
  rw [BitVec.toNat_or, bit_toNat h1 h2, bit_toNat h3 h4]
  have hlt : a.toNat ||| b.toNat < 2 ^ k.bits := Nat.or_lt_two_pow (toNat_lt2 h1 h2) (toNat_lt2 h3 h4)
  simp only [IntKind.wrap, hk]
  rw [Int.emod_eq_of_lt (by omega) (by exact_mod_cast hlt)]
  simp
theorem and_pos {k : IntKind} (hk : k.signed = false) (h1 : 0 ≤ a) (h2 : a < 2 ^ k.bits) (h3 : 0 ≤ b) (h4 : b < 2 ^ k.bits) : W.and k a b = ((a.toNat &&& b.toNat : Nat) : Int) := by
  unfold W.and
  rw [BitVec.toNat_and, bit_toNat h1 h2, bit_toNat h3 h4]
  have hlt : a.toNat &&& b.toNat < 2 ^ k.bits := Nat.lt_of_le_of_lt Nat.and_le_left (toNat_lt2 h1 h2)
  simp only [IntKind.wrap, hk]
  rw [Int.emod_eq_of_lt (by omega) (by exact_mod_cast hlt)]
  simp
theorem xor_pos {k : IntKind} (hk : k.signed = false) (h1 : 0 ≤ a) (h2 : a < 2 ^ k.bits) (h3 : 0 ≤ b) (h4 : b < 2 ^ k.bits) : W.xor k a b = ((a.toNat ^^^ b.toNat : Nat) : Int) := by
  unfold W.xor
  rw [BitVec.toNat_xor, bit_toNat h1 h2, bit_toNat h3 h4]
  have hlt : a.toNat ^^^ b.toNat < 2 ^ k.bits := Nat.xor_lt_two_pow (toNat_lt2 h1 h2) (toNat_lt2 h3 h4)
  simp only [IntKind.wrap, hk]
  rw [Int.emod_eq_of_lt (by omega) (by exact_mod_cast hlt)]
  simp
theorem shr_lit {k : IntKind} (n : Nat) (hn : n ≤ k.bits) : W.shr k a n = a / 2 ^ n := by
  unfold W.shr
  have : min ((n : Int).toNat) k.bits = n := by simp; omega
  rw [this, Int.fdiv_eq_ediv_of_nonneg _ (by exact Int.le_of_lt (Int.pow_pos (by decide)))]
/-- A copy into as much room. -/
theorem copied {α : Type} (l : List α) (x : α) : W.app (W.take (W.nmin (W.len l) (W.len (W.rep (W.toNat (W.ofNat (W.len l))) x))) l) (W.drop (W.nmin (W.len l) (W.len (W.rep (W.toNat (W.ofNat (W.len l))) x))) (W.rep (W.toNat (W.ofNat (W.len l))) x)) = l := by
  simp [W.app, W.take, W.nmin, W.len, W.rep, W.toNat, W.ofNat, W.drop]
end W
end Go.AbsM

/-! ## AbtGood -/
/-
  The typed machine: good contracts, the usual ways.
-/
set_option linter.unusedVariables false
set_option linter.unusedSimpArgs false
namespace Go.AbsM

def bodyOf (f : Func) : Code := match f.body with
  | some c => c
  | none => .skip
def hasBody (f : Func) : Bool := f.body.isSome
theorem body_some {f : Func} (h : hasBody f = true) : f.body = some (bodyOf f) := by
  unfold hasBody at h; unfold bodyOf
  cases hb : f.body with
  | none => rw [hb] at h; cases h
  | some c => rfl

def one (k : Nat) (p : Piece) (l : Nat) : Option Piece := match l.beq k with
  | true => some p
  | false => none
theorem one_some {k l : Nat} {p ψ : Piece} (h : one k p l = some ψ) : l = k ∧ ψ = p := by
  unfold one at h
  split at h
  · rename_i hb
    cases h; exact ⟨Nat.eq_of_beq_eq_true hb, rfl⟩
  · cases h
def noneK (_ : Nat) : Option Piece := none

/-- Nothing is asked of loops or places in it. -/
def freeB (blk : Nat → Option Piece) (c : Code) : Bool := (blocksOf c).all (fun p => (blk p.1).isNone) && (scopesOf c).isEmpty
def loopOf : Code → Code
  | .loop c => c
  | _ => .skip
def isLoop : Code → Bool
  | .loop _ => true
  | _ => false
theorem isLoop_eq {c : Code} (h : isLoop c = true) : c = .loop (loopOf c) := by
  cases c <;> first | rfl | cases h

section
variable {P : Program} {E : Env}
theorem lamOk_free {Λ : Known} {c : Code} (h : freeB Λ.blk c = true) : LamOk P Λ c := by
  simp only [freeB, Bool.and_eq_true, List.all_eq_true, List.isEmpty_iff] at h
  refine lamOk_of (fun id c' hm ψ hψ => ?_) fun c' hm => ?_
  · have := h.1 _ hm
    rw [hψ] at this; cases this
  · rw [h.2] at hm; cases hm

def sigB (P : Program) (sig : List AT) : Bool := sig.all fun a => match a with
  | .l e _ => decide (0 < P.cellsOf e)
  | _ => true
theorem sigB_ok {sig : List AT} (h : sigB P sig = true) (e : TypeId) (t : VT) (hm : AT.l e t ∈ sig) : 0 < P.cellsOf e := by
  have := List.all_eq_true.1 h _ hm
  exact of_decide_eq_true this

/-- The checks that each contract asks. -/
structure Fits (P : Program) (f : FuncId) (sig : List AT) (fn : Func) : Prop where
  there : P.funcs[f]? = some fn
  body : hasBody fn = true
  name : (fn.name == "runtime.NumGoroutine") = false
  sig : sigB P sig = true

theorem good_by {L : List TCtr} {blk lab : Nat → Option Piece} {c : TCtr} {fn : Func} (hw : P.follows .mixedOrders = true) (hL : Goods P L) (hf : Fits P c.f c.sig fn) (hLam : LamOk P (knownL L blk lab) (bodyOf fn))
    (run : ∀ d, c.pre d → wpFn P (knownL L blk lab) fn (t1s c.sig d) (fun x => x = c.out d)) : GoodC P c :=
  good_of hw hL hf.there (body_some hf.body) hf.name (sigB_ok hf.sig) hLam run

/-- Straight code. -/
theorem good_plain {L : List TCtr} {c : TCtr} {fn : Func} (hw : P.follows .mixedOrders = true) (hL : Goods P L) (hf : Fits P c.f c.sig fn) (h0 : freeB noneK (bodyOf fn) = true)
    (run : ∀ d, c.pre d → wpFn P (knownL L noneK noneK) fn (t1s c.sig d) (fun x => x = c.out d)) : GoodC P c :=
  good_by hw hL hf (lamOk_free h0) run

def restC (c : Code) (l : Nat) : Code := (findLabel (scC c) l).getD .skip

/-- One place that is jumped to. -/
theorem lam_jump {L : List TCtr} {ι : Type} {n : Nat} {ls ks : List Nat} {mk : ι → TSt} {ψ : ι → Post → Prop} {c : Code} {l : Nat} (lx kx : List Nat) (μ : ι → Nat) (hw : P.follows .mixedOrders = true) (hL : Goods P L)
    (h1 : decide ((scopesOf c).length ≤ 1) = true) (h2 : (blocksOf c).isEmpty = true) (h3 : findLabel (scC c) l = some (restC c l)) (h4 : freeB noneK (restC c l) = true)
    (step : ∀ i Φ, ψ i Φ → wpT P (knownL L noneK (one l (loopP n ls ks mk ψ))) (restC c l) (mk i) (jumpK (knownL L noneK (one l (loopP n ls ks mk ψ))) n ls ks lx kx (scC c) l mk μ ψ (μ i) Φ)) : LamOk P (knownL L noneK (one l (loopP n ls ks mk ψ))) c := by
  refine lamOk_body (by rw [List.isEmpty_iff.1 h2]; rfl) h1 (fun id ψ h => by cases h) fun l' rest ψ' hf hl => ?_
  obtain ⟨rfl, rfl⟩ := one_some hl
  rw [h3] at hf
  simp only [Option.some.injEq] at hf; subst hf
  refine run_jump (lx := lx) (kx := kx) (knownL_ok hw hL _ _) μ (lamOk_free h4) h3 (fun l'' rest' ψ'' hne hf' hl' => ?_) step
  obtain ⟨rfl, _⟩ := one_some hl'
  exact absurd rfl hne

theorem good_jump {L : List TCtr} {c : TCtr} {fn : Func} {ι : Type} {n : Nat} {ls ks : List Nat} {mk : ι → TSt} {ψ : ι → Post → Prop} {l : Nat} (lx kx : List Nat) (μ : ι → Nat) (hw : P.follows .mixedOrders = true) (hL : Goods P L) (hf : Fits P c.f c.sig fn)
    (h1 : decide ((scopesOf (bodyOf fn)).length ≤ 1) = true) (h2 : (blocksOf (bodyOf fn)).isEmpty = true) (h3 : findLabel (scC (bodyOf fn)) l = some (restC (bodyOf fn) l)) (h4 : freeB noneK (restC (bodyOf fn) l) = true)
    (step : ∀ i Φ, ψ i Φ → wpT P (knownL L noneK (one l (loopP n ls ks mk ψ))) (restC (bodyOf fn) l) (mk i) (jumpK (knownL L noneK (one l (loopP n ls ks mk ψ))) n ls ks lx kx (scC (bodyOf fn)) l mk μ ψ (μ i) Φ))
    (run : ∀ d, c.pre d → wpFn P (knownL L noneK (one l (loopP n ls ks mk ψ))) fn (t1s c.sig d) (fun x => x = c.out d)) : GoodC P c :=
  good_by hw hL hf (lam_jump lx kx μ hw hL h1 h2 h3 h4 step) run

/-- One loop (inner blocks are no loops). -/
theorem good_loop {L : List TCtr} {c : TCtr} {fn : Func} {ι : Type} {n : Nat} {ls ks : List Nat} {mk : ι → TSt} {ψ : ι → Post → Prop} {id : Nat} (lx kx : List Nat) (μ : ι → Nat) (hw : P.follows .mixedOrders = true) (hL : Goods P L) (hf : Fits P c.f c.sig fn)
    (h1 : (scopesOf (bodyOf fn)).isEmpty = true) (h2 : nodupB ((blocksOf (bodyOf fn)).map (·.1)) = true) (h3 : isLoop (blkC (bodyOf fn) id) = true) (h4 : freeB (one id (loopP n ls ks mk ψ)) (loopOf (blkC (bodyOf fn) id)) = true)
    (step : ∀ i Φ, ψ i Φ → wpT P (knownL L (one id (loopP n ls ks mk ψ)) noneK) (loopOf (blkC (bodyOf fn) id)) (mk i) (stepK n ls ks lx kx id mk μ ψ (μ i) Φ))
    (run : ∀ d, c.pre d → wpFn P (knownL L (one id (loopP n ls ks mk ψ)) noneK) fn (t1s c.sig d) (fun x => x = c.out d)) : GoodC P c := by
  refine good_by (lab := noneK) hw hL hf (lamOk_body h2 (by rw [List.isEmpty_iff.1 h1]; rfl) (fun id' ψ' h s Φ hs => ?_) (fun l rest ψ' _ hl => by cases hl)) run
  obtain ⟨rfl, rfl⟩ := one_some h
  rw [isLoop_eq h3]
  exact run_loop (knownL_ok hw hL _ _) μ (lamOk_free h4) step s Φ hs

/-! ### With functions that are lent to -/
theorem good_byD {L : List TCtr} {DL : List LCtr} {blk lab : Nat → Option Piece} {c : TCtr} {fn : Func} (hw : P.follows .mixedOrders = true) (hL : Goods P L) (hD : GoodDs P DL) (hf : Fits P c.f c.sig fn) (hLam : LamOk P (knownD L DL blk lab) (bodyOf fn))
    (run : ∀ d, c.pre d → wpFn P (knownD L DL blk lab) fn (t1s c.sig d) (fun x => x = c.out d)) : GoodC P c :=
  good_ofD hw hL hD hf.there (body_some hf.body) hf.name (sigB_ok hf.sig) hLam run


theorem good_plainD {L : List TCtr} {DL : List LCtr} {c : TCtr} {fn : Func} (hw : P.follows .mixedOrders = true) (hL : Goods P L) (hD : GoodDs P DL) (hf : Fits P c.f c.sig fn) (h0 : freeB noneK (bodyOf fn) = true)
    (run : ∀ d, c.pre d → wpFn P (knownD L DL noneK noneK) fn (t1s c.sig d) (fun x => x = c.out d)) : GoodC P c :=
  good_byD hw hL hD hf (lamOk_free h0) run



theorem lam_jumpD {L : List TCtr} {DL : List LCtr} {ι : Type} {n : Nat} {ls ks : List Nat} {mk : ι → TSt} {ψ : ι → Post → Prop} {c : Code} {l : Nat} (lx kx : List Nat) (μ : ι → Nat) (hw : P.follows .mixedOrders = true) (hL : Goods P L) (hD : GoodDs P DL)
    (h1 : decide ((scopesOf c).length ≤ 1) = true) (h2 : (blocksOf c).isEmpty = true) (h3 : findLabel (scC c) l = some (restC c l)) (h4 : freeB noneK (restC c l) = true)
    (step : ∀ i Φ, ψ i Φ → wpT P (knownD L DL noneK (one l (loopP n ls ks mk ψ))) (restC c l) (mk i) (jumpK (knownD L DL noneK (one l (loopP n ls ks mk ψ))) n ls ks lx kx (scC c) l mk μ ψ (μ i) Φ)) : LamOk P (knownD L DL noneK (one l (loopP n ls ks mk ψ))) c := by
  refine lamOk_body (by rw [List.isEmpty_iff.1 h2]; rfl) h1 (fun id ψ h => by cases h) fun l' rest ψ' hf hl => ?_
  obtain ⟨rfl, rfl⟩ := one_some hl
  rw [h3] at hf
  simp only [Option.some.injEq] at hf; subst hf
  refine run_jump (lx := lx) (kx := kx) (knownD_ok hw hL hD _ _) μ (lamOk_free h4) h3 (fun l'' rest' ψ'' hne hf' hl' => ?_) step
  obtain ⟨rfl, _⟩ := one_some hl'
  exact absurd rfl hne

theorem good_jumpD {L : List TCtr} {DL : List LCtr} {c : TCtr} {fn : Func} {ι : Type} {n : Nat} {ls ks : List Nat} {mk : ι → TSt} {ψ : ι → Post → Prop} {l : Nat} (lx kx : List Nat) (μ : ι → Nat) (hw : P.follows .mixedOrders = true) (hL : Goods P L) (hD : GoodDs P DL) (hf : Fits P c.f c.sig fn)
    (h1 : decide ((scopesOf (bodyOf fn)).length ≤ 1) = true) (h2 : (blocksOf (bodyOf fn)).isEmpty = true) (h3 : findLabel (scC (bodyOf fn)) l = some (restC (bodyOf fn) l)) (h4 : freeB noneK (restC (bodyOf fn) l) = true)
    (step : ∀ i Φ, ψ i Φ → wpT P (knownD L DL noneK (one l (loopP n ls ks mk ψ))) (restC (bodyOf fn) l) (mk i) (jumpK (knownD L DL noneK (one l (loopP n ls ks mk ψ))) n ls ks lx kx (scC (bodyOf fn)) l mk μ ψ (μ i) Φ))
    (run : ∀ d, c.pre d → wpFn P (knownD L DL noneK (one l (loopP n ls ks mk ψ))) fn (t1s c.sig d) (fun x => x = c.out d)) : GoodC P c :=
  good_byD hw hL hD hf (lam_jumpD lx kx μ hw hL hD h1 h2 h3 h4 step) run


theorem good_loopD {L : List TCtr} {DL : List LCtr} {c : TCtr} {fn : Func} {ι : Type} {n : Nat} {ls ks : List Nat} {mk : ι → TSt} {ψ : ι → Post → Prop} {id : Nat} (lx kx : List Nat) (μ : ι → Nat) (hw : P.follows .mixedOrders = true) (hL : Goods P L) (hD : GoodDs P DL) (hf : Fits P c.f c.sig fn)
    (h1 : (scopesOf (bodyOf fn)).isEmpty = true) (h2 : nodupB ((blocksOf (bodyOf fn)).map (·.1)) = true) (h3 : isLoop (blkC (bodyOf fn) id) = true) (h4 : freeB (one id (loopP n ls ks mk ψ)) (loopOf (blkC (bodyOf fn) id)) = true)
    (step : ∀ i Φ, ψ i Φ → wpT P (knownD L DL (one id (loopP n ls ks mk ψ)) noneK) (loopOf (blkC (bodyOf fn) id)) (mk i) (stepK n ls ks lx kx id mk μ ψ (μ i) Φ))
    (run : ∀ d, c.pre d → wpFn P (knownD L DL (one id (loopP n ls ks mk ψ)) noneK) fn (t1s c.sig d) (fun x => x = c.out d)) : GoodC P c := by
  refine good_byD (lab := noneK) hw hL hD hf (lamOk_body h2 (by rw [List.isEmpty_iff.1 h1]; rfl) (fun id' ψ' h s Φ hs => ?_) (fun l rest ψ' _ hl => by cases hl)) run
  obtain ⟨rfl, rfl⟩ := one_some h
  rw [isLoop_eq h3]
  exact run_loop (knownD_ok hw hL hD _ _) μ (lamOk_free h4) step s Φ hs

def sigLB (P : Program) (sig : List LT) : Bool := sig.all fun a => match a with
  | .l e _ => decide (0 < P.cellsOf e)
  | _ => true
theorem sigLB_ok {sig : List LT} (h : sigLB P sig = true) (e : TypeId) (t : VT) (hm : LT.l e t ∈ sig) : 0 < P.cellsOf e := by
  have := List.all_eq_true.1 h _ hm
  exact of_decide_eq_true this
structure FitsL (P : Program) (f : FuncId) (sig : List LT) (fn : Func) : Prop where
  there : P.funcs[f]? = some fn
  body : hasBody fn = true
  name : (fn.name == "runtime.NumGoroutine") = false
  sig : sigLB P sig = true
theorem goodL_by {L : List TCtr} {DL : List LCtr} {blk lab : Nat → Option Piece} {c : LCtr} {fn : Func} (hw : P.follows .mixedOrders = true) (hL : Goods P L) (hD : GoodDs P DL) (hf : FitsL P c.f c.sig fn) (hLam : LamOk P (knownD L DL blk lab) (bodyOf fn))
    (run : ∀ d, c.pre d → wpFnL P (knownD L DL blk lab) fn c.sig d (fun z x => z = c.eff d ∧ x = c.out d)) : GoodL P c :=
  goodL_of hw hL hD hf.there (body_some hf.body) hf.name (sigLB_ok hf.sig) hLam run


theorem goodL_plain {L : List TCtr} {DL : List LCtr} {c : LCtr} {fn : Func} (hw : P.follows .mixedOrders = true) (hL : Goods P L) (hD : GoodDs P DL) (hf : FitsL P c.f c.sig fn) (h0 : freeB noneK (bodyOf fn) = true)
    (run : ∀ d, c.pre d → wpFnL P (knownD L DL noneK noneK) fn c.sig d (fun z x => z = c.eff d ∧ x = c.out d)) : GoodL P c :=
  goodL_by hw hL hD hf (lamOk_free h0) run



theorem goodL_jump {L : List TCtr} {DL : List LCtr} {c : LCtr} {fn : Func} {ι : Type} {n : Nat} {ls ks : List Nat} {mk : ι → TSt} {ψ : ι → Post → Prop} {l : Nat} (lx kx : List Nat) (μ : ι → Nat) (hw : P.follows .mixedOrders = true) (hL : Goods P L) (hD : GoodDs P DL) (hf : FitsL P c.f c.sig fn)
    (h1 : decide ((scopesOf (bodyOf fn)).length ≤ 1) = true) (h2 : (blocksOf (bodyOf fn)).isEmpty = true) (h3 : findLabel (scC (bodyOf fn)) l = some (restC (bodyOf fn) l)) (h4 : freeB noneK (restC (bodyOf fn) l) = true)
    (step : ∀ i Φ, ψ i Φ → wpT P (knownD L DL noneK (one l (loopP n ls ks mk ψ))) (restC (bodyOf fn) l) (mk i) (jumpK (knownD L DL noneK (one l (loopP n ls ks mk ψ))) n ls ks lx kx (scC (bodyOf fn)) l mk μ ψ (μ i) Φ))
    (run : ∀ d, c.pre d → wpFnL P (knownD L DL noneK (one l (loopP n ls ks mk ψ))) fn c.sig d (fun z x => z = c.eff d ∧ x = c.out d)) : GoodL P c :=
  goodL_by hw hL hD hf (lam_jumpD lx kx μ hw hL hD h1 h2 h3 h4 step) run


theorem goodL_loop {L : List TCtr} {DL : List LCtr} {c : LCtr} {fn : Func} {ι : Type} {n : Nat} {ls ks : List Nat} {mk : ι → TSt} {ψ : ι → Post → Prop} {id : Nat} (lx kx : List Nat) (μ : ι → Nat) (hw : P.follows .mixedOrders = true) (hL : Goods P L) (hD : GoodDs P DL) (hf : FitsL P c.f c.sig fn)
    (h1 : (scopesOf (bodyOf fn)).isEmpty = true) (h2 : nodupB ((blocksOf (bodyOf fn)).map (·.1)) = true) (h3 : isLoop (blkC (bodyOf fn) id) = true) (h4 : freeB (one id (loopP n ls ks mk ψ)) (loopOf (blkC (bodyOf fn) id)) = true)
    (step : ∀ i Φ, ψ i Φ → wpT P (knownD L DL (one id (loopP n ls ks mk ψ)) noneK) (loopOf (blkC (bodyOf fn) id)) (mk i) (stepK n ls ks lx kx id mk μ ψ (μ i) Φ))
    (run : ∀ d, c.pre d → wpFnL P (knownD L DL (one id (loopP n ls ks mk ψ)) noneK) fn c.sig d (fun z x => z = c.eff d ∧ x = c.out d)) : GoodL P c := by
  refine goodL_by (lab := noneK) hw hL hD hf (lamOk_body h2 (by rw [List.isEmpty_iff.1 h1]; rfl) (fun id' ψ' h s Φ hs => ?_) (fun l rest ψ' _ hl => by cases hl)) run
  obtain ⟨rfl, rfl⟩ := one_some h
  rw [isLoop_eq h3]
  exact run_loop (knownD_ok hw hL hD _ _) μ (lamOk_free h4) step s Φ hs
end
end Go.AbsM
namespace Go.AbsM
section
variable {P : Program} {E : Env}
/-- The loop with this id, in a body. -/
theorem run_loopB {ι : Type} {Λ : Known} (hΛ : KnownOk P E Λ) {n : Nat} {ls ks lx kx : List Nat} {id : Nat} {mk : ι → TSt} {ψ : ι → Post → Prop} {c : Code} (μ : ι → Nat) (h3 : isLoop (blkC c id) = true) (hL : LamOk P Λ (loopOf (blkC c id)))
    (step : ∀ i Φ, ψ i Φ → wpT P Λ (loopOf (blkC c id)) (mk i) (stepK n ls ks lx kx id mk μ ψ (μ i) Φ)) (s : TSt) (Φ : Post) (h : loopP n ls ks mk ψ s Φ) : Run P (.code (.block id (blkC c id))) s Φ := by
  rw [isLoop_eq h3]
  exact run_loop hΛ μ hL step s Φ h
end
end Go.AbsM

/-! ## AbtLaw -/
/-
  The typed machine: closed functions by the abstract machine; laws.
-/
set_option linter.unusedVariables false
set_option linter.unusedSimpArgs false
namespace Go.AbsM
open Go.RowKit

def phi (P : Program) (f : FuncId) : Option Func :=
  match P.funcs[f]? with
  | some fn => if fn.name == "runtime.NumGoroutine" then none else some fn
  | none => none
def envN (P : Program) (lend : FuncId → Nat → Bool) : Env := { Φ := phi P, Γ := fun _ _ => none, Δ := fun _ _ _ => none, lend := lend, solo := soloK, ok := fun ops => drawM soloK ops }
theorem envN_ok (P : Program) (lend : FuncId → Nat → Bool) (hw : P.follows .mixedOrders = true) : EnvOk P (envN P lend) where
  fn := fun f fn h => by
    have h : phi P f = some fn := h
    unfold phi at h
    split at h
    · rename_i g hg
      split at h
      · cases h
      · rename_i hn
        simp only [Option.some.injEq] at h; subst h
        exact ⟨hg, by simpa using hn⟩
    · cases h
  ga := fun f args r h => by cases h
  de := fun f args S S2 r h => by cases h
  wide := hw
  draw := fun ops h rec s s1 t hr => draw_okM (E := envN P lend) h rec s s1 t hr

/-- A law: it answers true. -/
def lawC (f : FuncId) (sig : List AT) (pre : dens sig → Prop) : TCtr := .det f sig pre (fun _ => TV.bool true) fun _ => rfl
/-- A closed function that answers true. -/
def trueC (f : FuncId) : TCtr := lawC f [] fun _ => True

section
variable {P : Program}
theorem good_closed {f : FuncId} {fn : Func} {lend : FuncId → Nat → Bool} {n : Nat} (hw : P.follows .mixedOrders = true) (hf : Fits P f [] fn) (h : ∀ S, callA P (envN P lend) (Go.AbsM.runN P (envN P lend) n) f [] S = some (S, .x (.bool true))) : GoodC P (trueC f) where
  there := ⟨fn, bodyOf fn, hf.there, body_some hf.body, hf.name⟩
  cells := fun e t hm => by cases hm
  call := fun d _ S => (callA_sound (envN_ok P lend hw) (runN_ok (envN_ok P lend hw) n) (h S)).2

theorem GoodC.law {f : FuncId} {sig : List AT} {pre : dens sig → Prop} (h : GoodC P (lawC f sig pre)) {d : dens sig} (hp : pre d) {w : World} {vs : List Value} (hl : vs.length = (t1s sig d).length)
    (hargs : ∀ (i : Nat) (x : AV) (v : Value), ((t1s sig d).map (T1.emb []))[i]? = some x → vs[i]? = some v → Arg P w x v) : Calls P f vs.toArray w fun e w' => e = .returned (.bool true) ∧ Below w.heap.size w w' :=
  law_calls (h.call d hp []) (by rw [List.length_map]; exact hl) hargs

/-- Integers that came in. -/
def inKind (k : IntKind) (n : Int) : Prop := k.min ≤ n ∧ n ≤ k.max
theorem inKind_of {k : IntKind} {n : Int} (h : (Lit.int k n).wf = true) : inKind k n := by
  simpa [Lit.wf, inKind] using h

/-- Each argument stands for its value. -/
def ArgsOk (P : Program) (w : World) : List AV → List Value → Prop
  | [], [] => True
  | x :: xs, v :: vs => Arg P w x v ∧ ArgsOk P w xs vs
  | _, _ => False
theorem ArgsOk.get {w : World} : ∀ {xs : List AV} {vs : List Value}, ArgsOk P w xs vs → vs.length = xs.length ∧ ∀ (i : Nat) (x : AV) (v : Value), xs[i]? = some x → vs[i]? = some v → Arg P w x v
  | [], [], _ => ⟨rfl, fun i x v h => by simp at h⟩
  | x :: xs, v :: vs, h => by
    obtain ⟨q1, q2⟩ := ArgsOk.get h.2
    refine ⟨by simp [q1], fun i y u hy hu => ?_⟩
    cases i with
    | zero => simp at hy hu; subst hy; subst hu; exact h.1
    | succ i => simp at hy hu; exact q2 i y u hy hu
  | [], _ :: _, h => h.elim
  | _ :: _, [], h => h.elim

theorem GoodC.law2 {f : FuncId} {sig : List AT} {pre : dens sig → Prop} (h : GoodC P (lawC f sig pre)) (d : dens sig) (hp : pre d) {w : World} (vs : List Value) (hargs : ArgsOk P w ((t1s sig d).map (T1.emb [])) vs) :
    Calls P f vs.toArray w fun e w' => e = .returned (.bool true) ∧ Below w.heap.size w w' := by
  obtain ⟨q1, q2⟩ := hargs.get
  exact h.law hp (by rw [q1, List.length_map]) q2

/-- A slice of integers that came in. -/
theorem arg_row {w : World} {k : IntKind} {e : TypeId} (he : P.cellsOf e = 1) {a : Option Addr} {len cap : Nat} {zs : List Int}
    (h : (a = none ∧ len = 0 ∧ cap = 0 ∧ zs = []) ∨ ∃ x, a = some x ∧ len ≤ cap ∧ cap ≤ maxLen ∧ zs.length = cap ∧ (∀ i, i < zs.length → w.cell? (x.add i) = some (.int k (zs.getD i 0))) ∧ ∀ n ∈ zs, (Lit.int k n).wf = true) :
    Arg P w (.sl e ((zs.take len).map (VT.int k).emb)) (.slice a len cap) ∧ (zs.take len).length = len ∧ len ≤ maxLen ∧ ∀ n, n ∈ zs.take len → inKind k n := by
  have hrep : ∀ {A : Option Addr} {c : Nat}, c ≤ maxLen → Arg P w (.sl e []) (.slice A 0 c) := by
    intro A c hc
    exact .sl (us := []) rfl rfl (by simp) hc (by omega) (fun i x u h => by simp at h) (fun u h => by simp at h) (fun h => absurd rfl h)
  rcases h with ⟨rfl, rfl, rfl, rfl⟩ | ⟨x, rfl, hl, hm, hz, hcell, hwz⟩
  · exact ⟨hrep (by omega), rfl, by omega, fun n h => by simp at h⟩
  · have hlen : (zs.take len).length = len := by simp; omega
    refine ⟨?_, hlen, by omega, fun n hn => inKind_of (hwz n (List.mem_of_mem_take hn))⟩
    by_cases h0 : zs = []
    · subst h0
      have : len = 0 := by simp at hz; omega
      subst this
      exact hrep hm
    · have hpos : 0 < zs.length := by
        cases zs with
        | nil => exact absurd rfl h0
        | cons _ _ => simp
      obtain ⟨b, off, spot⟩ := x
      have hc := hcell 0 hpos
      have hspot : spot = none := by simpa [Addr.add] using World.cell?_spot hc
      subst hspot
      refine Arg.ints he hl hm hz fun i hi => ?_
      have hadd : Addr.add ⟨b, off, none⟩ i = ⟨b, off + i, none⟩ := by
        simp [Addr.add]
      rw [← hadd]; exact hcell i hi

theorem in_i64 {n : Int} (h : inKind .i64 n) : -9223372036854775808 ≤ n ∧ n < 9223372036854775808 := by
  simp [inKind, IntKind.min, IntKind.max, IntKind.bits, IntKind.signed] at h; omega
theorem in_u64 {n : Int} (h : inKind .u64 n) : 0 ≤ n ∧ n < 18446744073709551616 := by
  simp [inKind, IntKind.min, IntKind.max, IntKind.bits, IntKind.signed] at h; omega
theorem in_u32 {n : Int} (h : inKind .u32 n) : 0 ≤ n ∧ n < 4294967296 := by
  simp [inKind, IntKind.min, IntKind.max, IntKind.bits, IntKind.signed] at h; omega
theorem in_u16 {n : Int} (h : inKind .u16 n) : 0 ≤ n ∧ n < 65536 := by
  simp [inKind, IntKind.min, IntKind.max, IntKind.bits, IntKind.signed] at h; omega
theorem in_u8 {n : Int} (h : inKind .u8 n) : 0 ≤ n ∧ n < 256 := by
  simp [inKind, IntKind.min, IntKind.max, IntKind.bits, IntKind.signed] at h; omega
end
end Go.AbsM

/-! ## AbtBlk -/
/-
  The typed machine: a run that is to be shown, shut against being unfolded by the way.
-/
namespace Go.AbsM
@[irreducible] def Blk (p : Prop) : Prop := p
theorem Blk.un {p : Prop} (h : Blk p) : p := by unfold Blk at h; exact h
theorem Blk.by {p : Prop} (h : p) : Blk p := by unfold Blk; exact h
theorem Blk.nf {p q : Prop} (e : p = q) (h : q) : Blk p := Blk.by (e.mpr h)

/-- A closed call with a plain answer, whoever calls. -/
theorem CallC.closed {P : Program} {f : FuncId} {v0 : Value} (hc : CallC P f [] [] [] (.x v0)) (S : List Store) : CallC P f [] S S (.x v0) := by
  cases S with
  | nil => exact hc
  | cons t S' =>
    intro may w g vs hi hm hl ha
    let g0 : Gh := { M := g.M, B := fun _ _ => 0, C := fun _ _ => 0 }
    have hi0 : SInv P w g0 (fun b => w.heap.size ≤ b) [] := ⟨(fun i k cs h => by cases h), (fun i k e xs h => by cases h), (fun i k e xs h => by cases h), (fun i k o i' k' o' h => by cases h), hi.mlt⟩
    refine (hc _ w g0 vs hi0 (fun b h => h) hl (fun i x v hx => by simp at hx)).mono fun e w' ⟨v, g', he, hF, hI, _, hR⟩ => ?_
    have hx : Ext w w' := ⟨hF.os, hF.tape, hF.output, hF.size, fun b hb => hF.heap b (by omega)⟩
    have hs : Sim P may { slots := [], stores := t :: S' } ⟨#[], []⟩ w g := ⟨hi, rfl, (fun t x h => by simp at h), rfl, by simp⟩
    obtain ⟨q1, q2, q3⟩ := hs.grow hm hx (M' := g.M) (fun b o h => h) (fun b o h hn => absurd h hn)
    refine ⟨v, g, he, q2, q1.inv, q3, 0, ?_⟩
    obtain ⟨b, hb⟩ := hR
    have hr : Rep P w' g'.M (.x v0) v := hb
    cases hr with
    | x h => exact Rep.x h
/-- A closed function that answers true, run in an empty place. -/
theorem good_closed0 {P : Program} {f : FuncId} {fn : Func} {lend : FuncId → Nat → Bool} {n : Nat} (hw : P.follows .mixedOrders = true) (hf : Fits P f [] fn) (h : callA P (envN P lend) (Go.AbsM.runN P (envN P lend) n) f [] [] = some ([], .x (.bool true))) : GoodC P (trueC f) where
  there := ⟨fn, bodyOf fn, hf.there, body_some hf.body, hf.name⟩
  cells := fun e t hm => by cases hm
  call := fun d _ S => CallC.closed (callA_sound (envN_ok P lend hw) (runN_ok (envN_ok P lend hw) n) h).2 S
end Go.AbsM

/-! ## AbtPairs -/
/-
  The typed machine: slices of structs of two integers that came in.
-/
set_option linter.unusedVariables false
set_option linter.unusedSimpArgs false
namespace Go.AbsM
open Go.RowKit

def IsPairs (k0 k1 : IntKind) (w : World) (a : Option Addr) (len cap : Nat) (zs : List (Int × Int × Unit)) : Prop :=
  (a = none ∧ len = 0 ∧ cap = 0 ∧ zs = []) ∨
  ∃ x, a = some x ∧ len ≤ cap ∧ cap ≤ maxLen ∧ zs.length = len ∧ ∀ i z, zs[i]? = some z → w.cell? (x.add (i * 2)) = some (.int k0 z.1) ∧ w.cell? (x.add (i * 2 + 1)) = some (.int k1 z.2.1) ∧ (Lit.int k0 z.1).wf = true ∧ (Lit.int k1 z.2.1).wf = true

abbrev PairT (k0 k1 : IntKind) : VT := .pair (.int k0) (.pair (.int k1) .unit)
def pairV (k0 k1 : IntKind) (z : Int × Int × Unit) : Value := .agg #[.int k0 z.1, .int k1 z.2.1]
def pairA (k0 k1 : IntKind) (z : Int × Int × Unit) : AV := .agg [.x (.int k0 z.1), .x (.int k1 z.2.1)]
theorem flat_pairs {k0 k1 : IntKind} : ∀ {zs : List (Int × Int × Unit)} {j : Nat} {cv : Value}, (flat (zs.map (pairV k0 k1)))[j]? = some cv → ∃ i z, zs[i]? = some z ∧ ((j = i * 2 ∧ cv = .int k0 z.1) ∨ (j = i * 2 + 1 ∧ cv = .int k1 z.2.1))
  | [], j, cv, h => by simp [flat] at h
  | z :: r, j, cv, h => by
    have e : flat ((z :: r).map (pairV k0 k1)) = .int k0 z.1 :: .int k1 z.2.1 :: flat (r.map (pairV k0 k1)) := rfl
    rw [e] at h
    match j with
    | 0 => simp at h; exact ⟨0, z, rfl, .inl ⟨rfl, h.symm⟩⟩
    | 1 => simp at h; exact ⟨0, z, rfl, .inr ⟨rfl, h.symm⟩⟩
    | j + 2 =>
      simp only [List.getElem?_cons_succ] at h
      obtain ⟨i, y, h1, h2⟩ := flat_pairs h
      refine ⟨i + 1, y, by simpa using h1, ?_⟩
      rcases h2 with ⟨rfl, h2⟩ | ⟨rfl, h2⟩
      · exact .inl ⟨by omega, h2⟩
      · exact .inr ⟨by omega, h2⟩

theorem arg_pairs {P : Program} {w : World} {k0 k1 : IntKind} {e : TypeId} (he : P.cellsOf e = 2) {a : Option Addr} {len cap : Nat} {zs : List (Int × Int × Unit)} (h : IsPairs k0 k1 w a len cap zs) :
    Arg P w (.sl e (zs.map (PairT k0 k1).emb)) (.slice a len cap) ∧ zs.length = len ∧ len ≤ maxLen ∧ ∀ z, z ∈ zs → inKind k0 z.1 ∧ inKind k1 z.2.1 := by
  have e0 : List.map (PairT k0 k1).emb zs = zs.map (pairA k0 k1) := rfl
  rw [e0]
  clear e0
  rcases h with ⟨rfl, rfl, rfl, rfl⟩ | ⟨x, rfl, hl, hm, hz, hc⟩
  · refine ⟨.sl (us := []) rfl rfl (by simp) (Nat.zero_le _) (by omega) (fun i x u h => by simp at h) (fun u h => by simp at h) (fun h => absurd rfl h), rfl, Nat.zero_le _, fun z h => by simp at h⟩
  · refine ⟨.sl (us := zs.map (pairV k0 k1)) (by simpa using hz.symm) (by simp) (by simpa [hz] using hl) hm (by omega) (fun i y u hy hu => ?_) (fun u hu => ?_) fun hne => ?_, hz, by omega, fun z hmem => ?_⟩
    · simp only [List.getElem?_map, Option.map_eq_some_iff] at hy hu
      obtain ⟨n, h1, rfl⟩ := hy
      obtain ⟨m, h2, rfl⟩ := hu
      rw [h1] at h2
      simp only [Option.some.injEq] at h2; subst h2
      exact Rep.agg (cs := [.x (.int k0 n.1), .x (.int k1 n.2.1)]) (vs := [.int k0 n.1, .int k1 n.2.1]) rfl (fun i c v hc hv => by
        match i with
        | 0 => cases hc; cases hv; exact .x rfl
        | 1 => cases hc; cases hv; exact .x rfl
        | n + 2 => simp at hc) (fun c hc => by
        simp only [List.mem_cons, List.not_mem_nil, or_false] at hc
        rcases hc with rfl | rfl <;> rfl)
    · obtain ⟨n, _, rfl⟩ := List.mem_map.1 hu
      rw [he]; rfl
    · obtain ⟨b, off, spot⟩ := x
      have hspot : spot = none := by
        cases zs with
        | nil => exact absurd rfl hne
        | cons z r =>
          have := (hc 0 z rfl).1
          simpa [Addr.add] using World.cell?_spot this
      subst hspot
      refine ⟨b, off, rfl, fun j cv hj => ?_⟩
      obtain ⟨i, z, h1, h2⟩ := flat_pairs hj
      obtain ⟨c0, c1, _, _⟩ := hc i z h1
      have hadd : ∀ i, Addr.add ⟨b, off, none⟩ i = ⟨b, off + i, none⟩ := fun i => by simp [Addr.add]
      rw [hadd] at c0 c1
      rcases h2 with ⟨rfl, rfl⟩ | ⟨rfl, rfl⟩
      · exact ⟨c0, World.block_lt_of_cell? w _ c0⟩
      · exact ⟨c1, World.block_lt_of_cell? w _ c1⟩
    · obtain ⟨i, hi⟩ := List.getElem?_of_mem hmem
      obtain ⟨_, _, w0, w1⟩ := hc i z hi
      exact ⟨inKind_of w0, inKind_of w1⟩

section
variable {H : Type} {enc : TypeId × Value → H} {P : Program} {w : World} {base : Nat} {spare : Nat → Bool} {held : Bool}
/-- The reading of such a slice tells its numbers. -/
theorem open_pairs {t e : TypeId} {f0 f1 : Field} {k0 k1 : IntKind} {fuel : Nat} {a0 : Option Addr} {len0 cap0 : Nat} {x : DataW H × List MemPlace} (ht : P.underlying t = some (.slice e)) (he : P.underlying e = some (.struct #[f0, f1]))
    (ce : P.cellsOf e = 2) (o0 : f0.offset = 0) (o1 : f1.offset = 1) (c0 : P.cellsOf f0.type = 1) (c1 : P.cellsOf f1.type = 1) (i0 : P.underlying f0.type = some (.int k0)) (i1 : P.underlying f1.type = some (.int k1))
    (h : DataW.trod enc P w base spare held fuel t [.slice a0 len0 cap0] = some x) : ∃ zs, IsPairs k0 k1 w a0 len0 cap0 zs := by
  rcases Go.Deep.open_slice_pairs ht he ce o0 o1 c0 c1 h with ⟨hcs, _⟩ | ⟨a, len, cap, m, n, V0, V1, D0, D1, P0, P1, hcs, _, hl, hm, hmm, _, hi⟩
  · simp at hcs
    obtain ⟨rfl, rfl, rfl⟩ := hcs
    exact ⟨[], .inl ⟨rfl, rfl, rfl, rfl⟩⟩
  · simp at hcs
    obtain ⟨rfl, rfl, rfl⟩ := hcs
    have hlm : len0 ≤ m := by rw [hmm]; split <;> omega
    have each : ∀ i, i < len0 → ∃ z : Int × Int × Unit, w.cell? (a.add (i * 2)) = some (.int k0 z.1) ∧ w.cell? (a.add (i * 2 + 1)) = some (.int k1 z.2.1) ∧ (Lit.int k0 z.1).wf = true ∧ (Lit.int k1 z.2.1).wf = true := by
      intro i hlt
      obtain ⟨q0, q1, r0, r1⟩ := hi i (by omega)
      obtain ⟨n0, e0, _, w0⟩ := DataW.trod_int i0 r0
      obtain ⟨n1, e1, _, w1⟩ := DataW.trod_int i1 r1
      simp at e0 e1
      rw [e0] at q0
      rw [e1] at q1
      exact ⟨(n0, n1, ()), q0, q1, w0, w1⟩
    obtain ⟨q, hq⟩ := Go.Deep.choose_lt each
    refine ⟨(List.range len0).map q, .inr ⟨a, rfl, hl, hm, by simp, fun i z hz => ?_⟩⟩
    simp only [List.getElem?_map, Option.map_eq_some_iff] at hz
    obtain ⟨j, hj, rfl⟩ := hz
    obtain ⟨hlt, hv⟩ := List.getElem?_eq_some_iff.1 hj
    simp at hlt hv
    subst hv
    exact hq i hlt
end
end Go.AbsM
