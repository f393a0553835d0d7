/-
  The typed machine: closed functions by the abstract machine; laws.
-/
import Derived.Test.YtmfegciehdjicaaAbtGood
set_option linter.unusedVariables false
set_option linter.unusedSimpArgs false
namespace Go.AbsM
open Go.RowKit

def phi (P : Program) (f : FuncId) : Option Func :=
  match P.funcs[f]? with
  | some fn => if fn.name == "runtime.NumGoroutine" then none else some fn
  | none => none
def envN (P : Program) (lend : FuncId → Nat → Bool) : Env := { Φ := phi P, Γ := fun _ _ => none, lend := lend, solo := soloK, ok := fun ops => drawM soloK ops }
theorem envN_ok (P : Program) (lend : FuncId → Nat → Bool) (hw : P.follows .mixedOrders = true) : EnvOk P (envN P lend) where
  fn := fun f fn h => by
    have h : phi P f = some fn := h
    unfold phi at h
    split at h
    · rename_i g hg
      split at h
      · cases h
      · rename_i hn
        simp only [Option.some.injEq] at h; subst h
        exact ⟨hg, by simpa using hn⟩
    · cases h
  ga := fun f args r h => by cases h
  wide := hw
  draw := fun ops h rec s s1 t hr => draw_okM (E := envN P lend) h rec s s1 t hr

/-- A law: it answers true. -/
def lawC (f : FuncId) (sig : List AT) (pre : dens sig → Prop) : TCtr := .det f sig pre (fun _ => TV.bool true) fun _ => rfl
/-- A closed function that answers true. -/
def trueC (f : FuncId) : TCtr := lawC f [] fun _ => True

section
variable {P : Program}
theorem good_closed {f : FuncId} {fn : Func} {lend : FuncId → Nat → Bool} {n : Nat} (hw : P.follows .mixedOrders = true) (hf : Fits P f [] fn) (h : ∀ S, callA P (envN P lend) (Go.AbsM.runN P (envN P lend) n) f [] S = some (S, .x (.bool true))) : GoodC P (trueC f) where
  there := ⟨fn, bodyOf fn, hf.there, body_some hf.body, hf.name⟩
  cells := fun e t hm => by cases hm
  call := fun d _ S => (callA_sound (envN_ok P lend hw) (runN_ok (envN_ok P lend hw) n) (h S)).2

theorem GoodC.law {f : FuncId} {sig : List AT} {pre : dens sig → Prop} (h : GoodC P (lawC f sig pre)) {d : dens sig} (hp : pre d) {w : World} {vs : List Value} (hl : vs.length = (t1s sig d).length)
    (hargs : ∀ (i : Nat) (x : AV) (v : Value), ((t1s sig d).map (T1.emb []))[i]? = some x → vs[i]? = some v → Arg P w x v) : Calls P f vs.toArray w fun e w' => e = .returned (.bool true) ∧ Below w.heap.size w w' :=
  law_calls (h.call d hp []) (by rw [List.length_map]; exact hl) hargs

/-- Integers that came in. -/
def inKind (k : IntKind) (n : Int) : Prop := k.min ≤ n ∧ n ≤ k.max
theorem inKind_of {k : IntKind} {n : Int} (h : (Lit.int k n).wf = true) : inKind k n := by
  simpa [Lit.wf, inKind] using h

/-- Each argument stands for its value. -/
def ArgsOk (P : Program) (w : World) : List AV → List Value → Prop
  | [], [] => True
  | x :: xs, v :: vs => Arg P w x v ∧ ArgsOk P w xs vs
  | _, _ => False
theorem ArgsOk.get {w : World} : ∀ {xs : List AV} {vs : List Value}, ArgsOk P w xs vs → vs.length = xs.length ∧ ∀ (i : Nat) (x : AV) (v : Value), xs[i]? = some x → vs[i]? = some v → Arg P w x v
  | [], [], _ => ⟨rfl, fun i x v h => by simp at h⟩
  | x :: xs, v :: vs, h => by
    obtain ⟨q1, q2⟩ := ArgsOk.get h.2
    refine ⟨by simp [q1], fun i y u hy hu => ?_⟩
    cases i with
    | zero => simp at hy hu; subst hy; subst hu; exact h.1
    | succ i => simp at hy hu; exact q2 i y u hy hu
  | [], _ :: _, h => h.elim
  | _ :: _, [], h => h.elim

theorem GoodC.law2 {f : FuncId} {sig : List AT} {pre : dens sig → Prop} (h : GoodC P (lawC f sig pre)) (d : dens sig) (hp : pre d) {w : World} (vs : List Value) (hargs : ArgsOk P w ((t1s sig d).map (T1.emb [])) vs) :
    Calls P f vs.toArray w fun e w' => e = .returned (.bool true) ∧ Below w.heap.size w w' := by
  obtain ⟨q1, q2⟩ := hargs.get
  exact h.law hp (by rw [q1, List.length_map]) q2

/-- A slice of integers that came in. -/
theorem arg_row {w : World} {k : IntKind} {e : TypeId} (he : P.cellsOf e = 1) {a : Option Addr} {len cap : Nat} {zs : List Int}
    (h : (a = none ∧ len = 0 ∧ cap = 0 ∧ zs = []) ∨ ∃ x, a = some x ∧ len ≤ cap ∧ cap ≤ maxLen ∧ zs.length = cap ∧ (∀ i, i < zs.length → w.cell? (x.add i) = some (.int k (zs.getD i 0))) ∧ ∀ n ∈ zs, (Lit.int k n).wf = true) :
    Arg P w (.sl e ((zs.take len).map (VT.int k).emb)) (.slice a len cap) ∧ (zs.take len).length = len ∧ len ≤ maxLen ∧ ∀ n, n ∈ zs.take len → inKind k n := by
  have hrep : ∀ {A : Option Addr} {c : Nat}, c ≤ maxLen → Arg P w (.sl e []) (.slice A 0 c) := by
    intro A c hc
    exact .sl (us := []) rfl rfl (by simp) hc (by omega) (fun i x u h => by simp at h) (fun u h => by simp at h) (fun h => absurd rfl h)
  rcases h with ⟨rfl, rfl, rfl, rfl⟩ | ⟨x, rfl, hl, hm, hz, hcell, hwz⟩
  · exact ⟨hrep (by omega), rfl, by omega, fun n h => by simp at h⟩
  · have hlen : (zs.take len).length = len := by simp; omega
    refine ⟨?_, hlen, by omega, fun n hn => inKind_of (hwz n (List.mem_of_mem_take hn))⟩
    by_cases h0 : zs = []
    · subst h0
      have : len = 0 := by simp at hz; omega
      subst this
      exact hrep hm
    · have hpos : 0 < zs.length := by
        cases zs with
        | nil => exact absurd rfl h0
        | cons _ _ => simp
      obtain ⟨b, off, spot⟩ := x
      have hc := hcell 0 hpos
      have hspot : spot = none := by simpa [Addr.add] using World.cell?_spot hc
      subst hspot
      refine Arg.ints he hl hm hz fun i hi => ?_
      have hadd : Addr.add ⟨b, off, none⟩ i = ⟨b, off + i, none⟩ := by
        simp [Addr.add]
      rw [← hadd]; exact hcell i hi

theorem in_i64 {n : Int} (h : inKind .i64 n) : -9223372036854775808 ≤ n ∧ n < 9223372036854775808 := by
  simp [inKind, IntKind.min, IntKind.max, IntKind.bits, IntKind.signed] at h; omega
theorem in_u64 {n : Int} (h : inKind .u64 n) : 0 ≤ n ∧ n < 18446744073709551616 := by
  simp [inKind, IntKind.min, IntKind.max, IntKind.bits, IntKind.signed] at h; omega
theorem in_u32 {n : Int} (h : inKind .u32 n) : 0 ≤ n ∧ n < 4294967296 := by
  simp [inKind, IntKind.min, IntKind.max, IntKind.bits, IntKind.signed] at h; omega
theorem in_u16 {n : Int} (h : inKind .u16 n) : 0 ≤ n ∧ n < 65536 := by
  simp [inKind, IntKind.min, IntKind.max, IntKind.bits, IntKind.signed] at h; omega
theorem in_u8 {n : Int} (h : inKind .u8 n) : 0 ≤ n ∧ n < 256 := by
  simp [inKind, IntKind.min, IntKind.max, IntKind.bits, IntKind.signed] at h; omega
end
end Go.AbsM
