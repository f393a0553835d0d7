/-
  The abstract machine: how its values and stores stand to the model's values and memory; what is kept when memory or stores turn.
-/
import Derived.Test.YtmfegciehdjicaaAbsDef
set_option linter.unusedVariables false
set_option linter.unusedSimpArgs false
namespace Go.AbsM

def flat (us : List Value) : List Value := us.flatMap fun u => u.cells.toList

inductive Rep (P : Program) (w : World) (M : Nat → Nat → Prop) : AV → Value → Prop
  | x {v : Value} : plain v = true → Rep P w M (.x v) v
  | str {l : List UInt8} : Rep P w M (.str l) (.string ⟨l.toArray⟩)
  | nils : Rep P w M .nils (.slice none 0 0)
  | cap0 {A : Option Addr} : Rep P w M .cap0 (.slice A 0 0)
  | sl {e : TypeId} {xs : List AV} {A : Option Addr} {n c : Nat} {us : List Value} : n = xs.length → us.length = xs.length → xs.length ≤ c → c ≤ maxLen → 0 < P.cellsOf e →
      (∀ (i : Nat) (x : AV) (u : Value), xs[i]? = some x → us[i]? = some u → Rep P w M x u) → (∀ u, u ∈ us → u.cells.size = P.cellsOf e) →
      (xs ≠ [] → ∃ b o, A = some ⟨b, o, none⟩ ∧ ∀ (j : Nat) (cv : Value), (flat us)[j]? = some cv → w.cell? ⟨b, o + j, none⟩ = some cv ∧ M b (o + j)) → Rep P w M (.sl e xs) (.slice A n c)
  | agg {cs : List AV} {vs : List Value} : vs.length = cs.length → (∀ (i : Nat) (c : AV) (v : Value), cs[i]? = some c → vs[i]? = some v → Rep P w M c v) → (∀ c, c ∈ cs → c.isVal = true) → Rep P w M (.agg cs) (.agg vs.toArray)

theorem Rep.mono {P : Program} {w w' : World} {M M' : Nat → Nat → Prop} (hM : ∀ b o, M b o → M' b o) (hc : ∀ b o, M b o → w'.cell? ⟨b, o, none⟩ = w.cell? ⟨b, o, none⟩) {a : AV} {v : Value} (h : Rep P w M a v) : Rep P w' M' a v := by
  induction h with
  | x h => exact .x h
  | str => exact .str
  | nils => exact .nils
  | cap0 => exact .cap0
  | sl hn hl hxc hcm he _ hsz hcells ih =>
    refine .sl hn hl hxc hcm he ih hsz fun hne => ?_
    obtain ⟨b, o, hA, hj⟩ := hcells hne
    exact ⟨b, o, hA, fun j cv hv => ⟨(hc _ _ (hj j cv hv).2).trans (hj j cv hv).1, hM _ _ (hj j cv hv).2⟩⟩
  | agg hl _ hv ih => exact .agg hl ih hv

theorem Rep.oneCell {P : Program} {w : World} {M : Nat → Nat → Prop} {a : AV} {v : Value} (h : Rep P w M a v) (ha : a.isVal = true) : v.oneCell' = true := by
  cases h with
  | x h => cases v <;> simp_all [plain, Value.oneCell']
  | str => rfl
  | nils => rfl
  | cap0 => rfl
  | sl => rfl
  | agg => simp [AV.isVal] at ha

structure Gh where
  M : Nat → Nat → Prop
  B : Nat → Nat → Nat
  C : Nat → Nat → Nat

/-- A cell: of a box, a struct, a slot. -/
def CRep (P : Program) (w : World) (g : Gh) (S : List Store) (a : AV) (v : Value) : Prop :=
  match a with
  | .arr i k e lo n tot => ∃ fz xs, getOb S i k = some (.arr fz e xs) ∧ tot ≤ xs.length ∧ (xs.length = tot → lo + n ≤ tot ∧ ∃ A c, v = .slice A n c ∧ n ≤ c ∧ c ≤ maxLen ∧
      (lo = 0 ∨ 0 < n → A = some ⟨g.B i k, lo * P.cellsOf e, none⟩) ∧ (fz = false → (lo + c) * P.cellsOf e ≤ g.C i k)) ∧ v.oneCell' = true
  | .ref i k off => (∃ cs, getOb S i k = some (.box cs)) ∧ v = .pointer (some ⟨g.B i k, off, none⟩)
  | .efz cs off => ∃ (b o : Nat) (vs : List Value), v = .pointer (some ⟨b, o + off, none⟩) ∧ vs.length = cs.length ∧ (∀ (j : Nat) (c : AV) (u : Value), cs[j]? = some c → vs[j]? = some u → Rep P w g.M c u) ∧ (∀ c, c ∈ cs → c.isVal = true) ∧
      (∀ (j : Nat) (u : Value), vs[j]? = some u → w.cell? ⟨b, o + j, none⟩ = some u ∧ g.M b (o + j))
  | .ear i k e tot j off => ∃ fz xs, getOb S i k = some (.arr fz e xs) ∧ tot ≤ xs.length ∧ (xs.length = tot → j < tot ∧ v = .pointer (some ⟨g.B i k, j * P.cellsOf e + off, none⟩))
  | .und => v = undef
  | .dead => True
  | .agg _ | .tup _ | .own _ _ | .obj _ => False
  | a => Rep P w g.M a v

def HRep1 (P : Program) (w : World) (g : Gh) (S : List Store) (a : AV) (v : Value) : Prop :=
  match a with
  | .agg cs => ∃ vs : List Value, v = .agg vs.toArray ∧ vs.length = cs.length ∧ ∀ (i : Nat) (c : AV) (u : Value), cs[i]? = some c → vs[i]? = some u → CRep P w g S c u ∧ u.oneCell' = true
  | a => CRep P w g S a v

def HRep (P : Program) (w : World) (g : Gh) (S : List Store) (a : AV) (v : Value) : Prop :=
  match a with
  | .tup as => ∃ vs : List Value, v = .tuple vs.toArray ∧ vs.length = as.length ∧ ∀ (i : Nat) (c : AV) (u : Value), as[i]? = some c → vs[i]? = some u → HRep1 P w g S c u
  | a => HRep1 P w g S a v

/-- The elements of a slice stand to values, each as wide as its type. -/
def RepL (P : Program) (w : World) (M : Nat → Nat → Prop) (e : TypeId) (xs : List AV) (us : List Value) : Prop :=
  us.length = xs.length ∧ (∀ (i : Nat) (x : AV) (u : Value), xs[i]? = some x → us[i]? = some u → Rep P w M x u) ∧ (∀ u, u ∈ us → u.cells.size = P.cellsOf e)

structure SInv (P : Program) (w : World) (g : Gh) (may : Nat → Prop) (S : List Store) : Prop where
  box : ∀ i k cs, getOb S i k = some (.box cs) → may (g.B i k) ∧ (∀ o, ¬ g.M (g.B i k) o) ∧ ∃ (vs : List Value) (t : TypeId), w.heap[g.B i k]? = some (.cells vs.toArray t (0, 0)) ∧ vs.length = cs.length ∧
    ∀ (j : Nat) (c : AV) (u : Value), cs[j]? = some c → vs[j]? = some u → CRep P w g S (c.shift i) u ∧ u.oneCell' = true
  arr : ∀ i k e xs, getOb S i k = some (.arr false e xs) → may (g.B i k) ∧ (∀ o, ¬ g.M (g.B i k) o) ∧ 0 < P.cellsOf e ∧ ∃ (cur : List Value) (us : List Value) (cap : Nat), w.heap[g.B i k]? = some (.cells cur.toArray e (0, 0)) ∧
    cur.length = g.C i k ∧ g.C i k = cap * P.cellsOf e ∧ cap ≤ maxLen ∧ xs.length ≤ cap ∧ RepL P w g.M e xs us ∧ cur.take (xs.length * P.cellsOf e) = flat us
  fz : ∀ i k e xs, getOb S i k = some (.arr true e xs) → 0 < P.cellsOf e ∧ ∃ us : List Value, RepL P w g.M e xs us ∧ ∀ (j : Nat) (cv : Value), (flat us)[j]? = some cv → w.cell? ⟨g.B i k, j, none⟩ = some cv ∧ g.M (g.B i k) j
  inj : ∀ i k o i' k' o', getOb S i k = some o → getOb S i' k' = some o' → o.loose = true → o'.loose = true → g.B i k = g.B i' k' → i = i' ∧ k = k'
  mlt : ∀ b o, g.M b o → b < w.heap.size

end Go.AbsM
