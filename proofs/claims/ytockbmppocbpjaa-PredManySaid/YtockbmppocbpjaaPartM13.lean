/-
  Texts of a proof over the translated program: proved evaluators and walks, part 13 of 16.
-/
import Derived.Test.YtockbmppocbpjaaPartM12
import Derived.Below
import Derived.Deep.CutBlock
import Derived.Deep.Grids
import Derived.Deep.RegionHeld3
import Derived.Deep.RegionWith
import Derived.Great.BuildSlice
import Derived.Handy
import Derived.IntWalk
import Derived.Laws.Cells
import Derived.Laws.CopyRow
import Derived.Laws.IdiomStrings
import Derived.Laws.StructEq
import Derived.Lib.Hide
import Derived.LoopTactic
import Derived.MapKept
import Derived.Orders
import Derived.Outline
import Derived.OwnWalk
import Derived.Scope
import Derived.ScopeJumps
import Derived.Test.YtockbmppocbpjaaProg
import Derived.WalkKit
import Derived.WalkMore
import Derived.WalkSpells
set_option linter.unusedVariables false
set_option linter.unusedSimpArgs false
set_option linter.unusedSectionVars false
set_option linter.unnecessarySimpa false
section
namespace Go.Proofs
open Go.RowKit
set_option maxRecDepth 100000
def IsRow (k : IntKind) (w : World) (a : Option Addr) (len cap : Nat) (zs : List Int) : Prop :=
  (a = none ∧ len = 0 ∧ cap = 0 ∧ zs = []) ∨
  ∃ x, a = some x ∧ len ≤ cap ∧ cap ≤ maxLen ∧ zs.length = cap ∧ (∀ i, i < zs.length → w.cell? (x.add i) = some (.int k (zs.getD i 0))) ∧ ∀ n ∈ zs, (Lit.int k n).wf = true
def IsBits (w : World) (a : Option Addr) (len cap : Nat) (B : Nat → Bool) : Prop :=
  (a = none ∧ len = 0 ∧ cap = 0) ∨ ∃ x, a = some x ∧ len ≤ cap ∧ cap ≤ maxLen ∧ ∀ i, i < cap → w.cell? (x.add i) = some (.bool (B i))
def YesV (w : World) (e : Ending) (w' : World) : Prop := e = .returned (.bool true) ∧ Below w.heap.size w w'
theorem cellW {w W : World} {p : Addr} {v : Value} (h : w.cell? p = some v) (hb : Below w.heap.size w W) : W.cell? p = some v := (hb.cell (block_lt_of_cell h)).trans h
def lo0 (zs : List Int) : Int := zs.foldl min 1099511627776
def hi0 (zs : List Int) : Int := zs.foldl max (-1099511627776)
end Go.Proofs
end

section
namespace Go.Proofs
open Go.RowKit
set_option maxRecDepth 100000
def kc (d : Nat) : List Value := (predA 1 (if d = 2 then 1 else 0) (if d = 0 then 2 else 1)).toList
def kcs (ds : List Nat) : List Value := ds.flatMap kc
theorem kc_len (d : Nat) : (kc d).length = 9 := rfl
theorem kcs_len (ds : List Nat) : (kcs ds).length = ds.length * 9 := by
  induction ds with
  | nil => rfl
  | cons d ds ih =>
    have : kcs (d :: ds) = kc d ++ kcs ds := rfl
    rw [this, List.length_append, ih, kc_len, List.length_cons]
    omega
theorem kcs_at (ds : List Nat) (i : Nat) (hi : i < ds.length) (j : Nat) (hj : j < 9) : (kcs ds)[i * 9 + j]? = (kc ds[i])[j]? := by
  induction ds generalizing i with
  | nil => simp at hi
  | cons d ds ih =>
    have e : kcs (d :: ds) = kc d ++ kcs ds := rfl
    rw [e]
    cases i with
    | zero =>
      rw [List.getElem?_append_left (by rw [kc_len]; omega)]
      simp
    | succ i =>
      rw [List.getElem?_append_right (by rw [kc_len]; omega), kc_len]
      have e2 : (i + 1) * 9 + j - 9 = i * 9 + j := by omega
      rw [e2, ih i (by simpa using hi)]
      simp
theorem kc_one (d : Nat) : ∀ u ∈ kc d, u.oneCell' = true := by
  intro u hu
  simp only [kc, predA, Array.toList, List.mem_cons, List.not_mem_nil, or_false] at hu
  rcases hu with rfl | rfl | rfl | rfl | rfl | rfl | rfl | rfl | rfl <;> rfl
theorem kcs_one (ds : List Nat) : ∀ u ∈ kcs ds, u.oneCell' = true := by
  intro u hu
  obtain ⟨d, _, hd⟩ := List.mem_flatMap.1 hu
  exact kc_one d u hd
def q2 : List (Int × Int) := [(1, 1), (0, 0)]
theorem kids_of_own {w : World} {base g cap n : Nat} {ds : List Nat} (h : w.ownsRow base 42 9 (.slice (some ⟨g, 0, none⟩) n cap) n (kcs ds)) (hd : ∀ d ∈ ds, d < 3) :
    ds.length = n ∧ n ≤ cap ∧ cap ≤ maxLen ∧ ∀ i, (hi : i < (ds.map (fun d : Nat => (d : Int))).length) → KidAt w g i q2 (ds.map (fun d : Nat => (d : Int)))[i] := by
  have hl := h.1
  rw [kcs_len] at hl
  have hl' : ds.length = n := by omega
  obtain ⟨g', cap', cur, e, _, _, hc1, hc2, _⟩ : ∃ g' cap' cur, (Value.slice (some ⟨g, 0, none⟩) n cap) = .slice (some ⟨g', 0, none⟩) n cap' ∧ base ≤ g' ∧ w.heap[g']? = some (.cells cur 42 (0, 0)) ∧ n ≤ cap' ∧ cap' ≤ maxLen ∧ cur.size = cap' * 9 ∧ cur.toList.take (n * 9) = kcs ds := by
    rcases h.2 with ⟨h, _⟩ | h
    · cases h
    · exact h
  injection e with e1 e2 e3
  subst e3
  refine ⟨hl', hc1, hc2, fun i hi => ?_⟩
  have hi' : i < ds.length := by simpa using hi
  have hdi : ds[i] < 3 := hd _ (List.getElem_mem hi')
  have hlt : g < w.heap.size := (h.lt g rfl).2
  have hpc : PC w g (i * 9) (predA 1 (if ds[i] = 2 then 1 else 0) (if ds[i] = 0 then 2 else 1)) := by
    refine ⟨hlt, fun j u hu => ?_⟩
    have hj : j < 9 := (Array.getElem?_eq_some_iff.1 hu).1
    rw [h.cellAt (i * 9 + j) (by omega), kcs_at ds i hi' j hj, kc, Array.getElem?_toList]
    exact hu
  rw [List.getElem_map]
  obtain ⟨d, hdd⟩ : ∃ d, ds[i] = d := ⟨_, rfl⟩
  rw [hdd] at hpc hdi ⊢
  have h3 : d = 0 ∨ d = 1 ∨ d = 2 := by omega
  rcases h3 with rfl | rfl | rfl
  · exact ⟨1, 2, 0, hpc, by decide, by decide, .inl rfl, rfl⟩
  · exact ⟨1, 1, 0, hpc, by decide, by decide, .inl rfl, rfl⟩
  · exact ⟨1, 1, 1, hpc, by decide, by decide, .inr rfl, rfl⟩
theorem jv_occ (e : Int) (he : e = 0 ∨ e = 1) (ds : List Nat) (hd : ∀ d ∈ ds, d < 3) : ∀ out : Int, (out = 2 ∨ out = 1 - e) →
    jv e (ds.map (fun d : Nat => (d : Int))) out = if e.toNat ∈ ds then e else if out = 2 ∨ 2 ∈ ds then 2 else 1 - e := by
  induction ds with
  | nil =>
    intro out ho
    simp only [List.map_nil, jv, List.not_mem_nil, if_false, or_false]
    rcases ho with rfl | rfl
    · simp
    · rcases he with rfl | rfl <;> rfl
  | cons d ds ih =>
    intro out ho
    have ih' := ih (fun x hx => hd x (List.mem_cons_of_mem _ hx))
    have hd0 := hd d (List.mem_cons_self ..)
    simp only [List.map_cons, jv, List.mem_cons]
    by_cases h1 : (d : Int) = e
    · have : e.toNat = d := by omega
      rw [if_pos h1, if_pos (.inl this)]
    · have hne : ¬ e.toNat = d := by omega
      rw [if_neg h1]
      by_cases h2 : d = 2
      · have h2' : (d : Int) = 2 := by omega
        rw [if_pos h2', ih' 2 (.inl rfl)]
        subst h2
        simp [hne]
      · have h2' : ¬ (d : Int) = 2 := by omega
        have h2c : ¬ 2 = d := fun h => h2 h.symm
        rw [if_neg h2', ih' out ho]
        simp [hne, h2c]
end Go.Proofs
end

section
namespace Go.Proofs
open Go.RowKit
set_option maxRecDepth 100000
structure NRel (w : World) (os : List (Option Int)) (i : Nat) (v lo hi cnt : Value) (wr : World) : Prop where
  own : VO wr w.heap.size v i ((os.map qo).take i)
  bel : Below w.heap.size w wr
  e1 : lo = .int .i64 (lo0 (nums os i))
  e2 : hi = .int .i64 (hi0 (nums os i))
  e3 : cnt = .int .i64 ((i : Int) - (nums os i).length)
theorem own_next {w w2 : World} {os : List (Option Int)} {i : Nat} {v' : Value} (hi : i < os.length) (hown : w2.ownsRow w.heap.size 28 4 v' (i + 1) (flat ((os.map qo).take i) ++ vc (qo os[i]))) : VO w2 w.heap.size v' (i + 1) ((os.map qo).take (i + 1)) := by
  unfold VO
  rw [List.take_succ_eq_append_getElem (by rw [List.length_map]; exact hi), List.getElem_map, flat_snoc]
  exact hown
theorem NRel.none {w wr wb w2 : World} {os : List (Option Int)} {i : Nat} {v v' lo hi cnt : Value} (h : NRel w os i v lo hi cnt wr) (hi' : i < os.length) (ho : os[i] = none) (hb : Below wr.heap.size wr wb)
    (hown : w2.ownsRow w.heap.size 28 4 v' (i + 1) (flat ((os.map qo).take i) ++ vc (0, 0))) (hg : wb.grownBy w2 v.ownBlock) : NRel w os (i + 1) v' lo hi (.int .i64 ((i : Int) - (nums os i).length + 1)) w2 := by
  have e : nums os (i + 1) = nums os i := by rw [nums_succ os i hi', ho]; simp
  have hb2 := h.bel.trans (hb.mono h.bel.size)
  refine ⟨own_next hi' (by rw [ho]; exact hown), hb2.grown hg hb2.size (fun k hk => (ownB h.own k hk).1), by rw [e]; exact h.e1, by rw [e]; exact h.e2, ?_⟩
  rw [e]
  congr 1
  omega
theorem NRel.some {w wr wb w2 : World} {os : List (Option Int)} {i : Nat} {v v' lo hi cnt : Value} {z : Int} (h : NRel w os i v lo hi cnt wr) (hi' : i < os.length) (ho : os[i] = some z) (hb : Below wr.heap.size wr wb)
    (hown : w2.ownsRow w.heap.size 28 4 v' (i + 1) (flat ((os.map qo).take i) ++ vc (1, z))) (hg : wb.grownBy w2 v.ownBlock) : NRel w os (i + 1) v' (.int .i64 (if z < lo0 (nums os i) then z else lo0 (nums os i))) (.int .i64 (if hi0 (nums os i) < z then z else hi0 (nums os i))) cnt w2 := by
  have e : nums os (i + 1) = nums os i ++ [z] := by rw [nums_succ os i hi', ho]; rfl
  have hb2 := h.bel.trans (hb.mono h.bel.size)
  refine ⟨own_next hi' (by rw [ho]; exact hown), hb2.grown hg hb2.size (fun k hk => (ownB h.own k hk).1), ?_, ?_, ?_⟩
  · have h1 : (if z < lo0 (nums os i) then z else lo0 (nums os i)) = min (lo0 (nums os i)) z := by split <;> omega
    rw [e, h1]; unfold lo0; rw [List.foldl_append]; rfl
  · have h1 : (if hi0 (nums os i) < z then z else hi0 (nums os i)) = max (hi0 (nums os i)) z := by split <;> omega
    rw [e, h1]; unfold hi0; rw [List.foldl_append]; rfl
  · rw [e, h.e3, List.length_append]
    congr 1
    simp
    omega
theorem step_want {P : Program} {ops : Array Oper} {o : Oper} {a : Act} {w : World} {K : Act → World → Prop} {Q : Exit → Act → World → Prop} {E : Prop} (hw : Region.wanted o (yielded ops a.tmps) = true) (h : Oper.wp P o a w K Q) :
    if Region.wanted o (yielded ops a.tmps) = true then Oper.wp P o a w K Q else E := by
  rw [if_pos hw]; exact h
def osOf (n : Nat) (b : Nat → Bool) (z : Nat → Int) : List (Option Int) := (List.range n).map (fun j => if b j then none else some (z j))
theorem NRel.drew {w wr : World} {os : List (Option Int)} {i : Nat} {v lo hi cnt : Value} (h : NRel w os i v lo hi cnt wr) : NRel w os i v lo hi cnt wr.drew := ⟨h.own, h.bel.drew, h.e1, h.e2, h.e3⟩
end Go.Proofs
end

section
namespace Go.Proofs
open Go.RowKit
set_option maxRecDepth 100000
theorem oper_store_at {P : Program} (w : World) {o : Oper} {a : Act} {K : Act → World → Prop} {Q : Exit → Act → World → Prop} (t : TypeId) (p v : Operand)
    (hop : o.op = Op.store t p v) (b e off : Nat) (cs cur new : Array Value) (hp : a.eval p = .pointer (some ⟨b, off, none⟩)) (hv : a.eval v = .agg cs) (hh : w.heap[b]? = some (.cells cur e (0, 0))) (hsz : off + cs.size ≤ cur.size)
    (hnew : (cur.toList.take off ++ cs.toList ++ cur.toList.drop (off + cs.size)).toArray = new)
    (hq : (P.info? t).map (·.size) = some cs.size) (h1 : ∀ u ∈ cs.toList, u.oneCell' = true) (hK : K (a.put o.dst undef) (w.setRow b new)) : Oper.wp P o a w K Q := by
  have hs := run_storeCells_at P b off e cs.toList 0 cur w hh (by simp; omega) h1
  have hc : (cur.toList.take (off + 0) ++ cs.toList ++ cur.toList.drop (off + 0 + cs.toList.length)).toArray = new := by simpa using hnew
  rw [hc] at hs
  have hz := sizeOf_run w hq
  unfold Oper.wp
  have hr : (Instr.storeAt t (Value.pointer (some ⟨b, off, none⟩)) (Value.agg cs)).run P w = .ok () (w.setRow b new) := by
    simp only [Instr.storeAt, storeVar, Sem.run_bind, sure_run, Result.andThen_ok, hz, Value.cells, ne_eq, not_true_eq_false, if_false, hs]
  simp [execOp, hop, hp, hv, hr, Oper.upon]
  exact hK
theorem oper_load_off {P : Program} (w : World) {o : Oper} {a : Act} {K : Act → World → Prop} {Q : Exit → Act → World → Prop} (t : TypeId) (p : Operand)
    (hop : o.op = Op.load t p) (b off : Nat) (cs : Array Value) (fs : Array Field) (hp : a.eval p = .pointer (some ⟨b, off, none⟩)) (hh : ∀ j v, cs[j]? = some v → w.cell? ⟨b, off + j, none⟩ = some v)
    (hq : (P.info? t).map (·.size) = some cs.size) (hu : P.underlying t = some (.struct fs)) (hK : K (a.put o.dst (.agg cs)) w) : Oper.wp P o a w K Q := by
  have hl : (loadCells ⟨b, off, none⟩ cs.size).run P w = .ok cs w := by
    have := run_loadCells_list (P := P) w ⟨b, off, none⟩ cs.toList (fun j v hj => by
      have e : (⟨b, off, none⟩ : Addr).add j = ⟨b, off + j, none⟩ := Addr.add_lit _ _ _
      rw [e]
      exact hh j v (by simpa using hj))
    simpa using this
  have hr : (Instr.loadAt t (Value.pointer (some ⟨b, off, none⟩))).run P w = .ok (.agg cs) w := by
    simp only [Instr.loadAt, loadVar, Sem.run_bind, sure_run, Result.andThen_ok, isAgg_run w hu, if_true, sizeOf_run w hq, hl, Sem.run_pure]
  unfold Oper.wp
  simp [execOp, hop, hp, hr, Oper.upon]
  exact hK
theorem kids3_at (w : World) (d : Nat) (hd : d < 3) : ∀ j v, (kc d).toArray[j]? = some v → (w.alloc (.cells #[.int .i64 1, .int .i64 0, .int .i64 1, .int .i64 2, .string ⟨#[]⟩, .complex .f64 0 0, .complex .f64 0 0, .complex .f64 0 0, .slice none 0 0, .int .i64 1, .int .i64 0, .int .i64 1, .int .i64 1, .string ⟨#[]⟩, .complex .f64 0 0, .complex .f64 0 0, .complex .f64 0 0, .slice none 0 0, .int .i64 1, .int .i64 1, .int .i64 1, .int .i64 1, .string ⟨#[]⟩, .complex .f64 0 0, .complex .f64 0 0, .complex .f64 0 0, .slice none 0 0] 42)).cell? ⟨w.heap.size, d * 9 + j, none⟩ = some v := by
  intro j v hv
  have hh := alloc_here w (.cells (kcs [0, 1, 2]).toArray 42)
  have hj : j < 9 := by
    have := (Array.getElem?_eq_some_iff.1 hv).1
    simpa [kc_len] using this
  have h := cell_of_row _ _ (d * 9 + j) _ 42 _ hh
  refine h.trans ?_
  rw [List.getElem?_toArray, kcs_at [0, 1, 2] d (by simpa using hd) j hj, ← hv, List.getElem?_toArray]
  have h3 : d = 0 ∨ d = 1 ∨ d = 2 := by omega
  rcases h3 with rfl | rfl | rfl <;> rfl
end Go.Proofs
end
