/-
  Texts of a proof over the translated program: proved evaluators and walks, part 12 of 16.
-/
import Derived.Test.YtockbmppocbpjaaPartM11
import Derived.Below
import Derived.Deep.CutBlock
import Derived.Deep.RegionHeld3
import Derived.Deep.RegionWith
import Derived.Handy
import Derived.IntWalk
import Derived.Laws.Cells
import Derived.Laws.CopyRow
import Derived.Laws.StructEq
import Derived.Lib.Hide
import Derived.LoopTactic
import Derived.Outline
import Derived.OwnWalk
import Derived.Scope
import Derived.ScopeJumps
import Derived.Test.YtockbmppocbpjaaProg
import Derived.WalkKit
import Derived.WalkMore
import Derived.WalkSpells
set_option linter.unusedVariables false
set_option linter.unusedSimpArgs false
set_option linter.unusedSectionVars false
set_option linter.unnecessarySimpa false
section
namespace Go.Proofs
open Go.RowKit
theorem sizeOf_run {P : Program} {t : TypeId} {n : Nat} (w : World) (hq : (P.info? t).map (·.size) = some n) : (sizeOf t).run P w = .ok n w := by
  rcases hi : P.info? t with _ | i
  · rw [hi] at hq; simp at hq
  · rw [hi] at hq
    simp at hq
    simp [sizeOf, typeInfo, hi, hq]
theorem isAgg_run {P : Program} {t : TypeId} {fs : Array Field} (w : World) (hq : P.underlying t = some (.struct fs)) : (isAgg t).run P w = .ok true w := by
  simp [isAgg, run_underlying hq]
theorem sure_run {P : Program} (w : World) (a : Addr) : (Instr.sureAddr (.pointer (some a))).run P w = .ok a w := by simp [Instr.sureAddr]
theorem wpList_store_at {P : Program} (w : World) {ops : Array Oper} {rest : List Oper} {o : Oper} {a : Act} {Q : Exit → Act → World → Prop} (hg : o.guard = none) (t : TypeId) (p v : Operand)
    (hop : o.op = Op.store t p v) (b e off : Nat) (cs cur new : Array Value) (hp : a.eval p = .pointer (some ⟨b, off, none⟩)) (hv : a.eval v = .agg cs) (hh : w.heap[b]? = some (.cells cur e (0, 0))) (hsz : off + cs.size ≤ cur.size)
    (hnew : (cur.toList.take off ++ cs.toList ++ cur.toList.drop (off + cs.size)).toArray = new)
    (hq : (P.info? t).map (·.size) = some cs.size) (h1 : ∀ u ∈ cs.toList, u.oneCell' = true) (K : wpList P ops Q rest (a.put o.dst undef) (w.setRow b new)) : wpList P ops Q (o :: rest) a w := by
  refine wpList_plain hg fun K' hK' => ?_
  have hs := run_storeCells_at P b off e cs.toList 0 cur w hh (by simp; omega) h1
  have hc : (cur.toList.take (off + 0) ++ cs.toList ++ cur.toList.drop (off + 0 + cs.toList.length)).toArray = new := by simpa using hnew
  rw [hc] at hs
  have hz := sizeOf_run w hq
  unfold Oper.wp
  have hr : (Instr.storeAt t (Value.pointer (some ⟨b, off, none⟩)) (Value.agg cs)).run P w = .ok () (w.setRow b new) := by
    simp only [Instr.storeAt, storeVar, Sem.run_bind, sure_run, Result.andThen_ok, hz, Value.cells, ne_eq, not_true_eq_false, if_false, hs]
  simp [execOp, hop, hp, hv, hr, Oper.upon]
  exact hK' _ _ K
theorem wpList_load_row {P : Program} (w : World) {ops : Array Oper} {rest : List Oper} {o : Oper} {a : Act} {Q : Exit → Act → World → Prop} (hg : o.guard = none) (t : TypeId) (p : Operand)
    (hop : o.op = Op.load t p) (b e : Nat) (cs : Array Value) (fs : Array Field) (hp : a.eval p = .pointer (some ⟨b, 0, none⟩)) (hh : w.heap[b]? = some (.cells cs e (0, 0)))
    (hq : (P.info? t).map (·.size) = some cs.size) (hu : P.underlying t = some (.struct fs)) (K : wpList P ops Q rest (a.put o.dst (.agg cs)) w) : wpList P ops Q (o :: rest) a w := by
  refine wpList_plain hg fun K' hK' => ?_
  have hl : (loadCells ⟨b, 0, none⟩ cs.size).run P w = .ok cs w := by
    have := run_loadCells_list (P := P) w ⟨b, 0, none⟩ cs.toList (fun j v hj => by
      have e : (⟨b, 0, none⟩ : Addr).add j = ⟨b, j, none⟩ := by unfold Addr.add; split <;> simp_all
      rw [e, cell_of_row w b j _ _ _ hh, ← hj]
      simp)
    simpa using this
  have hr : (Instr.loadAt t (Value.pointer (some ⟨b, 0, none⟩))).run P w = .ok (.agg cs) w := by
    simp only [Instr.loadAt, loadVar, Sem.run_bind, sure_run, Result.andThen_ok, isAgg_run w hu, if_true, sizeOf_run w hq, hl, Sem.run_pure]
  unfold Oper.wp
  simp [execOp, hop, hp, hr, Oper.upon]
  exact hK' _ _ K
theorem setRow_heap' (w : World) (g : Nat) (cs cur : Array Value) (e : Nat) (h : w.heap[g]? = some (.cells cur e (0, 0))) : (w.setRow g cs).heap[g]? = some (.cells cs e (0, 0)) := by
  exact setRow_heap w g cur _ e _ h
theorem setRow_other (w : World) (g : Nat) (cs : Array Value) (k : Nat) (h : k ≠ g) : (w.setRow g cs).heap[k]? = w.heap[k]? := by
  unfold World.setRow
  simp [Array.getElem?_modify, Ne.symm h]
theorem Below.setRow {B : Nat} {a w : World} (h : Below B a w) {g : Nat} (hg : B ≤ g) (cs : Array Value) : Below B a (w.setRow g cs) :=
  ⟨h.os, h.tape, h.output, by have := h.size; simpa [World.setRow] using this, fun k hk => by rw [setRow_other w g cs k (by omega)]; exact h.block k hk⟩
end Go.Proofs
end

section
namespace Go.Proofs
open Go.RowKit
set_option maxRecDepth 100000
def qo : Option Int → Int × Int
  | none => (0, 0)
  | some z => (1, z)
def nums (os : List (Option Int)) (i : Nat) : List Int := (os.take i).filterMap id
def q1 (zs : List Int) : List (Int × Int) := zs.map (fun z => ((1 : Int), z))
theorem nums_succ (os : List (Option Int)) (i : Nat) (hi : i < os.length) : nums os (i + 1) = nums os i ++ (os[i]).toList := by
  unfold nums
  rw [List.take_succ_eq_append_getElem hi, List.filterMap_append]
  cases os[i] <;> rfl
theorem own_below {w w' : World} {B : Nat} {e : TypeId} {size : Nat} {v : Value} {n : Nat} {xs : List Value} (h : w.ownsRow B e size v n xs) (hb : Below w.heap.size w w') : w'.ownsRow B e size v n xs := by
  refine ⟨h.1, ?_⟩
  rcases h.2 with q | ⟨g, cap, cur, rfl, q, hg, r⟩
  · exact .inl q
  · exact .inr ⟨g, cap, cur, rfl, q, (hb.block g (by by_cases hx : g < w.heap.size; exact hx; rw [Array.getElem?_eq_none (by omega)] at hg; cases hg)).trans hg, r⟩
def statCells (rows nulls : Int) (lo hi : Int × Int) : Array Value := #[.int .i64 1, .int .i64 rows, .int .i64 nulls, .int .i64 lo.1, .int .i64 lo.2, .string ⟨#[]⟩, .complex .f64 0 0, .int .i64 hi.1, .int .i64 hi.2, .string ⟨#[]⟩, .complex .f64 0 0, .complex .f64 0 0, .complex .f64 0 0]
def zero13 : Array Value := #[.int .i64 0, .int .i64 0, .int .i64 0, .int .i64 0, .int .i64 0, .string ⟨#[]⟩, .complex .f64 0 0, .int .i64 0, .int .i64 0, .string ⟨#[]⟩, .complex .f64 0 0, .complex .f64 0 0, .complex .f64 0 0]
def VS (w : World) (b : Nat) (cs : Array Value) : Prop := w.heap[b]? = some (.cells cs 33 (0, 0))
theorem VS.lt {w : World} {b : Nat} {cs : Array Value} (h : VS w b cs) : b < w.heap.size := by
  by_cases hx : b < w.heap.size
  · exact hx
  · unfold VS at h; rw [Array.getElem?_eq_none (by omega)] at h; cases h
theorem VS.z {w : World} {b : Nat} {cs : Array Value} (h : VS w b cs) (j : Nat) : w.frozen? ⟨b, j, none⟩ = false := frozen_of_row w b j _ 33 h
theorem VS.c {w : World} {b : Nat} {cs : Array Value} (h : VS w b cs) (j : Nat) : w.cell? ⟨b, j, none⟩ = cs[j]? := cell_of_row w b j _ 33 _ h
theorem VS.eq {w w' : World} {b : Nat} {cs : Array Value} (h : VS w b cs) (e : w'.heap[b]? = w.heap[b]?) : VS w' b cs := e.trans h
theorem VS.below {w w' : World} {b : Nat} {cs : Array Value} (h : VS w b cs) (hb : Below w.heap.size w w') : VS w' b cs := h.eq (hb.block b h.lt)
theorem VS.row {w : World} {b : Nat} {cs : Array Value} (h : VS w b cs) (cs' : Array Value) : VS (w.setRow b cs') b cs' := setRow_heap' w b cs' cs 33 h
structure SRel (w : World) (os : List (Option Int)) (i : Nat) (v : Value) (wr : World) : Prop where
  own : VO wr w.heap.size v (nums os i).length (q1 (nums os i))
  bel : Below w.heap.size w wr
  st : VS wr w.heap.size zero13
theorem SRel.none {w wr w1 : World} {os : List (Option Int)} {i : Nat} {v : Value} (h : SRel w os i v wr) (hi : i < os.length) (ho : os[i] = none) (hb : Below wr.heap.size wr w1) : SRel w os (i + 1) v w1 := by
  have e : nums os (i + 1) = nums os i := by rw [nums_succ os i hi, ho]; simp
  exact ⟨by rw [e]; exact own_below h.own hb, h.bel.trans (hb.mono h.bel.size), h.st.below hb⟩
theorem VH.all {w : World} {b : Nat} {q : Int × Int} (h : VH w b q) : ∀ j u, (vc q)[j]? = some u → w.cell? ((⟨b, 0, none⟩ : Addr).add j) = some u := by
  intro j u hu
  have e : (⟨b, 0, none⟩ : Addr).add j = ⟨b, j, none⟩ := by unfold Addr.add; split <;> simp_all
  rw [e, cell_of_row w b j _ 28 _ h, ← hu]
  simp [vc]
theorem ownB {w : World} {B : Nat} {e : TypeId} {size : Nat} {v : Value} {n : Nat} {xs : List Value} (h : w.ownsRow B e size v n xs) : ∀ k, v.ownBlock = some k → B ≤ k ∧ ∃ cur, w.heap[k]? = some (.cells cur e) := by
  intro k hk
  rcases h.2 with ⟨rfl, _⟩ | ⟨g, cap, cur, rfl, hg, h2, _⟩
  · simp [Value.ownBlock] at hk
  · simp [Value.ownBlock] at hk
    subst hk
    exact ⟨hg, cur, h2⟩
theorem SRel.some {w wr wb w2 : World} {os : List (Option Int)} {i : Nat} {v v' : Value} {z : Int} (h : SRel w os i v wr) (hi : i < os.length) (ho : os[i] = some z) (hb : Below wr.heap.size wr wb)
    (hown : w2.ownsRow w.heap.size 28 4 v' ((nums os i).length + 1) (flat (q1 (nums os i)) ++ vc (1, z))) (hg : wb.grownBy w2 v.ownBlock) : SRel w os (i + 1) v' w2 := by
  have e : nums os (i + 1) = nums os i ++ [z] := by rw [nums_succ os i hi, ho]; rfl
  have hb2 := h.bel.trans (hb.mono h.bel.size)
  refine ⟨?_, hb2.grown hg hb2.size (fun k hk => (ownB h.own k hk).1), ?_⟩
  · rw [e, List.length_append]
    unfold VO
    have e2 : q1 (nums os i ++ [z]) = q1 (nums os i) ++ [(1, z)] := by simp [q1]
    rw [e2, flat_snoc]
    exact hown
  · have hst := h.st.below hb
    refine hst.eq (hg.block _ hst.lt (fun q => ?_))
    obtain ⟨_, cur, hc⟩ := ownB h.own _ q.symm
    have := h.st
    unfold VS at this
    rw [this] at hc
    simp at hc
def endsOf (f : List Int → Nat → Int) (zs : List Int) : Int × Int := if zs = [] then (0, 0) else (1, f zs zs.length)
def statA (os : List (Option Int)) : Array Value := statCells os.length (os.length - (nums os os.length).length) (endsOf lows (nums os os.length)) (endsOf highs (nums os os.length))
end Go.Proofs
end

section
namespace Go.Proofs
open Go.RowKit
set_option maxRecDepth 100000
def predA (op col n : Int) : Array Value := #[.int .i64 op, .int .i64 col, .int .i64 1, .int .i64 n, .string ⟨#[]⟩, .complex .f64 0 0, .complex .f64 0 0, .complex .f64 0 0, .slice none 0 0]
def zero9 : Array Value := #[.int .i64 0, .int .i64 0, .int .i64 0, .int .i64 0, .string ⟨#[]⟩, .complex .f64 0 0, .complex .f64 0 0, .complex .f64 0 0, .slice none 0 0]
def VP (w : World) (b : Nat) (cs : Array Value) : Prop := w.heap[b]? = some (.cells cs 42 (0, 0))
theorem VP.lt {w : World} {b : Nat} {cs : Array Value} (h : VP w b cs) : b < w.heap.size := by
  by_cases hx : b < w.heap.size
  · exact hx
  · unfold VP at h; rw [Array.getElem?_eq_none (by omega)] at h; cases h
theorem VP.z {w : World} {b : Nat} {cs : Array Value} (h : VP w b cs) (j : Nat) : w.frozen? ⟨b, j, none⟩ = false := frozen_of_row w b j _ 42 h
theorem VP.c {w : World} {b : Nat} {cs : Array Value} (h : VP w b cs) (j : Nat) : w.cell? ⟨b, j, none⟩ = cs[j]? := cell_of_row w b j _ 42 _ h
theorem VP.eq {w w' : World} {b : Nat} {cs : Array Value} (h : VP w b cs) (e : w'.heap[b]? = w.heap[b]?) : VP w' b cs := e.trans h
theorem VP.below {w w' : World} {b : Nat} {cs : Array Value} (h : VP w b cs) (hb : Below w.heap.size w w') : VP w' b cs := h.eq (hb.block b h.lt)
theorem VP.row {w : World} {b : Nat} {cs : Array Value} (h : VP w b cs) (cs' : Array Value) : VP (w.setRow b cs') b cs' := setRow_heap' w b cs' cs 42 h
theorem pred_one (op col n : Int) : ∀ u ∈ (predA op col n).toList, u.oneCell' = true := by
  intro u hu
  simp only [predA, List.mem_cons, List.not_mem_nil, or_false] at hu
  rcases hu with rfl | rfl | rfl | rfl | rfl | rfl | rfl | rfl | rfl <;> rfl
theorem Try.size42 (cs : Array Value) (h : cs.size = 9) : (Try.prog.info? 42).map (·.size) = some cs.size := by rw [h]; kernel_rfl
theorem Try.st42 : Try.prog.underlying 42 = some (.struct (Try.prog.fieldsOf 42)) := by kernel_rfl
theorem results_cell1 {P : Program} {fn : Func} {c : Tmp} {t : TypeId} (h : fn.results = #[.cell c t]) (tmps : Array Value) (w : World) (b e : Nat) (cs : Array Value) (fs : Array Field) (ht : tmps.getD c undef = .pointer (some ⟨b, 0, none⟩)) (hh : w.heap[b]? = some (.cells cs e (0, 0)))
    (hq : (P.info? t).map (·.size) = some cs.size) (hu : P.underlying t = some (.struct fs)) : (results fn tmps).run P w = .ok (.agg cs) w := by
  have hl : (loadCells ⟨b, 0, none⟩ cs.size).run P w = .ok cs w := by
    have := run_loadCells_list (P := P) w ⟨b, 0, none⟩ cs.toList (fun j v hj => by
      have e : (⟨b, 0, none⟩ : Addr).add j = ⟨b, j, none⟩ := by unfold Addr.add; split <;> simp_all
      rw [e, cell_of_row w b j _ _ _ hh, ← hj]
      simp)
    simpa using this
  have ht' : tmps[c]?.getD undef = .pointer (some ⟨b, 0, none⟩) := by simpa using ht
  simp [results, h, ht', asAddr, loadVar, isAgg_run w hu, sizeOf_run w hq, hl]
theorem Try.cmpP (op col n : Int) (w : World) : Calls Try.prog 12 #[.int .i64 op, .int .i64 col, .int .i64 n] w fun e w' => e = .returned (.agg (predA op col n)) ∧ Below w.heap.size w w' := by
  have hsc := storeC
  have HA := Lib.hid ((Below.refl _ w).alloc (Nat.le_refl _) (.cells zero9 42))
  have T0 : Hid (VP (w.alloc (.cells zero9 42)) w.heap.size zero9) := Lib.hid (alloc_here w _)
  go_enter Try.func12, Try.ntmps12
  go_wp2_with fail
  refine (Try.nn n _).mono ?_
  rintro e w1 ⟨rfl, hb1⟩
  have T1 := Lib.hid (VP.below (w := w.alloc (.cells zero9 42)) T0.out hb1)
  have B1 := Lib.hid ((HA.out).trans (Below.mono (show Below (w.alloc (.cells zero9 42)).heap.size (w.alloc (.cells zero9 42)) w1 from hb1) (HA.out).size))
  have T2 := Lib.hid ((T1.out).row (predA op col n))
  have B2 := Lib.hid (Below.setRow B1.out (Nat.le_refl _) (predA op col n))
  unfold vN
  clear hb1 T0 HA
  go_wp2_with (refine wpList_store_at _ rfl 42 (.tmp 6) (.tmp 11) rfl w.heap.size 42 0 (predA op col n) zero9 (predA op col n) rfl rfl (T1.out) (show 0 + 9 ≤ 9 by omega) rfl (Try.size42 _ rfl) (pred_one _ _ _) ?_)
  try simp only [Exit.inBlock, Exit.then]
  refine bodyPost_ret (results_cell1 rfl _ _ w.heap.size 42 (predA op col n) _ rfl (T2.out) (Try.size42 _ rfl) Try.st42) rfl ⟨rfl, B2.out⟩
def bi (b : Bool) : Int := if b then 1 else 0
theorem Try.told (b : Bool) (w : World) : Calls Try.prog 94 #[.bool b] w fun e w' => e = .returned (.int .i64 (bi b)) ∧ w = w' := by
  cases b <;> (go_enter Try.func94, Try.ntmps94; go_wp2; go_ret; exact ⟨rfl, rfl⟩)
def opr (op a b : Int) : Bool := if op = 1 then a == b else if op = 2 then !(a == b) else if op = 3 then decide (a < b) else if op = 4 then decide (a ≤ b) else if op = 5 then decide (b < a) else decide (b ≤ a)
theorem sgn_three (a b : Int) : (a < b ∧ sgn a b = -1) ∨ (a = b ∧ sgn a b = 0) ∨ (b < a ∧ sgn a b = 1) := by
  unfold sgn
  by_cases h : a < b
  · exact .inl ⟨h, by rw [if_pos h]⟩
  · by_cases h' : b < a
    · exact .inr (.inr ⟨h', by rw [if_neg h, if_pos h']⟩)
    · exact .inr (.inl ⟨by omega, by rw [if_neg h, if_neg h']⟩)
theorem Try.holdsC (op : Int) (h : 1 ≤ op ∧ op ≤ 6) (o : Int) (ho : o = -1 ∨ o = 0 ∨ o = 1) (w : World) : Calls Try.prog 95 #[.int .i64 op, .int .i64 o] w fun e w' => e = .returned (.bool (opr op o 0)) ∧ w = w' := by
  have h6 : op = 1 ∨ op = 2 ∨ op = 3 ∨ op = 4 ∨ op = 5 ∨ op = 6 := by omega
  clear h
  rcases h6 with rfl | rfl | rfl | rfl | rfl | rfl <;> rcases ho with rfl | rfl | rfl <;> (go_enter Try.func95, Try.ntmps95; go_wp2; go_ret; exact ⟨rfl, rfl⟩)
theorem opr_sgn (op a b : Int) : opr op (sgn a b) 0 = opr op a b := by
  rcases sgn_three a b with ⟨h, e⟩ | ⟨h, e⟩ | ⟨h, e⟩ <;> rw [e] <;> unfold opr <;> (repeat' split) <;> simp <;> omega
theorem Try.holds (op : Int) (h : 1 ≤ op ∧ op ≤ 6) (a b : Int) (w : World) : Calls Try.prog 95 #[.int .i64 op, .int .i64 (sgn a b)] w fun e w' => e = .returned (.bool (opr op a b)) ∧ w = w' := by
  rw [← opr_sgn]
  refine Try.holdsC op h (sgn a b) ?_ w
  rcases sgn_three a b with ⟨_, e⟩ | ⟨_, e⟩ | ⟨_, e⟩ <;> rw [e] <;> simp
theorem Try.asks (op : Int) (h : 1 ≤ op ∧ op ≤ 6) (w : World) : Calls Try.prog 64 #[.int .i64 op] w fun e w' => e = .returned (.bool true) ∧ w = w' := by
  have d1 : decide (1 ≤ op) = true := by simp; omega
  have d2 : decide (op ≤ 8) = true := by simp; omega
  clear h
  go_enter Try.func64, Try.ntmps64
  go_wp2
  go_ret
  exact ⟨rfl, rfl⟩
def trv (op n : Int) (q : Int × Int) : Int := if q = (0, 0) then 2 else bi (opr op q.2 n)
end Go.Proofs
end

section
namespace Go.Proofs
open Go.RowKit
set_option maxRecDepth 100000
theorem VS.grown {w w' : World} {B b : Nat} {cs : Array Value} {v : Value} {n : Nat} {xs : List Value} (h : VS w b cs) (ho : w.ownsRow B 28 4 v n xs) (hg : w.grownBy w' v.ownBlock) : VS w' b cs := by
  refine h.eq (hg.block _ h.lt (fun q => ?_))
  obtain ⟨_, cur, hc⟩ := ownB ho _ q.symm
  unfold VS at h
  rw [h] at hc
  simp at hc
theorem VP.grown {w w' : World} {B b : Nat} {cs : Array Value} {v : Value} {n : Nat} {xs : List Value} (h : VP w b cs) (ho : w.ownsRow B 28 4 v n xs) (hg : w.grownBy w' v.ownBlock) : VP w' b cs := by
  refine h.eq (hg.block _ h.lt (fun q => ?_))
  obtain ⟨_, cur, hc⟩ := ownB ho _ q.symm
  unfold VP at h
  rw [h] at hc
  simp at hc
structure WR (w : World) (P S : Array Value) (v : Value) (n : Nat) (xs : List Value) (wr : World) : Prop where
  p : VP wr w.heap.size P
  s : VS wr (w.heap.size + 1) S
  bel : Below w.heap.size w wr
  own : wr.ownsRow w.heap.size 28 4 v n xs
theorem WR.start (w : World) (P S : Array Value) : WR w P S (.slice none 0 0) 0 [] ((w.alloc (.cells P 42)).alloc (.cells S 33)) := by
  have h1 : VP (w.alloc (.cells P 42)) w.heap.size P := alloc_here w _
  have hA := (Below.refl _ w).alloc (Nat.le_refl _) (.cells P 42)
  have hz : (w.alloc (.cells P 42)).heap.size = w.heap.size + 1 := by simp
  have hB := (Below.refl _ (w.alloc (.cells P 42))).alloc (Nat.le_refl _) (.cells S 33)
  have h2 : VS ((w.alloc (.cells P 42)).alloc (.cells S 33)) (w.heap.size + 1) S := by rw [← hz]; exact alloc_here _ _
  exact ⟨h1.below hB, h2, hA.trans (hB.mono hA.size), World.ownsRow_nil _ _ _ _⟩
theorem WR.below {w wr w1 : World} {P S : Array Value} {v : Value} {n : Nat} {xs : List Value} (h : WR w P S v n xs wr) (hb : Below wr.heap.size wr w1) : WR w P S v n xs w1 :=
  ⟨h.p.below hb, h.s.below hb, h.bel.trans (hb.mono h.bel.size), own_below h.own hb⟩
theorem VAt.one {w : World} {b : Nat} {q : Int × Int} (h : VH w b q) : VAt w b 1 1 [q] := by
  refine ⟨Nat.le_refl _, by decide, h.lt, fun i hi => ?_⟩
  have hi0 : i = 0 := by simpa using hi
  subst hi0
  have := h.vb
  simpa using ⟨this.e1, this.e2, this.e3, this.e4⟩
def witsOf (nl : Int) (L G n : Int) : List (Int × Int) := (if 0 < nl then [(0, 0)] else []) ++ [(1, L), (1, G)] ++ (if L ≤ n ∧ n ≤ G then [(1, n)] else [])
def WitP (w : World) (nl L G n : Int) (e : Ending) (w' : World) : Prop := ∃ v, e = .returned v ∧ VO w' w.heap.size v (witsOf nl L G n).length (witsOf nl L G n) ∧ Below w.heap.size w w'
end Go.Proofs
end

section
namespace Go.Proofs
open Go.RowKit
set_option maxRecDepth 100000
def an3 (x y : Int) : Int := if x = 0 ∨ y = 0 then 0 else max x y
def lor (a b : Int) : Int := Go.bits .or .i64 a b
def hasb (b : Int) (y : Nat) : Bool := (b / (2 ^ y : Nat)) % 2 == 1
def shl1 (x : Int) : Int := if x = 0 then 1 else if x = 1 then 2 else 4
def sOne (x b : Int) : Int := (List.range 3).foldl (fun o y => if hasb b y then lor o (shl1 (an3 x y)) else o) 0
def sBoth (a b : Int) : Int := (List.range 3).foldl (fun o (x : Nat) => if hasb a x then lor o (sOne (x : Int) b) else o) 0
def sTurn (a : Int) : Int := (if hasb a 2 then 4 else 0) + (if hasb a 0 then 2 else 0) + (if hasb a 1 then 1 else 0)
end Go.Proofs
end

section
namespace Go.Proofs
open Go.RowKit
set_option maxRecDepth 100000
structure PC (w : World) (b off : Nat) (cs : Array Value) : Prop where
  lt : b < w.heap.size
  c : ∀ j u, cs[j]? = some u → w.cell? ⟨b, off + j, none⟩ = some u
theorem PC.below {w w' : World} {b off : Nat} {cs : Array Value} (h : PC w b off cs) (hb : Below w.heap.size w w') : PC w' b off cs :=
  ⟨Nat.lt_of_lt_of_le h.lt hb.size, fun j u hu => (hb.cell (p := ⟨b, off + j, none⟩) h.lt).trans (h.c j u hu)⟩
theorem PC.drew {w : World} {b off : Nat} {cs : Array Value} (h : PC w b off cs) : PC w.drew b off cs := ⟨h.lt, h.c⟩
end Go.Proofs
end

section
namespace Go.Proofs
open Go.RowKit
set_option maxRecDepth 100000
theorem Try.askG0 {w : World} {b off : Nat} {op col n : Int} (hp : PC w b off (predA op col n)) (h : 1 ≤ op ∧ op ≤ 6) : Calls Try.prog 68 #[.pointer (some ⟨b, off, none⟩), v0] w fun e w' => e = .returned (.int .i64 2) ∧ Below w.heap.size w w' := by
  have hB := (Below.refl w.heap.size w).alloc (Nat.le_refl _) (.cells #[.int .i64 0, .int .i64 0, .string ⟨#[]⟩, .complex .f64 0 0] 28)
  have p0 : (w.alloc (.cells #[.int .i64 0, .int .i64 0, .string ⟨#[]⟩, .complex .f64 0 0] 28)).cell? ⟨b, off, none⟩ = some (.int .i64 op) := (hp.below hB).c 0 _ rfl
  have HB := Lib.hid hB
  have d1 : (op == 7) = false := by simp; omega
  have d2 : decide (op = 7) = false := by simp; omega
  clear hp h hB
  unfold v0
  go_enter Try.func68, Try.ntmps68
  go_wp2_with fail
  go_ret
  exact ⟨rfl, HB.out⟩
set_option maxHeartbeats 2000000 in
theorem Try.askGN {w : World} {b off : Nat} {op col n a : Int} (hp : PC w b off (predA op col n)) (h : 1 ≤ op ∧ op ≤ 6) : Calls Try.prog 68 #[.pointer (some ⟨b, off, none⟩), vN a] w fun e w' => e = .returned (.int .i64 (bi (opr op a n))) ∧ Below w.heap.size w w' := by
  have hB := (Below.refl w.heap.size w).alloc (Nat.le_refl _) (.cells #[.int .i64 1, .int .i64 a, .string ⟨#[]⟩, .complex .f64 0 0] 28)
  have HP := Lib.hid (hp.below hB)
  have HV := Lib.hid (vh_alloc w (1, a))
  have p0 : (w.alloc (.cells #[.int .i64 1, .int .i64 a, .string ⟨#[]⟩, .complex .f64 0 0] 28)).cell? ⟨b, off, none⟩ = some (.int .i64 op) := (hp.below hB).c 0 _ rfl
  have p2 : (w.alloc (.cells #[.int .i64 1, .int .i64 a, .string ⟨#[]⟩, .complex .f64 0 0] 28)).cell? ⟨b, off + 2, none⟩ = some (.int .i64 1) := (hp.below hB).c 2 _ rfl
  have p3 : (w.alloc (.cells #[.int .i64 1, .int .i64 a, .string ⟨#[]⟩, .complex .f64 0 0] 28)).cell? ⟨b, off + 3, none⟩ = some (.int .i64 n) := (hp.below hB).c 3 _ rfl
  have p4 : (w.alloc (.cells #[.int .i64 1, .int .i64 a, .string ⟨#[]⟩, .complex .f64 0 0] 28)).cell? ⟨b, off + 4, none⟩ = some (.string ⟨#[]⟩) := (hp.below hB).c 4 _ rfl
  have p5 : (w.alloc (.cells #[.int .i64 1, .int .i64 a, .string ⟨#[]⟩, .complex .f64 0 0] 28)).cell? ⟨b, off + 5, none⟩ = some (.complex .f64 0 0) := (hp.below hB).c 5 _ rfl
  have HB := Lib.hid hB
  have HH := Lib.hid h
  have d1 : (op == 7) = false := by simp; omega
  have d2 : decide (op = 7) = false := by simp; omega
  have d3 : (op == 8) = false := by simp; omega
  have d4 : decide (op = 8) = false := by simp; omega
  clear hp h hB
  unfold vN
  go_enter Try.func68, Try.ntmps68
  go_upto_region 7 with fail
  obtain ⟨_, q0, q1, q2, q3⟩ := (HV.out).vb
  refine wp_region_noPanic ?_
  refine wp_region_held_drew (S := (fun W => W.cell? ⟨b, off, none⟩ = some (.int .i64 op) ∧ W.cell? ⟨b, off + 2, none⟩ = some (.int .i64 1) ∧ W.cell? ⟨b, off + 3, none⟩ = some (.int .i64 n) ∧ W.cell? ⟨b, off + 4, none⟩ = some (.string ⟨#[]⟩) ∧ W.cell? ⟨b, off + 5, none⟩ = some (.complex .f64 0 0) ∧ W.cell? ⟨w.heap.size, 0, none⟩ = some (.int .i64 1) ∧ W.cell? ⟨w.heap.size, 1, none⟩ = some (.int .i64 a) ∧ W.cell? ⟨w.heap.size, 2, none⟩ = some (.string ⟨#[]⟩) ∧ W.cell? ⟨w.heap.size, 3, none⟩ = some (.complex .f64 0 0))) (by kernel_rfl) ?_ (fun hHeld => ?_)
  · exact ⟨p0, p2, p3, p4, p5, q0, q1, q2, q3⟩
  refine wpAnyH_take (i := 0) (oi := { dst := some 30, op := Op.move (Operand.tmp 0), type := 76, pos := "eval.go:74", after := #[], guard := none }) (v := ?_) rfl (by kernel_rfl) (by kernel_rfl) (by kernel_rfl) (fun _ _ _ h => h) (Or.inl ⟨by rfl, ?_⟩) (by assumption) ?_
  rotate_left
  · (intro w hSw; (try dsimp only at hSw); go_simp; try with_reducible rfl)
  try simp only [Act.put, List.setIfInBounds_toArray, List.set_cons_zero, List.set_cons_succ]
  refine wpAnyH_take (i := 1) (oi := { dst := some 31, op := Op.nilCheck (Operand.tmp 30), type := 0, pos := "eval.go:74", after := #[{ on := 0, ground := Ground.data }], guard := none }) (v := ?_) rfl (by kernel_rfl) (by kernel_rfl) (by kernel_rfl) (fun _ _ _ h => h) (Or.inl ⟨by rfl, ?_⟩) (by assumption) ?_
  rotate_left
  · (intro w hSw; (try dsimp only at hSw); go_simp; try with_reducible rfl)
  try simp only [Act.put, List.setIfInBounds_toArray, List.set_cons_zero, List.set_cons_succ]
  refine wpAnyH_take (i := 2) (oi := { dst := some 32, op := Op.fieldAddr 42 (Operand.tmp 31) 0, type := 0, pos := "eval.go:74", after := #[{ on := 1, ground := Ground.data }], guard := none }) (v := ?_) rfl (by kernel_rfl) (by kernel_rfl) (by kernel_rfl) (fun _ _ _ h => h) (Or.inl ⟨by rfl, ?_⟩) (by assumption) ?_
  rotate_left
  · (intro w hSw; (try dsimp only at hSw); go_simp; try with_reducible rfl)
  try simp only [Act.put, List.setIfInBounds_toArray, List.set_cons_zero, List.set_cons_succ]
  refine wpAnyH_take (i := 3) (oi := { dst := some 33, op := Op.load 3 (Operand.tmp 32), type := 3, pos := "eval.go:74", after := #[{ on := 2, ground := Ground.data }], guard := none }) (v := ?_) rfl (by kernel_rfl) (by kernel_rfl) (by kernel_rfl) (fun _ _ _ h => h) (Or.inl ⟨by rfl, ?_⟩) (by assumption) ?_
  rotate_left
  · (intro w hSw; (try dsimp only at hSw); go_simp; try with_reducible rfl)
  try simp only [Act.put, List.setIfInBounds_toArray, List.set_cons_zero, List.set_cons_succ]
  refine wpAnyH_take (i := 4) (oi := { dst := some 34, op := Op.load 28 (Operand.tmp 3), type := 28, pos := "eval.go:74", after := #[], guard := none }) (v := ?_) rfl (by kernel_rfl) (by kernel_rfl) (by kernel_rfl) (fun _ _ _ h => h) (Or.inl ⟨by rfl, ?_⟩) (by assumption) ?_
  rotate_left
  · (intro w hSw; (try dsimp only at hSw); go_simp; try with_reducible rfl)
  try simp only [Act.put, List.setIfInBounds_toArray, List.set_cons_zero, List.set_cons_succ]
  refine wpAnyH_take (i := 5) (oi := { dst := some 35, op := Op.move (Operand.tmp 0), type := 76, pos := "eval.go:74", after := #[], guard := none }) (v := ?_) rfl (by kernel_rfl) (by kernel_rfl) (by kernel_rfl) (fun _ _ _ h => h) (Or.inl ⟨by rfl, ?_⟩) (by assumption) ?_
  rotate_left
  · (intro w hSw; (try dsimp only at hSw); go_simp; try with_reducible rfl)
  try simp only [Act.put, List.setIfInBounds_toArray, List.set_cons_zero, List.set_cons_succ]
  refine wpAnyH_take (i := 6) (oi := { dst := some 36, op := Op.nilCheck (Operand.tmp 35), type := 0, pos := "eval.go:74", after := #[{ on := 5, ground := Ground.data }], guard := none }) (v := ?_) rfl (by kernel_rfl) (by kernel_rfl) (by kernel_rfl) (fun _ _ _ h => h) (Or.inl ⟨by rfl, ?_⟩) (by assumption) ?_
  rotate_left
  · (intro w hSw; (try dsimp only at hSw); go_simp; try with_reducible rfl)
  try simp only [Act.put, List.setIfInBounds_toArray, List.set_cons_zero, List.set_cons_succ]
  refine wpAnyH_take (i := 7) (oi := { dst := some 37, op := Op.fieldAddr 42 (Operand.tmp 36) 2, type := 0, pos := "eval.go:74", after := #[{ on := 6, ground := Ground.data }], guard := none }) (v := ?_) rfl (by kernel_rfl) (by kernel_rfl) (by kernel_rfl) (fun _ _ _ h => h) (Or.inl ⟨by rfl, ?_⟩) (by assumption) ?_
  rotate_left
  · (intro w hSw; (try dsimp only at hSw); go_simp; try with_reducible rfl)
  try simp only [Act.put, List.setIfInBounds_toArray, List.set_cons_zero, List.set_cons_succ]
  refine wpAnyH_take (i := 8) (oi := { dst := some 38, op := Op.load 28 (Operand.tmp 37), type := 28, pos := "eval.go:74", after := #[{ on := 7, ground := Ground.data }], guard := none }) (v := ?_) rfl (by kernel_rfl) (by kernel_rfl) (by kernel_rfl) (fun _ _ _ h => h) (Or.inl ⟨by rfl, ?_⟩) (by assumption) ?_
  rotate_left
  · (intro w hSw; (try dsimp only at hSw); go_simp; try with_reducible rfl)
  try simp only [Act.put, List.setIfInBounds_toArray, List.set_cons_zero, List.set_cons_succ]
  refine wpAnyH_ready (rs := [9]) (by kernel_rfl) (by simp) ?_
  refine AllReadyH.cons (o := { dst := some 39, op := Op.call { callee := Callee.value (Operand.func 25), args := #[Operand.tmp 34, Operand.tmp 38], argTypes := #[28, 28] }, type := 3, pos := "eval.go:74", after := #[{ on := 4, ground := Ground.data }, { on := 8, ground := Ground.data }], guard := none }) rfl (fun K hK => ?_) AllReadyH.nil
  go_simp
  refine (Try.compare a n _).mono ?_
  rintro e w1 ⟨rfl, hb⟩
  dsimp only
  have hb' : Below (w.alloc (.cells #[.int .i64 1, .int .i64 a, .string ⟨#[]⟩, .complex .f64 0 0] 28)).heap.size (w.alloc (.cells #[.int .i64 1, .int .i64 a, .string ⟨#[]⟩, .complex .f64 0 0] 28)) w1 := ⟨hb.os, hb.tape, hb.output, hb.size, hb.block⟩
  have KK : Hid ((fun W => W.cell? ⟨b, off, none⟩ = some (.int .i64 op) ∧ W.cell? ⟨b, off + 2, none⟩ = some (.int .i64 1) ∧ W.cell? ⟨b, off + 3, none⟩ = some (.int .i64 n) ∧ W.cell? ⟨b, off + 4, none⟩ = some (.string ⟨#[]⟩) ∧ W.cell? ⟨b, off + 5, none⟩ = some (.complex .f64 0 0) ∧ W.cell? ⟨w.heap.size, 0, none⟩ = some (.int .i64 1) ∧ W.cell? ⟨w.heap.size, 1, none⟩ = some (.int .i64 a) ∧ W.cell? ⟨w.heap.size, 2, none⟩ = some (.string ⟨#[]⟩) ∧ W.cell? ⟨w.heap.size, 3, none⟩ = some (.complex .f64 0 0)) w1) := Lib.hid ⟨((HP.out).below hb').c 0 _ rfl, ((HP.out).below hb').c 2 _ rfl, ((HP.out).below hb').c 3 _ rfl, ((HP.out).below hb').c 4 _ rfl, ((HP.out).below hb').c 5 _ rfl, ((HV.out).below hb').vb.e1, ((HV.out).below hb').vb.e2, ((HV.out).below hb').vb.e3, ((HV.out).below hb').vb.e4⟩
  have B1 := Lib.hid ((HB.out).trans (hb'.mono (HB.out).size))
  clear hb hb'
  refine hK.out _ _ ?_ (fun hHeld => ?_)
  · exact KK.out
  clear hK K
  try simp only [Act.put, List.setIfInBounds_toArray, List.set_cons_zero, List.set_cons_succ]
  refine wpAnyH_ready (rs := [10]) (by kernel_rfl) (by simp) ?_
  refine AllReadyH.cons (o := { dst := some 40, op := Op.call { callee := Callee.value (Operand.func 95), args := #[Operand.tmp 33, Operand.tmp 39], argTypes := #[3, 3] }, type := 4, pos := "eval.go:74", after := #[{ on := 3, ground := Ground.data }, { on := 9, ground := Ground.data }, { on := 9, ground := Ground.chain }], guard := none }) rfl (fun K hK => ?_) AllReadyH.nil
  go_simp
  refine (Try.holds op HH.out a n _).mono ?_
  rintro e w' ⟨rfl, rfl⟩
  dsimp only
  refine hK.out _ _ ?_ (fun hHeld => ?_)
  · exact KK.out
  clear hK K
  try simp only [Act.put, List.setIfInBounds_toArray, List.set_cons_zero, List.set_cons_succ]
  refine wpAnyH_ready (rs := [11]) (by kernel_rfl) (by simp) ?_
  refine AllReadyH.cons (o := { dst := some 41, op := Op.call { callee := Callee.value (Operand.func 94), args := #[Operand.tmp 40], argTypes := #[4] }, type := 3, pos := "eval.go:74", after := #[{ on := 10, ground := Ground.data }, { on := 10, ground := Ground.chain }], guard := none }) rfl (fun K hK => ?_) AllReadyH.nil
  go_simp
  refine (Try.told (opr op a n) _).mono ?_
  rintro e w' ⟨rfl, rfl⟩
  dsimp only
  refine hK.out _ _ ?_ (fun hHeld => ?_)
  · exact KK.out
  clear hK K
  try simp only [Act.put, List.setIfInBounds_toArray, List.set_cons_zero, List.set_cons_succ]
  refine wpAnyH_take (i := 12) (oi := { dst := some 4, op := Op.assign (Operand.tmp 41), type := 3, pos := "eval.go:74", after := #[{ on := 11, ground := Ground.data }, { on := 11, ground := Ground.chain }, { on := 0, ground := Ground.phase }, { on := 1, ground := Ground.phase }, { on := 2, ground := Ground.phase }, { on := 3, ground := Ground.phase }, { on := 4, ground := Ground.phase }, { on := 5, ground := Ground.phase }, { on := 6, ground := Ground.phase }, { on := 7, ground := Ground.phase }, { on := 8, ground := Ground.phase }, { on := 9, ground := Ground.phase }, { on := 10, ground := Ground.phase }, { on := 11, ground := Ground.phase }], guard := none }) (v := ?_) rfl (by kernel_rfl) (by kernel_rfl) (by kernel_rfl) (fun _ _ _ h => h) (Or.inl ⟨by rfl, ?_⟩) (by assumption) ?_
  rotate_left
  · (intro w hSw; (try dsimp only at hSw); go_simp; try with_reducible rfl)
  try simp only [Act.put, List.setIfInBounds_toArray, List.set_cons_zero, List.set_cons_succ]
  refine wpAnyH_done (by kernel_rfl) ?_ _
  refine NoPanic.normal ?_
  go_wp2_with fail
  go_ret
  exact ⟨rfl, B1.out⟩
theorem Try.askG {w : World} {b off : Nat} {op col n : Int} {q : Int × Int} (hp : PC w b off (predA op col n)) (h : 1 ≤ op ∧ op ≤ 6) (hq : NumV q) : Calls Try.prog 68 #[.pointer (some ⟨b, off, none⟩), vV q] w fun e w' => e = .returned (.int .i64 (trv op n q)) ∧ Below w.heap.size w w' := by
  obtain ⟨k, a⟩ := q
  rcases hq with h1 | h1
  · have h' : k = 1 := h1
    subst h'
    have e : trv op n (1, a) = bi (opr op a n) := by unfold trv; rw [if_neg (by simp)]
    rw [e]
    exact Try.askGN hp h
  · obtain ⟨rfl, rfl⟩ := Prod.mk.inj h1
    exact Try.askG0 hp h
set_option maxHeartbeats 2000000 in
theorem Try.evalG {w : World} {b off g m cap c : Nat} {op n lvl : Int} {qs : List (Int × Int)} (hp : PC w b off (predA op c n)) (h : 1 ≤ op ∧ op ≤ 6) (hr : VAt w g m cap qs) (hm : qs.length = m) (hc : c < qs.length) (hq : NumV qs[c]) (hl : lvl ≤ 8) :
    Calls Try.prog 35 #[.pointer (some ⟨b, off, none⟩), .slice (some ⟨g, 0, none⟩) m cap, .int .i64 lvl] w fun e w' => e = .returned (.int .i64 (trv op n qs[c])) ∧ Below w.heap.size w w' := by
  have p0 : w.cell? ⟨b, off, none⟩ = some (.int .i64 op) := hp.c 0 _ rfl
  have p1 : w.cell? ⟨b, off + 1, none⟩ = some (.int .i64 c) := hp.c 1 _ rfl
  have d0 : decide (8 < lvl) = false := by simp; omega
  have d9 : (op == 9) = false := by simp; omega
  have d9' : decide (op = 9) = false := by simp; omega
  have d10 : (op == 10) = false := by simp; omega
  have d10' : decide (op = 10) = false := by simp; omega
  have d11 : (op == 11) = false := by simp; omega
  have d11' : decide (op = 11) = false := by simp; omega
  have d12 : (op == 12) = false := by simp; omega
  have d12' : decide (op = 12) = false := by simp; omega
  have dc : decide ((c : Int) < 0) = false := by simp
  have dm : decide ((m : Int) ≤ c) = false := by simp; omega
  have dm' : decide (m ≤ c) = false := by simp; omega
  have dm2 : decide ((c : Int) < m) = true := by simp; omega
  obtain ⟨e1, e2, e3, e4⟩ := hr.at4 c hc
  have hcm := hr.cm
  have hnc := hr.nc
  unfold maxLen at hcm
  have hcm' : c < m := by omega
  have HP := Lib.hid hp
  have HH := Lib.hid h
  generalize qs[c]'hc = q at e1 e2 hq ⊢
  have HQ := Lib.hid hq
  clear hp hr h hq hl
  go_enter Try.func35, Try.ntmps35
  go_wp2_with fail
  refine (Try.asks op HH.out _).mono ?_
  rintro e w' ⟨rfl, rfl⟩
  go_wp2_with fail
  refine (Try.askG HP.out HH.out HQ.out).mono ?_
  rintro e w1 ⟨rfl, hb⟩
  have HB := Lib.hid hb
  clear hb e1 e2 e3 e4 p0 p1
  go_wp2_with fail
  go_ret
  exact ⟨rfl, HB.out⟩
end Go.Proofs
end

section
namespace Go.Proofs
open Go.RowKit
set_option maxRecDepth 100000
theorem wp_scope_once {P : Program} {c R : Code} {a : Act} {w : World} {Q : Exit → Act → World → Prop} (l : Nat) (J : Act → World → Prop) (μ : Act → World → Nat) (hf : findLabel c l = some (Code.skip.seq R))
    (first : (∀ a w, J a w → R.wp P (Exit.jump l J Q) a w) → c.wp P (Exit.jump l J Q) a w) (pass : ∀ a w, J a w → R.wp P (Exit.jump l (fun a' w' => J a' w' ∧ μ a' w' < μ a w) Q) a w) : (Code.scope c).wp P Q a w := by
  refine wp_scope_jumps l J μ hf (first fun a' w' h => ?_) (fun a w h => wp_seq (wp_skip (pass a w h)))
  refine Code.wp_mono ?_ (pass a' w' h)
  intro e a2 w2 h2
  cases e <;> first | exact h2 | exact ⟨h2.1, h2.2.1⟩
theorem Try.pturn (e : Int) (h : e = 0 ∨ e = 1) (w : World) : Calls Try.prog 67 #[.int .i64 e] w fun x w' => x = .returned (.int .i64 (1 - e)) ∧ w = w' := by
  rcases h with rfl | rfl <;> (go_enter Try.func67, Try.ntmps67; go_wp2; go_ret; exact ⟨rfl, rfl⟩)
def jv (e : Int) : List Int → Int → Int
  | [], out => out
  | d :: ds, out => if d = e then e else jv e ds (if d = 2 then 2 else out)
theorem jv_nil {e out : Int} {ds : List Int} (h : ds.length = 0) : jv e ds out = out := by
  rw [List.eq_nil_of_length_eq_zero h]; rfl
theorem jv_step (e out : Int) (ds : List Int) (i : Nat) (hi : i < ds.length) : jv e (ds.drop i) out = if ds[i] = e then e else jv e (ds.drop (i + 1)) (if ds[i] = 2 then 2 else out) := by
  rw [List.drop_eq_getElem_cons hi]
  rfl
def KidAt (w : World) (gk i : Nat) (qs : List (Int × Int)) (d : Int) : Prop := ∃ (op n : Int) (c : Nat), PC w gk (i * 9) (predA op c n) ∧ (1 ≤ op ∧ op ≤ 6) ∧ ∃ hc : c < qs.length, NumV qs[c] ∧ trv op n qs[c] = d
set_option maxHeartbeats 4000000 in
theorem Try.joinE {w : World} {gk m ck g mr cr : Nat} {lvl e : Int} {qs : List (Int × Int)} {ds : List Int} (hk : ∀ i, (hi : i < ds.length) → KidAt w gk i qs ds[i]) (hm : ds.length = m) (hmc : m ≤ ck) (hck : ck ≤ maxLen) (hr : VAt w g mr cr qs) (hmr : qs.length = mr) (hl : 0 ≤ lvl ∧ lvl ≤ 7) (he : e = 0 ∨ e = 1) :
    Calls Try.prog 66 #[.slice (some ⟨gk, 0, none⟩) m ck, .slice (some ⟨g, 0, none⟩) mr cr, .int .i64 lvl, .int .i64 e] w fun x w' => x = .returned (.int .i64 (jv e ds (1 - e))) ∧ Below w.heap.size w w' := by
  obtain ⟨R, hR⟩ : ∃ R, jv e ds (1 - e) = R := ⟨_, rfl⟩
  rw [hR]
  have HR := Lib.hid hR
  have HK := Lib.hid hk
  have HM := Lib.hid hm
  have HV := Lib.hid hr
  have HMR := Lib.hid hmr
  have HL := Lib.hid hl
  have HE := Lib.hid he
  have hw1 : wrap64 (lvl + 1) = lvl + 1 := by unfold wrap64; omega
  have hw2 : IntKind.i64.wrap (lvl + 1) = lvl + 1 := by rw [IntKind.wrap_i64]; omega
  unfold maxLen at hck
  clear hR hk hm hr hmr hl he
  go_enter Try.func66, Try.ntmps66
  go_wp2
  refine wp_scope_once 0 (fun a' wr => ∃ (i : Nat) (out : Int), i ≤ m ∧ jv e (ds.drop i) out = R ∧ Below w.heap.size w wr ∧ ∃ u11 u12 u13 u14 u15 u16 u17 u18 u19 u20 u21 u22 u23 u24 u25 u26 u27 u28 u29 u30 u31 u32 u33 : Value, a' = { tmps := #[.slice (some ⟨gk, 0, none⟩) m ck, .slice (some ⟨g, 0, none⟩) mr cr, .int .i64 lvl, .int .i64 e, undef, undef, undef, undef, .int .i64 0, .int .i64 out, .int .i64 i, u11, u12, u13, u14, u15, u16, u17, u18, u19, u20, u21, u22, u23, u24, u25, u26, u27, u28, u29, u30, u31, u32, u33], defers := [] }) (fun a' _ => m - (intOf (a'.tmps.getD 10 undef)).toNat) rfl ?_ ?_
  · intro hL
    go_wp2_with (first | (go_at_call 67; refine (Try.pturn e HE.out _).mono ?_; rintro x w' ⟨rfl, rfl⟩) | (refine wp_label ?_; rename_i Q0 K0 hK; refine hK _ _ (hL _ _ ?_); exact ⟨0, 1 - e, Nat.zero_le _, HR.out, Below.refl _ _, _, _, _, _, _, _, _, _, _, _, _, _, _, _, _, _, _, _, _, _, _, _, _, rfl⟩))
  · rintro a' wr ⟨i, out, hi, hj, hb, u11, u12, u13, u14, u15, u16, u17, u18, u19, u20, u21, u22, u23, u24, u25, u26, u27, u28, u29, u30, u31, u32, u33, rfl⟩
    have HB := Lib.hid hb
    have HJ := Lib.hid hj
    clear hb hj
    by_cases hlt : i < m
    · have hD : ((i : Int) == m) = false := by simp; omega
      have hD2 : decide ((i : Int) = m) = false := by simp; omega
      have hD3 : decide (i = m) = false := by simp; omega
      have hil : i < ds.length := by rw [HM.out]; exact hlt
      obtain ⟨op, n, c, hpc, hop, hc, hnum, htr⟩ := (HK.out) i hil
      obtain ⟨d, hd⟩ : ∃ d, ds[i] = d := ⟨_, rfl⟩
      rw [hd] at htr
      have HEV := Lib.hid (Try.evalG (lvl := lvl + 1) (hpc.below HB.out) hop ((HV.out).below HB.out) HMR.out hc hnum (by have := HL.out; omega))
      rw [htr] at HEV
      clear hpc hop hnum htr
      go_wp2_with fail
      refine HEV.out.mono ?_
      rintro x w2 ⟨rfl, hb2⟩
      have HB2 := Lib.hid ((HB.out).trans (hb2.mono (HB.out).size))
      clear hb2 HEV HB
      by_cases hde : d = e
      · have g1 : (d == e) = true := by simpa using hde
        have g1' : decide (d = e) = true := by simpa using hde
        have HN : Hid (e = R) := Lib.hid (by have := HJ.out; rw [jv_step e out ds i hil, if_pos (by rw [hd]; exact hde)] at this; exact this)
        clear hd
        go_wp2_with fail
        simp only [Exit.jump]
        go_ret
        exact ⟨congrArg (fun z => Ending.returned (.int .i64 z)) HN.out, HB2.out⟩
      · have g1 : (d == e) = false := by simpa using hde
        have g1' : decide (d = e) = false := by simpa using hde
        by_cases h2 : d = 2
        · skip
          have HN : Hid (jv e (ds.drop (i + 1)) 2 = R) := Lib.hid (by have := HJ.out; rw [jv_step e out ds i hil, if_neg (by rw [hd]; exact hde), if_pos (by rw [hd]; exact h2)] at this; exact this)
          have g2 : (d == 2) = true := by simpa using h2
          have g2' : decide (d = 2) = true := by simpa using h2
          have g2'' : (d = 2) = True := by simpa using h2
          clear h2 hd
          go_wp2_with fail
          go_step3
          exact ⟨rfl, ⟨i + 1, 2, hlt, HN.out, HB2.out, _, _, _, _, _, _, _, _, _, _, _, _, _, _, _, _, _, _, _, _, _, _, _, rfl⟩, by simp [intOf]; omega⟩
        · skip
          have HN : Hid (jv e (ds.drop (i + 1)) out = R) := Lib.hid (by have := HJ.out; rw [jv_step e out ds i hil, if_neg (by rw [hd]; exact hde), if_neg (by rw [hd]; exact h2)] at this; exact this)
          have g2 : (d == 2) = false := by simpa using h2
          have g2' : decide (d = 2) = false := by simpa using h2
          have g2'' : (d = 2) = False := by simpa using h2
          clear h2 hd
          go_wp2_with fail
          go_step3
          exact ⟨rfl, ⟨i + 1, out, hlt, HN.out, HB2.out, _, _, _, _, _, _, _, _, _, _, _, _, _, _, _, _, _, _, _, _, _, _, _, rfl⟩, by simp [intOf]; omega⟩
    · obtain rfl : i = m := by omega
      have hout : out = R := by have := HJ.out; rwa [jv_nil (by rw [List.length_drop, HM.out]; omega)] at this
      have HO := Lib.hid hout
      clear hout
      go_wp2_with fail
      simp only [Exit.jump]
      go_ret
      exact ⟨congrArg (fun z => Ending.returned (.int .i64 z)) HO.out, HB.out⟩
end Go.Proofs
end

section
namespace Go.Proofs
open Go.RowKit
set_option maxRecDepth 100000
def predB (op : Int) (g m c : Nat) : Array Value := #[.int .i64 op, .int .i64 0, .int .i64 0, .int .i64 0, .string ⟨#[]⟩, .complex .f64 0 0, .complex .f64 0 0, .complex .f64 0 0, .slice (some ⟨g, 0, none⟩) m c]
def NotP (w : World) (op n : Int) (e : Ending) (w' : World) : Prop := ∃ g, e = .returned (.agg (predB 11 g 1 1)) ∧ PC w' g 0 (predA op 0 n) ∧ Below w.heap.size w w'
theorem PC.eq {w w' : World} {b off : Nat} {cs : Array Value} (h : PC w b off cs) (hs : w.heap.size ≤ w'.heap.size) (e : w'.heap[b]? = w.heap[b]?) : PC w' b off cs :=
  ⟨Nat.lt_of_lt_of_le h.lt hs, fun j u hu => (World.cell?_of_block (w := w) (a := ⟨b, off + j, none⟩) e).trans (h.c j u hu)⟩
end Go.Proofs
end

section
namespace Go.Proofs
open Go.RowKit
set_option maxRecDepth 100000
theorem KidAt.below {w w' : World} {gk i : Nat} {qs : List (Int × Int)} {d : Int} (h : KidAt w gk i qs d) (hb : Below w.heap.size w w') : KidAt w' gk i qs d := by
  obtain ⟨op, n, c, h1, h2, hc, h3⟩ := h
  exact ⟨op, n, c, h1.below hb, h2, hc, h3⟩
set_option maxHeartbeats 2000000 in
theorem Try.evalB {w : World} {b gk m ck g mr cr : Nat} {op e : Int} {qs : List (Int × Int)} {ds : List Int} (hop : (op = 9 ∧ e = 0) ∨ (op = 10 ∧ e = 1)) (hb : VP w b (predB op gk m ck)) (hk : ∀ i, (hi : i < ds.length) → KidAt w gk i qs ds[i]) (hm : ds.length = m) (hmc : m ≤ ck) (hck : ck ≤ maxLen) (hr : VAt w g mr cr qs) (hmr : qs.length = mr) :
    Calls Try.prog 35 #[.pointer (some ⟨b, 0, none⟩), .slice (some ⟨g, 0, none⟩) mr cr, .int .i64 1] w fun x w' => x = .returned (.int .i64 (jv e ds (1 - e))) ∧ Below w.heap.size w w' := by
  have HJ := Lib.hid (Try.joinE (lvl := 1) (e := e) hk hm hmc hck hr hmr (by decide) (by omega))
  obtain ⟨R, hR⟩ : ∃ R, jv e ds (1 - e) = R := ⟨_, rfl⟩
  rw [hR] at HJ ⊢
  clear hR
  rcases hop with ⟨rfl, rfl⟩ | ⟨rfl, rfl⟩
  all_goals
    have p0 := hb.c 0
    have p8 := hb.c 8
    simp only [predB] at p0 p8
    simp at p0 p8
    clear hb hk hm hmc hck hr hmr
    go_enter Try.func35, Try.ntmps35
    go_wp2_with fail
    refine HJ.out.mono ?_
    rintro x w1 ⟨rfl, hb⟩
    have HB := Lib.hid hb
    clear hb p0 p8
    go_wp2_with fail
    go_ret
    exact ⟨rfl, HB.out⟩
theorem Try.evalBT {w : World} {gk m ck g mr cr : Nat} {op e : Int} {qs : List (Int × Int)} {ds : List Int} (hop : (op = 9 ∧ e = 0) ∨ (op = 10 ∧ e = 1)) (hk : ∀ i, (hi : i < ds.length) → KidAt w gk i qs ds[i]) (hm : ds.length = m) (hmc : m ≤ ck) (hck : ck ≤ maxLen) (hr : VAt w g mr cr qs) (hmr : qs.length = mr) :
    Calls Try.prog 13 #[.agg (predB op gk m ck), .slice (some ⟨g, 0, none⟩) mr cr] w fun x w' => x = .returned (.int .i64 (jv e ds (1 - e))) ∧ Below w.heap.size w w' := by
  have hA := (Below.refl w.heap.size w).alloc (Nat.le_refl _) (.cells (predB op gk m ck) 42)
  have P0 : VP (w.alloc (.cells (predB op gk m ck) 42)) w.heap.size (predB op gk m ck) := alloc_here w _
  have HJ := Lib.hid (Try.evalB hop P0 (fun i hi => (hk i hi).below hA) hm hmc hck (hr.below hA) hmr)
  have HA := Lib.hid hA
  clear hA P0 hk hm hmc hck hr hmr hop
  unfold predB
  go_enter Try.func13, Try.ntmps13
  go_wp2_with fail
  refine HJ.out.mono ?_
  rintro x w1 ⟨rfl, hb⟩
  have HB := Lib.hid ((HA.out).trans (Below.mono hb (HA.out).size))
  clear hb
  go_wp2_with fail
  go_ret
  exact ⟨rfl, HB.out⟩
end Go.Proofs
end
