/-
  Texts of a proof over the translated program: proved evaluators and walks, part 14 of 16.
-/
import Derived.Test.YtockbmppocbpjaaPartM13
import Derived.Below
import Derived.Deep.CutBlock
import Derived.Deep.Grids
import Derived.Deep.RegionHeld3
import Derived.Deep.RegionWith
import Derived.Great.BuildSlice
import Derived.Handy
import Derived.IntWalk
import Derived.Laws.AppendOwnNone
import Derived.Laws.Cells
import Derived.Laws.CopyRow
import Derived.Laws.IdiomStrings
import Derived.Laws.StructEq
import Derived.Lib.Hide
import Derived.LoopTactic
import Derived.MapKept
import Derived.Orders
import Derived.Outline
import Derived.OwnWalk
import Derived.Scope
import Derived.ScopeJumps
import Derived.Test.YtockbmppocbpjaaProg
import Derived.WalkKit
import Derived.WalkMore
import Derived.WalkSpells
set_option linter.unusedVariables false
set_option linter.unusedSimpArgs false
set_option linter.unusedSectionVars false
set_option linter.unnecessarySimpa false
section
namespace Go.Proofs
open Go.RowKit
set_option maxRecDepth 100000
theorem fill_one (cs zs : Array Value) (h : zs.size = cs.size) : Instr.fill (fun i => some (i * cs.size, cs.size)) zs [(0, .agg cs)] = some cs := by
  obtain ⟨h1, h2⟩ := Great.foldl_set 0 cs.toList 0 zs
  have e : cs.zipIdx.foldl (fun acc (x : Value × Nat) => acc.setIfInBounds (0 + x.2) x.1) zs = cs := by
    have e0 : cs.zipIdx.foldl (fun acc (x : Value × Nat) => acc.setIfInBounds (0 + x.2) x.1) zs = (cs.toList.zipIdx 0).foldl (fun acc (x : Value × Nat) => acc.setIfInBounds (0 + x.2) x.1) zs := by
      rw [← Array.toList_zipIdx, Array.foldl_toList]
    rw [e0]
    refine Array.ext_getElem? fun k => ?_
    rw [h2 k]
    by_cases hk : k < cs.size
    · rw [if_pos ⟨by omega, by simpa using hk, by omega⟩]
      simp
    · rw [if_neg (by simp; omega), Array.getElem?_eq_none (by omega), Array.getElem?_eq_none (by omega)]
  simp only [Instr.fill, Value.cells, Nat.zero_mul, h, ne_eq, not_true_eq_false, decide_false, Nat.zero_add, gt_iff_lt, Nat.lt_irrefl, Bool.or_self, Bool.false_eq_true, if_false]
  simp only [Nat.zero_add] at e
  exact congrArg some e
theorem wpList_build_one {P : Program} {ops : Array Oper} {rest : List Oper} {o : Oper} {a : Act} {w : World} {Q : Exit → Act → World → Prop} (hg : o.guard = none) (t e : TypeId) (x : Operand) (ho : o.op = .buildSlice t 1 #[(0, x)])
    (cs : Array Value) (hx : a.eval x = .agg cs) (ie : TypeInfo) (z : Value)
    (hu : P.underlying t = some (.slice e)) (hie : P.info? e = some ie) (hz : ie.zero = some z) (hs : ie.size = cs.size) (hc : 0 < cs.size) (hc2 : cs.size ≤ 2 ^ 24)
    (h : wpList P ops Q rest (a.put o.dst (.slice (some ⟨w.heap.size, 0, none⟩) 1 1)) (w.alloc (.cells cs e))) : wpList P ops Q (o :: rest) a w := by
  refine wpList_buildSlice hg t e 1 _ ho cs ie z hu hie hz (by rw [hs]; omega) (by rw [hs]; omega) ?_ h
  have e1 : ((#[(0, x)] : Array (Nat × Operand)).map fun (i, x) => (i, a.eval x)).toList = [(0, .agg cs)] := by simp [hx]
  rw [e1, hs]
  exact fill_one cs _ (by simp)
end Go.Proofs
end

section
namespace Go.Proofs
open Go.RowKit
set_option maxRecDepth 100000
theorem Try.many_cut (w : World) (A : Option Addr) (n c : Nat) (h : n < 2 ∨ 8 < n) : Calls Try.prog 4 #[.slice A n c] w (YesV w) := by
  by_cases h2 : n < 2
  · have d1 : decide ((n : Int) < 2) = true := by simp; omega
    have d1' : decide (n < 2) = true := by simp; omega
    go_enter Try.func4, Try.ntmps4
    go_wp2_with fail
    refine (Try.known11 _).mono ?_
    rintro e w1 ⟨rfl, hb1⟩
    go_wp2
    go_ret
    exact ⟨rfl, hb1⟩
  · have d1 : decide ((n : Int) < 2) = false := by simp; omega
    have d1' : decide (n < 2) = false := by simp; omega
    have d2 : decide (8 < (n : Int)) = true := by simp; omega
    have d2' : decide (8 < n) = true := by simp; omega
    go_enter Try.func4, Try.ntmps4
    go_wp2_with fail
    refine (Try.known11 _).mono ?_
    rintro e w1 ⟨rfl, hb1⟩
    go_wp2
    go_ret
    exact ⟨rfl, hb1⟩
theorem vat_q2 (w : World) : VAt (w.alloc (.cells #[.int .i64 1, .int .i64 1, .string ⟨#[]⟩, .complex .f64 0 0, .int .i64 0, .int .i64 0, .string ⟨#[]⟩, .complex .f64 0 0] 28)) w.heap.size 2 2 q2 := by
  have hh := alloc_here w (.cells #[.int .i64 1, .int .i64 1, .string ⟨#[]⟩, .complex .f64 0 0, .int .i64 0, .int .i64 0, .string ⟨#[]⟩, .complex .f64 0 0] 28)
  refine ⟨by omega, by decide, by simp, fun i hi => ?_⟩
  have key : ∀ j, (w.alloc (.cells #[.int .i64 1, .int .i64 1, .string ⟨#[]⟩, .complex .f64 0 0, .int .i64 0, .int .i64 0, .string ⟨#[]⟩, .complex .f64 0 0] 28)).cell? ⟨w.heap.size, j, none⟩ = (#[.int .i64 1, .int .i64 1, .string ⟨#[]⟩, .complex .f64 0 0, .int .i64 0, .int .i64 0, .string ⟨#[]⟩, .complex .f64 0 0] : Array Value)[j]? := fun j => cell_of_row _ _ j _ 28 _ hh
  have h3 : i = 0 ∨ i = 1 := by simp [q2] at hi; omega
  rcases h3 with rfl | rfl
  · exact ⟨key 0, key 1, key 2, key 3⟩
  · exact ⟨key 4, key 5, key 6, key 7⟩
def dsOf (n : Nat) (z : Nat → Nat) : List Nat := (List.range n).map (fun j => z j % 3)
theorem dsOf_len (n : Nat) (z : Nat → Nat) : (dsOf n z).length = n := by simp [dsOf]
theorem dsOf_get (n : Nat) (z : Nat → Nat) (i : Nat) (hi : i < (dsOf n z).length) : (dsOf n z)[i] = z i % 3 := by simp [dsOf]
theorem dsOf_lt (n : Nat) (z : Nat → Nat) : ∀ d ∈ dsOf n z, d < 3 := by
  intro d hd
  obtain ⟨j, _, rfl⟩ := List.mem_map.1 hd
  omega
structure KRel (w : World) (ds : List Nat) (i : Nat) (kv bv no yes un : Value) (wr : World) : Prop where
  k : wr.ownsRow w.heap.size 42 9 kv i (kcs (ds.take i))
  b : wr.ownsRow w.heap.size 42 9 bv i (kcs (ds.take i).reverse)
  ne : ∀ g, kv.ownBlock = some g → bv.ownBlock ≠ some g
  bel : Below w.heap.size w wr
  e0 : no = .bool (decide (0 ∈ ds.take i))
  e1 : yes = .bool (decide (1 ∈ ds.take i))
  e2 : un = .bool (decide (2 ∈ ds.take i))
theorem kcs_snoc (A : List Nat) (d : Nat) : kcs (A ++ [d]) = kcs A ++ kc d := by simp [kcs]
theorem kcs_front (A : List Nat) (d : Nat) : kcs (A ++ [d]).reverse = kc d ++ kcs A.reverse := by simp [kcs]
theorem take_snoc (ds : List Nat) (i : Nat) (hi : i < ds.length) {d : Nat} (hd : ds[i] = d) : ds.take (i + 1) = ds.take i ++ [d] := by
  rw [List.take_add_one, List.getElem?_eq_getElem hi, hd]; rfl
theorem KRel.back {w wr wd w4 : World} {ds : List Nat} {i : Nat} {kv bv no yes un : Value} (hR : KRel w ds i kv bv no yes un wr) (SD : Below wr.heap.size wr wd) (o : Obj) (g4 : (wd.alloc o).grownBy w4 kv.ownBlock) :
    w4.ownsRow w.heap.size 42 9 bv i (kcs (ds.take i).reverse) := by
  refine ((own_below hR.b SD).alloc o).kept g4 ?_
  rcases hb : bv.ownBlock with _ | g
  · exact .inl rfl
  · refine .inr fun h => ?_
    exact hR.ne g h.symm hb
theorem KRel.pred {w wr wd w4 : World} {ds : List Nat} {i : Nat} {kv bv no yes un : Value} (hR : KRel w ds i kv bv no yes un wr) (o : Obj) (g4 : (wd.alloc o).grownBy w4 kv.ownBlock) {pb : Nat} {kd : Array Value} (PD : VP wd pb kd) (hpb : wr.heap.size ≤ pb) : VP w4 pb kd := by
  have hlt : pb < wd.heap.size := PD.lt
  refine PD.eq ((g4.block pb (by simp; omega) (fun e => ?_)).trans (Below.heap_alloc wd o pb hlt))
  have := (hR.k.lt pb e.symm).2
  omega
theorem KRel.next {w wr wd w4 w5 : World} {ds : List Nat} {i d : Nat} {kv bv kv' bv' : Value} {no yes un : Value} {p q r b0 b1 b2 : Bool} {kl : List Value} {o o' : Obj} (hR : KRel w ds i kv bv no yes un wr) (hi : i < ds.length) (hd : ds[i] = d) (hk : kc d = kl) (SD : Below wr.heap.size wr wd)
    (K1 : w4.ownsRow w.heap.size 42 9 kv' (i + 1) (kcs (ds.take i) ++ kl)) (g4 : (wd.alloc o).grownBy w4 kv.ownBlock)
    (B1 : w5.ownsRow w4.heap.size 42 9 bv' (1 + i) (kl ++ kcs (ds.take i).reverse)) (g5 : (w4.alloc o').grownBy w5 (some w4.heap.size))
    (hp : decide (0 ∈ ds.take i) = p) (hq : decide (1 ∈ ds.take i) = q) (hr : decide (2 ∈ ds.take i) = r) (hb0 : decide (d = 0) = b0) (hb1 : decide (d = 1) = b1) (hb2 : decide (d = 2) = b2) :
    KRel w ds (i + 1) kv' bv' (.bool (p || b0)) (.bool (q || b1)) (.bool (r || b2)) w5 := by
  subst hk hp hq hr hb0 hb1 hb2
  have hT := take_snoc ds i hi hd
  have s1 := hR.bel.size
  have s2 := SD.size
  have s3 : wd.heap.size ≤ (wd.alloc o).heap.size := by simp
  have s4 := g4.size
  have s5 : w4.heap.size ≤ (w4.alloc o').heap.size := by simp
  have s6 := g5.size
  refine ⟨?_, ?_, ?_, ?_, ?_, ?_, ?_⟩
  · rw [hT, kcs_snoc]
    refine (K1.alloc o').kept g5 (.inr fun h => ?_)
    have := (K1.lt _ h).2
    omega
  · rw [hT, kcs_front, Nat.add_comm i 1]
    refine ⟨B1.1, ?_⟩
    rcases B1.2 with h | ⟨g, cap, cur, h1, h2, h3⟩
    · exact .inl h
    · exact .inr ⟨g, cap, cur, h1, by omega, h3⟩
  · intro g h1 h2
    have h3 := (K1.lt _ h1).2
    have h4 := (B1.lt _ h2).1
    omega
  · have h1 : Below w.heap.size w wd := hR.bel.trans (SD.mono (by omega))
    have h2 : Below w.heap.size w w4 := (h1.alloc (by omega) o).grown g4 (by omega) (fun k hk => (hR.k.lt k hk).1)
    exact (h2.alloc (by omega) o').grown g5 (by omega) (fun k hk => by cases hk; omega)
  · rw [hT]; simp [eq_comm]
  · rw [hT]; simp [eq_comm]
  · rw [hT]; simp [eq_comm]
theorem own_split {w : World} {base n : Nat} {v : Value} {xs : List Value} (h : w.ownsRow base 42 9 v n xs) : (v = .slice none 0 0 ∧ n = 0 ∧ xs = []) ∨ ∃ g cap, v = .slice (some ⟨g, 0, none⟩) n cap := by
  rcases h.2 with ⟨h1, h0⟩ | ⟨g, cap, cur, rfl, _⟩
  · exact .inl ⟨h1, h0, List.eq_nil_of_length_eq_zero (by rw [h.1, h0])⟩
  · exact .inr ⟨g, cap, rfl⟩
theorem infoP : ∃ i, Try.prog.info? 42 = some i ∧ i.zero = some (.agg zero9) ∧ i.size = 9 ∧ i.bytes = 120 := by
  have h : (Try.prog.info? 42).map (fun i => (i.zero, i.size, i.bytes)) = some (some (.agg zero9), 9, 120) := by kernel_rfl
  rcases hi : Try.prog.info? 42 with _ | i
  · rw [hi] at h; simp at h
  · rw [hi] at h
    simp only [Option.map_some, Option.some.injEq, Prod.mk.injEq] at h
    exact ⟨i, rfl, h.1, h.2.1, h.2.2⟩
theorem built_one (w : World) (kd : Array Value) (h9 : kd.size = 9) (base : Nat) (hb : base ≤ w.heap.size) : (w.alloc (.cells kd 42)).ownsRow base 42 9 (.slice (some ⟨w.heap.size, 0, none⟩) 1 1) 1 kd.toList :=
  ⟨by simpa using h9, .inr ⟨w.heap.size, 1, kd, rfl, hb, alloc_here w _, Nat.le_refl _, by decide, by simpa using h9, by rw [List.take_of_length_le (by simp; omega)]⟩⟩
theorem built_cells (w : World) (kd : Array Value) : ∀ j u, kd.toList[j]? = some u → (w.alloc (.cells kd 42)).cell? ((⟨w.heap.size, 0, none⟩ : Addr).add j) = some u := by
  intro j u hj
  have e : (⟨w.heap.size, 0, none⟩ : Addr).add j = ⟨w.heap.size, 0 + j, none⟩ := Addr.add_lit _ _ _
  rw [e, Nat.zero_add, cell_of_row _ _ j _ 42 _ (alloc_here w _), ← hj]
  simp
theorem Try.eE {w w' : World} {g n cap gr : Nat} {op e v : Int} {dz : List Int} (hop : (op = 9 ∧ e = 0) ∨ (op = 10 ∧ e = 1)) (hk : ∀ i, (hi : i < dz.length) → KidAt w g i q2 dz[i]) (hb : Below w.heap.size w w') (hm : dz.length = n) (hmc : n ≤ cap) (hck : cap ≤ maxLen)
    (hr : VAt w gr 2 2 q2) (hv : jv e dz (1 - e) = v) :
    Calls Try.prog 13 #[.agg #[.int .i64 op, .int .i64 0, .int .i64 0, .int .i64 0, .string ⟨#[]⟩, .complex .f64 0 0, .complex .f64 0 0, .complex .f64 0 0, .slice (some ⟨g, 0, none⟩) n cap], .slice (some ⟨gr, 0, none⟩) 2 2] w' fun x w2 => x = .returned (.int .i64 v) ∧ Below w.heap.size w w2 := by
  subst hv
  exact (Try.evalBT hop (fun i hi => (hk i hi).below hb) hm hmc hck (hr.below hb) rfl).mono (fun x w2 ⟨h1, h2⟩ => ⟨h1, hb.trans (h2.mono hb.size)⟩)
theorem own_some {w : World} {base n : Nat} {v : Value} {xs : List Value} (h : w.ownsRow base 42 9 v n xs) (hn : n ≠ 0) : ∃ g cap, v = .slice (some ⟨g, 0, none⟩) n cap := by
  rcases h.2 with ⟨_, h0⟩ | ⟨g, cap, cur, rfl, _⟩
  · exact absurd h0 hn
  · exact ⟨g, cap, rfl⟩
theorem jv_and (ds dz : List Nat) (hm : ∀ d, d ∈ dz ↔ d ∈ ds) (hd : ∀ d ∈ ds, d < 3) : jv 0 (dz.map (fun d : Nat => (d : Int))) (1 - 0) = if decide (0 ∈ ds) then 0 else if decide (2 ∈ ds) then 2 else 1 := by
  rw [jv_occ 0 (.inl rfl) dz (fun d h => hd d ((hm d).1 h)) _ (.inr rfl)]
  simp [hm]
theorem jv_or (ds dz : List Nat) (hm : ∀ d, d ∈ dz ↔ d ∈ ds) (hd : ∀ d ∈ ds, d < 3) : jv 1 (dz.map (fun d : Nat => (d : Int))) (1 - 1) = if decide (1 ∈ ds) then 1 else if decide (2 ∈ ds) then 2 else 0 := by
  rw [jv_occ 1 (.inr rfl) dz (fun d h => hd d ((hm d).1 h)) _ (.inr rfl)]
  simp [hm]
end Go.Proofs
end
