/-
  Texts of a proof over the translated program: proved evaluators and walks, part 12 of 13.
-/
import Derived.Test.YtockbmppocbpjaaPart11
import Derived.Below
import Derived.Deep.CutBlock
import Derived.Deep.RegionHeld3
import Derived.Deep.RegionWith
import Derived.Handy
import Derived.IntWalk
import Derived.Laws.Cells
import Derived.Laws.CopyRow
import Derived.Laws.StructEq
import Derived.Lib.Hide
import Derived.LoopTactic
import Derived.Outline
import Derived.OwnWalk
import Derived.Scope
import Derived.ScopeJumps
import Derived.Test.YtockbmppocbpjaaProg
import Derived.WalkKit
import Derived.WalkMore
import Derived.WalkSpells
set_option linter.unusedVariables false
set_option linter.unusedSimpArgs false
set_option linter.unusedSectionVars false
set_option linter.unnecessarySimpa false
section
namespace Go.Proofs
open Go.RowKit
theorem sizeOf_run {P : Program} {t : TypeId} {n : Nat} (w : World) (hq : (P.info? t).map (·.size) = some n) : (sizeOf t).run P w = .ok n w := by
  rcases hi : P.info? t with _ | i
  · rw [hi] at hq; simp at hq
  · rw [hi] at hq
    simp at hq
    simp [sizeOf, typeInfo, hi, hq]
theorem isAgg_run {P : Program} {t : TypeId} {fs : Array Field} (w : World) (hq : P.underlying t = some (.struct fs)) : (isAgg t).run P w = .ok true w := by
  simp [isAgg, run_underlying hq]
theorem sure_run {P : Program} (w : World) (a : Addr) : (Instr.sureAddr (.pointer (some a))).run P w = .ok a w := by simp [Instr.sureAddr]
theorem wpList_store_at {P : Program} (w : World) {ops : Array Oper} {rest : List Oper} {o : Oper} {a : Act} {Q : Exit → Act → World → Prop} (hg : o.guard = none) (t : TypeId) (p v : Operand)
    (hop : o.op = Op.store t p v) (b e off : Nat) (cs cur new : Array Value) (hp : a.eval p = .pointer (some ⟨b, off, none⟩)) (hv : a.eval v = .agg cs) (hh : w.heap[b]? = some (.cells cur e (0, 0))) (hsz : off + cs.size ≤ cur.size)
    (hnew : (cur.toList.take off ++ cs.toList ++ cur.toList.drop (off + cs.size)).toArray = new)
    (hq : (P.info? t).map (·.size) = some cs.size) (h1 : ∀ u ∈ cs.toList, u.oneCell' = true) (K : wpList P ops Q rest (a.put o.dst undef) (w.setRow b new)) : wpList P ops Q (o :: rest) a w := by
  refine wpList_plain hg fun K' hK' => ?_
  have hs := run_storeCells_at P b off e cs.toList 0 cur w hh (by simp; omega) h1
  have hc : (cur.toList.take (off + 0) ++ cs.toList ++ cur.toList.drop (off + 0 + cs.toList.length)).toArray = new := by simpa using hnew
  rw [hc] at hs
  have hz := sizeOf_run w hq
  unfold Oper.wp
  have hr : (Instr.storeAt t (Value.pointer (some ⟨b, off, none⟩)) (Value.agg cs)).run P w = .ok () (w.setRow b new) := by
    simp only [Instr.storeAt, storeVar, Sem.run_bind, sure_run, Result.andThen_ok, hz, Value.cells, ne_eq, not_true_eq_false, if_false, hs]
  simp [execOp, hop, hp, hv, hr, Oper.upon]
  exact hK' _ _ K
theorem results_cell_tmp {P : Program} {fn : Func} {c u : Tmp} {t : TypeId} (h : fn.results = #[.cell c t, .tmp u]) (tmps : Array Value) (w : World) (b e : Nat) (cs : Array Value) (fs : Array Field) (ht : tmps.getD c undef = .pointer (some ⟨b, 0, none⟩)) (hh : w.heap[b]? = some (.cells cs e (0, 0)))
    (hq : (P.info? t).map (·.size) = some cs.size) (hu : P.underlying t = some (.struct fs)) : (results fn tmps).run P w = .ok (.tuple #[.agg cs, tmps.getD u undef]) w := by
  have hl : (loadCells ⟨b, 0, none⟩ cs.size).run P w = .ok cs w := by
    have := run_loadCells_list (P := P) w ⟨b, 0, none⟩ cs.toList (fun j v hj => by
      have e : (⟨b, 0, none⟩ : Addr).add j = ⟨b, j, none⟩ := by unfold Addr.add; split <;> simp_all
      rw [e, cell_of_row w b j _ _ _ hh, ← hj]
      simp)
    simpa using this
  have ht' : tmps[c]?.getD undef = .pointer (some ⟨b, 0, none⟩) := by simpa using ht
  simp [results, h, ht', asAddr, loadVar, isAgg_run w hu, sizeOf_run w hq, hl]
theorem wpList_load_row {P : Program} (w : World) {ops : Array Oper} {rest : List Oper} {o : Oper} {a : Act} {Q : Exit → Act → World → Prop} (hg : o.guard = none) (t : TypeId) (p : Operand)
    (hop : o.op = Op.load t p) (b e : Nat) (cs : Array Value) (fs : Array Field) (hp : a.eval p = .pointer (some ⟨b, 0, none⟩)) (hh : w.heap[b]? = some (.cells cs e (0, 0)))
    (hq : (P.info? t).map (·.size) = some cs.size) (hu : P.underlying t = some (.struct fs)) (K : wpList P ops Q rest (a.put o.dst (.agg cs)) w) : wpList P ops Q (o :: rest) a w := by
  refine wpList_plain hg fun K' hK' => ?_
  have hl : (loadCells ⟨b, 0, none⟩ cs.size).run P w = .ok cs w := by
    have := run_loadCells_list (P := P) w ⟨b, 0, none⟩ cs.toList (fun j v hj => by
      have e : (⟨b, 0, none⟩ : Addr).add j = ⟨b, j, none⟩ := by unfold Addr.add; split <;> simp_all
      rw [e, cell_of_row w b j _ _ _ hh, ← hj]
      simp)
    simpa using this
  have hr : (Instr.loadAt t (Value.pointer (some ⟨b, 0, none⟩))).run P w = .ok (.agg cs) w := by
    simp only [Instr.loadAt, loadVar, Sem.run_bind, sure_run, Result.andThen_ok, isAgg_run w hu, if_true, sizeOf_run w hq, hl, Sem.run_pure]
  unfold Oper.wp
  simp [execOp, hop, hp, hr, Oper.upon]
  exact hK' _ _ K
theorem setRow_heap' (w : World) (g : Nat) (cs cur : Array Value) (e : Nat) (h : w.heap[g]? = some (.cells cur e (0, 0))) : (w.setRow g cs).heap[g]? = some (.cells cs e (0, 0)) := by
  exact setRow_heap w g cur _ e _ h
theorem setRow_other (w : World) (g : Nat) (cs : Array Value) (k : Nat) (h : k ≠ g) : (w.setRow g cs).heap[k]? = w.heap[k]? := by
  unfold World.setRow
  simp [Array.getElem?_modify, Ne.symm h]
theorem Below.setRow {B : Nat} {a w : World} (h : Below B a w) {g : Nat} (hg : B ≤ g) (cs : Array Value) : Below B a (w.setRow g cs) :=
  ⟨h.os, h.tape, h.output, by have := h.size; simpa [World.setRow] using this, fun k hk => by rw [setRow_other w g cs k (by omega)]; exact h.block k hk⟩
end Go.Proofs
end

section
namespace Go.Proofs
open Go.RowKit
set_option maxRecDepth 100000
def qo : Option Int → Int × Int
  | none => (0, 0)
  | some z => (1, z)
theorem qo_num (o : Option Int) : NumV (qo o) := by cases o <;> simp [qo, NumV]
def nums (os : List (Option Int)) (i : Nat) : List Int := (os.take i).filterMap id
def q1 (zs : List Int) : List (Int × Int) := zs.map (fun z => ((1 : Int), z))
theorem nums_succ (os : List (Option Int)) (i : Nat) (hi : i < os.length) : nums os (i + 1) = nums os i ++ (os[i]).toList := by
  unfold nums
  rw [List.take_succ_eq_append_getElem hi, List.filterMap_append]
  cases os[i] <;> rfl
theorem nums_le (os : List (Option Int)) (i : Nat) : (nums os i).length ≤ i := by
  unfold nums
  have := List.length_filterMap_le id (os.take i)
  rw [List.length_take] at this
  omega
theorem Try.colcheck_nil (w : World) : Calls Try.prog 22 #[.slice none 0 0, .int .i64 1] w fun e w' => e = .returned (.int .i64 0) ∧ w = w' := by
  go_enter Try.func22, Try.ntmps22
  go_wp2_with (go_at_call 50; refine (Try.isKind _).mono ?_; rintro e w' ⟨rfl, rfl⟩)
  go_loopw [16] (fun t wr => t = .int .i64 0 ∧ w = wr) (fun t _ => 0)
  case atStart => exact ⟨rfl, rfl⟩
  case round =>
    obtain ⟨rfl, rfl⟩ := hrel
    go_wp2_with fail
    go_ret
    exact ⟨rfl, rfl⟩
theorem own_below {w w' : World} {B : Nat} {e : TypeId} {size : Nat} {v : Value} {n : Nat} {xs : List Value} (h : w.ownsRow B e size v n xs) (hb : Below w.heap.size w w') : w'.ownsRow B e size v n xs := by
  refine ⟨h.1, ?_⟩
  rcases h.2 with q | ⟨g, cap, cur, rfl, q, hg, r⟩
  · exact .inl q
  · exact .inr ⟨g, cap, cur, rfl, q, (hb.block g (by by_cases hx : g < w.heap.size; exact hx; rw [Array.getElem?_eq_none (by omega)] at hg; cases hg)).trans hg, r⟩
theorem infoV : ∃ i, Try.prog.info? 28 = some i ∧ i.zero = some (.agg #[.int .i64 0, .int .i64 0, .string ⟨#[]⟩, .complex .f64 0 0]) ∧ i.size = 4 ∧ i.bytes = 48 := by
  have h : (Try.prog.info? 28).map (fun i => (i.zero, i.size, i.bytes)) = some (some (.agg #[.int .i64 0, .int .i64 0, .string ⟨#[]⟩, .complex .f64 0 0]), 4, 48) := by kernel_rfl
  rcases hi : Try.prog.info? 28 with _ | i
  · rw [hi] at h; simp at h
  · rw [hi] at h
    simp only [Option.map_some, Option.some.injEq, Prod.mk.injEq] at h
    exact ⟨i, rfl, h.1, h.2.1, h.2.2⟩
def statCells (rows nulls : Int) (lo hi : Int × Int) : Array Value := #[.int .i64 1, .int .i64 rows, .int .i64 nulls, .int .i64 lo.1, .int .i64 lo.2, .string ⟨#[]⟩, .complex .f64 0 0, .int .i64 hi.1, .int .i64 hi.2, .string ⟨#[]⟩, .complex .f64 0 0, .complex .f64 0 0, .complex .f64 0 0]
def zero13 : Array Value := #[.int .i64 0, .int .i64 0, .int .i64 0, .int .i64 0, .int .i64 0, .string ⟨#[]⟩, .complex .f64 0 0, .int .i64 0, .int .i64 0, .string ⟨#[]⟩, .complex .f64 0 0, .complex .f64 0 0, .complex .f64 0 0]
def VS (w : World) (b : Nat) (cs : Array Value) : Prop := w.heap[b]? = some (.cells cs 33 (0, 0))
theorem VS.lt {w : World} {b : Nat} {cs : Array Value} (h : VS w b cs) : b < w.heap.size := by
  by_cases hx : b < w.heap.size
  · exact hx
  · unfold VS at h; rw [Array.getElem?_eq_none (by omega)] at h; cases h
theorem VS.z {w : World} {b : Nat} {cs : Array Value} (h : VS w b cs) (j : Nat) : w.frozen? ⟨b, j, none⟩ = false := frozen_of_row w b j _ 33 h
theorem VS.c {w : World} {b : Nat} {cs : Array Value} (h : VS w b cs) (j : Nat) : w.cell? ⟨b, j, none⟩ = cs[j]? := cell_of_row w b j _ 33 _ h
theorem VS.eq {w w' : World} {b : Nat} {cs : Array Value} (h : VS w b cs) (e : w'.heap[b]? = w.heap[b]?) : VS w' b cs := e.trans h
theorem VS.below {w w' : World} {b : Nat} {cs : Array Value} (h : VS w b cs) (hb : Below w.heap.size w w') : VS w' b cs := h.eq (hb.block b h.lt)
theorem vc_one (q : Int × Int) : ∀ u ∈ vc q, u.oneCell' = true := by
  intro u hu
  simp only [vc, List.mem_cons, List.not_mem_nil, or_false] at hu
  rcases hu with rfl | rfl | rfl | rfl <;> rfl
theorem VS.row {w : World} {b : Nat} {cs : Array Value} (h : VS w b cs) (cs' : Array Value) : VS (w.setRow b cs') b cs' := setRow_heap' w b cs' cs 33 h
theorem stat_one (a b : Int) (lo hi : Int × Int) : ∀ u ∈ (statCells a b lo hi).toList, u.oneCell' = true := by
  intro u hu
  simp only [statCells, List.mem_cons, List.not_mem_nil, or_false] at hu
  rcases hu with rfl | rfl | rfl | rfl | rfl | rfl | rfl | rfl | rfl | rfl | rfl | rfl | rfl <;> rfl
theorem vV_one (q : Int × Int) : ∀ u ∈ (#[.int .i64 q.1, .int .i64 q.2, .string ⟨#[]⟩, .complex .f64 0 0] : Array Value).toList, u.oneCell' = true := vc_one q
theorem Try.size33 (cs : Array Value) (h : cs.size = 13) : (Try.prog.info? 33).map (·.size) = some cs.size := by rw [h]; kernel_rfl
theorem Try.size28 (cs : Array Value) (h : cs.size = 4) : (Try.prog.info? 28).map (·.size) = some cs.size := by rw [h]; kernel_rfl
theorem Try.st33 : Try.prog.underlying 33 = some (.struct (Try.prog.fieldsOf 33)) := by kernel_rfl
structure SRel (w : World) (os : List (Option Int)) (i : Nat) (v : Value) (wr : World) : Prop where
  own : VO wr w.heap.size v (nums os i).length (q1 (nums os i))
  bel : Below w.heap.size w wr
  st : VS wr w.heap.size zero13
theorem SRel.none {w wr w1 : World} {os : List (Option Int)} {i : Nat} {v : Value} (h : SRel w os i v wr) (hi : i < os.length) (ho : os[i] = none) (hb : Below wr.heap.size wr w1) : SRel w os (i + 1) v w1 := by
  have e : nums os (i + 1) = nums os i := by rw [nums_succ os i hi, ho]; simp
  exact ⟨by rw [e]; exact own_below h.own hb, h.bel.trans (hb.mono h.bel.size), h.st.below hb⟩
theorem VH.all {w : World} {b : Nat} {q : Int × Int} (h : VH w b q) : ∀ j u, (vc q)[j]? = some u → w.cell? ((⟨b, 0, none⟩ : Addr).add j) = some u := by
  intro j u hu
  have e : (⟨b, 0, none⟩ : Addr).add j = ⟨b, j, none⟩ := by unfold Addr.add; split <;> simp_all
  rw [e, cell_of_row w b j _ 28 _ h, ← hu]
  simp [vc]
theorem ownB {w : World} {B : Nat} {e : TypeId} {size : Nat} {v : Value} {n : Nat} {xs : List Value} (h : w.ownsRow B e size v n xs) : ∀ k, v.ownBlock = some k → B ≤ k ∧ ∃ cur, w.heap[k]? = some (.cells cur e) := by
  intro k hk
  rcases h.2 with ⟨rfl, _⟩ | ⟨g, cap, cur, rfl, hg, h2, _⟩
  · simp [Value.ownBlock] at hk
  · simp [Value.ownBlock] at hk
    subst hk
    exact ⟨hg, cur, h2⟩
theorem SRel.some {w wr wb w2 : World} {os : List (Option Int)} {i : Nat} {v v' : Value} {z : Int} (h : SRel w os i v wr) (hi : i < os.length) (ho : os[i] = some z) (hb : Below wr.heap.size wr wb)
    (hown : w2.ownsRow w.heap.size 28 4 v' ((nums os i).length + 1) (flat (q1 (nums os i)) ++ vc (1, z))) (hg : wb.grownBy w2 v.ownBlock) : SRel w os (i + 1) v' w2 := by
  have e : nums os (i + 1) = nums os i ++ [z] := by rw [nums_succ os i hi, ho]; rfl
  have hb2 := h.bel.trans (hb.mono h.bel.size)
  refine ⟨?_, hb2.grown hg hb2.size (fun k hk => (ownB h.own k hk).1), ?_⟩
  · rw [e, List.length_append]
    unfold VO
    have e2 : q1 (nums os i ++ [z]) = q1 (nums os i) ++ [(1, z)] := by simp [q1]
    rw [e2, flat_snoc]
    exact hown
  · have hst := h.st.below hb
    refine hst.eq (hg.block _ hst.lt (fun q => ?_))
    obtain ⟨_, cur, hc⟩ := ownB h.own _ q.symm
    have := h.st
    unfold VS at this
    rw [this] at hc
    simp at hc
def endsOf (f : List Int → Nat → Int) (zs : List Int) : Int × Int := if zs = [] then (0, 0) else (1, f zs zs.length)
def statA (os : List (Option Int)) : Array Value := statCells os.length (os.length - (nums os os.length).length) (endsOf lows (nums os os.length)) (endsOf highs (nums os os.length))
set_option maxHeartbeats 4000000 in
theorem Try.statOf {w : World} {g n cap : Nat} {os : List (Option Int)} (hv : VAt w g n cap (os.map qo)) (hl : os.length = n) (hn : n ≤ 64) :
    Calls Try.prog 9 #[.slice (some ⟨g, 0, none⟩) n cap, .int .i64 1] w fun e w' => e = .returned (.tuple #[.agg (statA os), .int .i64 0]) ∧ Below w.heap.size w w' := by
  obtain ⟨V, hV⟩ : ∃ V, statA os = V := ⟨_, rfl⟩
  rw [hV]
  have HVV := Lib.hid hV
  clear hV
  have H := Lib.hid hv
  have HL := Lib.hid hl
  have hcm := hv.cm
  have hnc := hv.nc
  unfold maxLen at hcm
  have hsc := storeC
  obtain ⟨i0, hi, hz0, hz1, hz2⟩ := infoV
  have I1 := Lib.hid hi
  have I2 := Lib.hid hz0
  have I3 := Lib.hid hz1
  have I4 := Lib.hid hz2
  clear hv hl hi hz0 hz1 hz2
  go_enter Try.func9, Try.ntmps9
  go_wp2_with fail
  have ha := (Below.refl _ w).alloc (Nat.le_refl _) (.cells zero13 33)
  refine (Try.colcheck (H.out.below ha) (by rw [List.length_map]; exact HL.out) hn (fun i hi => by rw [List.getElem_map]; exact qo_num _)).mono ?_
  rintro e w1 ⟨rfl, hb1⟩
  have H0 : Hid (SRel w os 0 (.slice none 0 0) w1) := Lib.hid ⟨World.ownsRow_nil _ _ _ _, ha.trans (hb1.mono ha.size), VS.below (w := w.alloc (.cells zero13 33)) (alloc_here w _) hb1⟩
  clear hb1 ha
  go_wp2
  go_loopw [7, 20] (fun v t wr => ∃ i : Nat, i ≤ n ∧ t = .int .i64 i ∧ SRel w os i v wr) (fun _ t _ => n - (intOf t).toNat)
  case atStart => exact ⟨0, Nat.zero_le _, rfl, H0.out⟩
  case round =>
    obtain ⟨i, hi, rfl, hb⟩ := hrel
    have HB := Lib.hid hb
    clear hb
    by_cases hlt : i < n
    · have hD : decide ((i : Int) < n) = true := by simpa using hlt
      obtain ⟨e1, e2, e3, e4⟩ := ((H.out).below (HB.out).bel).at4 i (by rw [List.length_map]; have := HL.out; omega)
      simp only [List.getElem_map] at e1 e2 e3 e4
      have hio : i < os.length := by have := HL.out; omega
      cases ho : os[i]'hio with
      | none =>
        rw [ho] at e1 e2
        simp only [qo] at e1 e2
        have HO := Lib.hid ho
        clear ho
        go_wp2_with fail
        have HN := Lib.hid ((HB.out).none hio HO.out ((Below.refl _ wr).alloc (Nat.le_refl _) (.cells #[.int .i64 0, .int .i64 0, .string ⟨#[]⟩, .complex .f64 0 0] 28)))
        exact ⟨⟨i + 1, hlt, rfl, HN.out⟩, by simp [intOf]; omega⟩
      | some z =>
        rw [ho] at e1 e2
        simp only [qo] at e1 e2
        have HO := Lib.hid ho
        clear ho
        have hB1 := (Below.refl _ wr).alloc (Nat.le_refl _) (.cells #[.int .i64 1, .int .i64 z, .string ⟨#[]⟩, .complex .f64 0 0] 28)
        have hB2 := hB1.alloc (by simp) (.cells #[.int .i64 1, .int .i64 z, .string ⟨#[]⟩, .complex .f64 0 0] 28)
        have hwa := own_below (HB.out).own hB2
        have hvh := vh_alloc (wr.alloc (.cells #[.int .i64 1, .int .i64 z, .string ⟨#[]⟩, .complex .f64 0 0] 28)) (1, z)
        have hsz : (wr.alloc (.cells #[.int .i64 1, .int .i64 z, .string ⟨#[]⟩, .complex .f64 0 0] 28)).heap.size = wr.heap.size + 1 := by simp
        rw [hsz] at hvh
        have hall := hvh.all
        have hle := nums_le os i
        have HB2 := Lib.hid hB2
        clear hB1 hB2 hvh
        go_wp2_with (at_builtin; refine wpList_append_own _ rfl (.tmp 27) (.tmp 29) 25 rfl w.heap.size 28 i0 (.agg #[.int .i64 0, .int .i64 0, .string ⟨#[]⟩, .complex .f64 0 0]) 4 48 Try.underlying25 I1.out I2.out I3.out I4.out rfl (by decide) _ _ _ rfl hwa _ _ _ (vc (1, z)) rfl rfl hall (vc_one _) ?c1 ?c2 ?c3 ?c4)
        case c1 => unfold maxLen; omega
        case c2 => omega
        case c3 => have := (HB.out).bel.size; simp; omega
        case c4 =>
          intro v' w2 hown1 hg hne
          have HN := Lib.hid ((HB.out).some hio HO.out HB2.out hown1 hg)
          clear hown1 hg hne hwa hall e1 e2 e3 e4 hle
          go_wp2_with fail
          exact ⟨⟨i + 1, hlt, rfl, HN.out⟩, by simp [intOf]; omega⟩
    · obtain rfl : i = n := by omega
      have hD : decide ((i : Int) < i) = false := by simp
      have hnl := nums_le os i
      have hSV : statA os = statCells i (i - (nums os i).length) (endsOf lows (nums os i)) (endsOf highs (nums os i)) := by unfold statA; rw [HL.out]
      rw [HVV.out] at hSV
      obtain ⟨zs, hzs⟩ : ∃ zs, nums os i = zs := ⟨_, rfl⟩
      obtain ⟨ow, bel, st⟩ := HB.out
      rw [hzs] at ow hnl hSV
      have HSV := Lib.hid hSV
      have BEL := Lib.hid bel
      have ST := Lib.hid st
      clear bel st HB H0 hzs hSV HVV
      have hsub : IntKind.i64.wrap ((i : Int) - (zs.length : Int)) = (i : Int) - zs.length := by rw [IntKind.wrap_i64]; omega
      have hsub' : wrap64 ((i : Int) - (zs.length : Int)) = (i : Int) - zs.length := by unfold wrap64; omega
      rcases ow.at with ⟨rfl, h0⟩ | ⟨g2, cap2, rfl, k1, k2⟩
      · obtain rfl : zs = [] := List.eq_nil_of_length_eq_zero h0
        clear hnl ow hsub hsub' h0
        go_upto_region 16 with fail
        have HA := Lib.hid ((Below.refl _ wr).alloc (Nat.le_refl _) (.cells (statCells i i (0, 0) (0, 0)) 33))
        have T4 := Lib.hid ((ST.out).below HA.out)
        have S10 : Hid (VS (wr.alloc (.cells (statCells i i (0, 0) (0, 0)) 33)) wr.heap.size (statCells i i (0, 0) (0, 0))) := Lib.hid (alloc_here wr _)
        have ST9 := Lib.hid ((T4.out).row (statCells i i (0, 0) (0, 0)))
        have BEL9 := Lib.hid (Below.setRow ((BEL.out).trans ((HA.out).mono (BEL.out).size)) (Nat.le_refl _) (statCells i i (0, 0) (0, 0)))
        go_wp2_with (first | (refine wpList_load_row _ rfl 33 (.tmp 10) rfl wr.heap.size 33 (statCells i i (0, 0) (0, 0)) _ rfl (S10.out) (Try.size33 _ rfl) Try.st33 ?_) | (refine wpList_store_at _ rfl 33 (.tmp 4) (.tmp 55) rfl w.heap.size 33 0 (statCells i i (0, 0) (0, 0)) zero13 (statCells i i (0, 0) (0, 0)) rfl rfl (T4.out) (show 0 + 13 ≤ 13 by omega) rfl (Try.size33 _ rfl) (stat_one _ _ _ _) ?_))
        try simp only [Exit.inBlock, Exit.then]
        have hV0 : V = (statCells i i (0, 0) (0, 0)) := by rw [HSV.out]; simp [endsOf]
        rw [hV0]
        refine bodyPost_ret (results_cell_tmp rfl _ _ w.heap.size 33 (statCells i i (0, 0) (0, 0)) _ rfl (ST9.out) (Try.size33 _ rfl) Try.st33) rfl ⟨rfl, BEL9.out⟩
      · by_cases hp : 0 < zs.length
        · skip
          have K2 := Lib.hid k2
          clear k2 ow
          have hg0 : decide ((0 : Int) < (zs.length : Int)) = true := by simp; omega
          have hg0' : decide (0 < zs.length) = true := by simpa using hp
          have HA := Lib.hid ((Below.refl _ wr).alloc (Nat.le_refl _) (.cells (statCells i ((i : Int) - (zs.length : Int)) (0, 0) (0, 0)) 33))
          have T4 := Lib.hid ((ST.out).below HA.out)
          have S10 : Hid (VS (wr.alloc (.cells (statCells i ((i : Int) - (zs.length : Int)) (0, 0) (0, 0)) 33)) wr.heap.size (statCells i ((i : Int) - (zs.length : Int)) (0, 0) (0, 0))) := Lib.hid (alloc_here wr _)
          have BA := Lib.hid ((BEL.out).trans ((HA.out).mono (BEL.out).size))
          have K3 := Lib.hid ((K2.out).below HA.out)
          go_wp2_with fail
          have hp5 := Try.minf (K3.out) rfl hp
          refine hp5.mono ?_
          clear hp5
          rintro e w5 ⟨rfl, hb5⟩
          have T5 := Lib.hid ((T4.out).below hb5)
          have S5 := Lib.hid ((S10.out).below hb5)
          have B5 := Lib.hid ((BA.out).trans (hb5.mono (BA.out).size))
          have K5 := Lib.hid ((K3.out).below hb5)
          clear hb5 T4 S10 BA K3 HA
          go_wp2_with fail
          have hp6 := Try.maxf (K5.out) rfl hp
          refine hp6.mono ?_
          clear hp6
          rintro e w6 ⟨rfl, hb6⟩
          have T6 := Lib.hid ((T5.out).below hb6)
          have S6 := Lib.hid ((S5.out).below hb6)
          have B6 := Lib.hid ((B5.out).trans (hb6.mono (B5.out).size))
          clear hb6 T5 S5 B5 K5
          have hne : w.heap.size ≠ wr.heap.size := by have := (ST.out).lt; omega
          have S7 := Lib.hid ((S6.out).row (statCells i ((i : Int) - (zs.length : Int)) (1, lows zs zs.length) (0, 0)))
          have S8 := Lib.hid ((S7.out).row (statCells i ((i : Int) - (zs.length : Int)) (1, lows zs zs.length) (1, highs zs zs.length)))
          have T8 := Lib.hid (((T6.out).eq (setRow_other w6 wr.heap.size (statCells i ((i : Int) - (zs.length : Int)) (1, lows zs zs.length) (0, 0)) _ hne)).eq (setRow_other _ wr.heap.size (statCells i ((i : Int) - (zs.length : Int)) (1, lows zs zs.length) (1, highs zs zs.length)) _ hne))
          have ST9 := Lib.hid ((T8.out).row (statCells i ((i : Int) - (zs.length : Int)) (1, lows zs zs.length) (1, highs zs zs.length)))
          have BEL9 := Lib.hid (Below.setRow (Below.setRow (Below.setRow B6.out (BEL.out).size (statCells i ((i : Int) - (zs.length : Int)) (1, lows zs zs.length) (0, 0))) (BEL.out).size (statCells i ((i : Int) - (zs.length : Int)) (1, lows zs zs.length) (1, highs zs zs.length))) (Nat.le_refl _) (statCells i ((i : Int) - (zs.length : Int)) (1, lows zs zs.length) (1, highs zs zs.length)))
          go_wp2_with (first
            | (refine wpList_store_at _ rfl 28 (.tmp 53) (.tmp 50) rfl wr.heap.size 33 3 (#[.int .i64 1, .int .i64 (lows zs zs.length), .string ⟨#[]⟩, .complex .f64 0 0] : Array Value) (statCells i ((i : Int) - (zs.length : Int)) (0, 0) (0, 0)) (statCells i ((i : Int) - (zs.length : Int)) (1, lows zs zs.length) (0, 0)) rfl rfl (S6.out) (show 3 + 4 ≤ 13 by omega) rfl (Try.size28 _ rfl) (vV_one (1, lows zs zs.length)) ?_)
            | (refine wpList_store_at _ rfl 28 (.tmp 54) (.tmp 52) rfl wr.heap.size 33 7 (#[.int .i64 1, .int .i64 (highs zs zs.length), .string ⟨#[]⟩, .complex .f64 0 0] : Array Value) (statCells i ((i : Int) - (zs.length : Int)) (1, lows zs zs.length) (0, 0)) (statCells i ((i : Int) - (zs.length : Int)) (1, lows zs zs.length) (1, highs zs zs.length)) rfl rfl (S7.out) (show 7 + 4 ≤ 13 by omega) rfl (Try.size28 _ rfl) (vV_one (1, highs zs zs.length)) ?_)
            | (refine wpList_load_row _ rfl 33 (.tmp 10) rfl wr.heap.size 33 (statCells i ((i : Int) - (zs.length : Int)) (1, lows zs zs.length) (1, highs zs zs.length)) _ rfl (S8.out) (Try.size33 _ rfl) Try.st33 ?_)
            | (refine wpList_store_at _ rfl 33 (.tmp 4) (.tmp 55) rfl w.heap.size 33 0 (statCells i ((i : Int) - (zs.length : Int)) (1, lows zs zs.length) (1, highs zs zs.length)) zero13 (statCells i ((i : Int) - (zs.length : Int)) (1, lows zs zs.length) (1, highs zs zs.length)) rfl rfl (T8.out) (show 0 + 13 ≤ 13 by omega) rfl (Try.size33 _ rfl) (stat_one _ _ _ _) ?_))
          try simp only [Exit.inBlock, Exit.then]
          have hV0 : V = (statCells i ((i : Int) - (zs.length : Int)) (1, lows zs zs.length) (1, highs zs zs.length)) := by
            rw [HSV.out]
            unfold endsOf
            rw [if_neg (by intro q; rw [q] at hp; simp at hp), if_neg (by intro q; rw [q] at hp; simp at hp)]
          rw [hV0]
          refine bodyPost_ret (results_cell_tmp rfl _ _ w.heap.size 33 (statCells i ((i : Int) - (zs.length : Int)) (1, lows zs zs.length) (1, highs zs zs.length)) _ rfl (ST9.out) (Try.size33 _ rfl) Try.st33) rfl ⟨rfl, BEL9.out⟩
        · obtain rfl : zs = [] := List.eq_nil_of_length_eq_zero (by omega)
          clear hnl ow hsub hsub' k2 hp
          go_upto_region 16 with fail
          have HA := Lib.hid ((Below.refl _ wr).alloc (Nat.le_refl _) (.cells (statCells i i (0, 0) (0, 0)) 33))
          have T4 := Lib.hid ((ST.out).below HA.out)
          have S10 : Hid (VS (wr.alloc (.cells (statCells i i (0, 0) (0, 0)) 33)) wr.heap.size (statCells i i (0, 0) (0, 0))) := Lib.hid (alloc_here wr _)
          have ST9 := Lib.hid ((T4.out).row (statCells i i (0, 0) (0, 0)))
          have BEL9 := Lib.hid (Below.setRow ((BEL.out).trans ((HA.out).mono (BEL.out).size)) (Nat.le_refl _) (statCells i i (0, 0) (0, 0)))
          go_wp2_with (first | (refine wpList_load_row _ rfl 33 (.tmp 10) rfl wr.heap.size 33 (statCells i i (0, 0) (0, 0)) _ rfl (S10.out) (Try.size33 _ rfl) Try.st33 ?_) | (refine wpList_store_at _ rfl 33 (.tmp 4) (.tmp 55) rfl w.heap.size 33 0 (statCells i i (0, 0) (0, 0)) zero13 (statCells i i (0, 0) (0, 0)) rfl rfl (T4.out) (show 0 + 13 ≤ 13 by omega) rfl (Try.size33 _ rfl) (stat_one _ _ _ _) ?_))
          try simp only [Exit.inBlock, Exit.then]
          have hV0 : V = (statCells i i (0, 0) (0, 0)) := by rw [HSV.out]; simp [endsOf]
          rw [hV0]
          refine bodyPost_ret (results_cell_tmp rfl _ _ w.heap.size 33 (statCells i i (0, 0) (0, 0)) _ rfl (ST9.out) (Try.size33 _ rfl) Try.st33) rfl ⟨rfl, BEL9.out⟩
end Go.Proofs
end

section
namespace Go.Proofs
open Go.RowKit
set_option maxRecDepth 100000
theorem sgn_le (a b : Int) : decide (sgn a b ≤ 0) = decide (a ≤ b) := by
  unfold sgn
  by_cases h : a < b
  · simp [h]; omega
  · by_cases h' : b < a
    · simp [h, h']
    · simp [h, h']; omega
theorem Try.has0 (r nl : Int) (lo hi : Int × Int) (w : World) : Calls Try.prog 10 #[.agg (statCells r nl lo hi), v0] w fun e w' => e = .returned (.bool (decide (0 < nl))) ∧ Below w.heap.size w w' := by
  unfold v0 statCells
  go_enter Try.func10, Try.ntmps10
  go_wp2_with fail
  go_ret
  refine ⟨rfl, ?_⟩
  exact ((Below.refl _ w).alloc (Nat.le_refl _) _).alloc (by simp) _
theorem Try.hasE (r : Int) (lo hi : Int × Int) (n : Int) (w : World) : Calls Try.prog 10 #[.agg (statCells r r lo hi), vN n] w fun e w' => e = .returned (.bool false) ∧ Below w.heap.size w w' := by
  unfold vN statCells
  go_enter Try.func10, Try.ntmps10
  go_wp2_with fail
  go_ret
  refine ⟨rfl, ?_⟩
  exact ((Below.refl _ w).alloc (Nat.le_refl _) _).alloc (by simp) _
set_option maxHeartbeats 2000000 in
theorem Try.hasN (r nl : Int) (hr : r ≠ nl) (a b n : Int) (w : World) : Calls Try.prog 10 #[.agg (statCells r nl (1, a) (1, b)), vN n] w fun e w' => e = .returned (.bool (decide (a ≤ n) && decide (n ≤ b))) ∧ Below w.heap.size w w' := by
  have hne : (r == nl) = false := by simpa using hr
  have hne2 : decide (r = nl) = false := by simpa using hr
  have hA := (Below.refl _ w).alloc (Nat.le_refl _) (.cells (statCells r nl (1, a) (1, b)) 33)
  have S1 : VS (w.alloc (.cells (statCells r nl (1, a) (1, b)) 33)) w.heap.size (statCells r nl (1, a) (1, b)) := alloc_here w _
  have hz : (w.alloc (.cells (statCells r nl (1, a) (1, b)) 33)).heap.size = w.heap.size + 1 := by simp
  have hB := (Below.refl _ (w.alloc (.cells (statCells r nl (1, a) (1, b)) 33))).alloc (Nat.le_refl _) (.cells #[.int .i64 1, .int .i64 n, .string ⟨#[]⟩, .complex .f64 0 0] 28)
  have V1 := vh_alloc (w.alloc (.cells (statCells r nl (1, a) (1, b)) 33)) (1, n)
  rw [hz] at V1
  have HS := Lib.hid (S1.below hB)
  have HV := Lib.hid V1
  have HB := Lib.hid (hA.trans (hB.mono hA.size))
  clear hA S1 hz hB V1
  by_cases h1 : a ≤ n
  · have d1 : decide (sgn a n ≤ 0) = true := by rw [sgn_le]; simpa using h1
    have g1 : decide (a ≤ n) = true := by simpa using h1
    rw [g1]
    clear h1 g1
    unfold vN
    unfold statCells
    go_enter Try.func10, Try.ntmps10
    go_wp2_with fail
    refine (Try.compare a n _).mono ?_
    rintro e w1 ⟨rfl, hb1⟩
    have HS1 := (HS.out).below hb1
    obtain ⟨_, v1, v2, v3, v4⟩ := ((HV.out).below hb1).vb
    have c7 : w1.cell? ⟨w.heap.size, 7, none⟩ = some (.int .i64 1) := HS1.c 7
    have c8 : w1.cell? ⟨w.heap.size, 8, none⟩ = some (.int .i64 b) := HS1.c 8
    have c9 : w1.cell? ⟨w.heap.size, 9, none⟩ = some (.string ⟨#[]⟩) := HS1.c 9
    have c10 : w1.cell? ⟨w.heap.size, 10, none⟩ = some (.complex .f64 0 0) := HS1.c 10
    have HB1 := Lib.hid ((HB.out).trans (hb1.mono (HB.out).size))
    clear hb1 HS1
    go_wp2_with fail
    clear v1 v2 v3 v4 c7 c8 c9 c10
    refine (Try.compare n b w1).mono ?_
    rintro e w2 ⟨rfl, hb2⟩
    have HB2 := Lib.hid ((HB1.out).trans (hb2.mono (HB1.out).size))
    have hsl := sgn_le n b
    clear hb2
    go_wp2_with fail
    go_ret
    refine ⟨?_, HB2.out⟩
    simp
  · have d1 : decide (sgn a n ≤ 0) = false := by rw [sgn_le]; simpa using h1
    have g1 : decide (a ≤ n) = false := by simpa using h1
    rw [g1]
    clear h1 g1
    unfold vN
    unfold statCells
    go_enter Try.func10, Try.ntmps10
    go_wp2_with fail
    refine (Try.compare a n _).mono ?_
    rintro e w1 ⟨rfl, hb1⟩
    have HB1 := Lib.hid ((HB.out).trans (hb1.mono (HB.out).size))
    clear hb1
    go_wp2_with fail
    go_ret
    exact ⟨rfl, HB1.out⟩
end Go.Proofs
end
