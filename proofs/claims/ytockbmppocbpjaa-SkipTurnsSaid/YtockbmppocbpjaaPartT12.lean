/-
  Texts of a proof over the translated program: proved evaluators and walks, part 12 of 13.
-/
import Derived.Test.YtockbmppocbpjaaPartT11
import Derived.Below
import Derived.Deep.CutBlock
import Derived.Deep.RegionHeld3
import Derived.Deep.RegionWith
import Derived.Handy
import Derived.IntWalk
import Derived.Laws.Cells
import Derived.Laws.CopyRow
import Derived.Laws.StructEq
import Derived.Lib.Hide
import Derived.LoopTactic
import Derived.Outline
import Derived.OwnWalk
import Derived.Scope
import Derived.ScopeJumps
import Derived.Test.YtockbmppocbpjaaProg
import Derived.WalkKit
import Derived.WalkMore
import Derived.WalkSpells
set_option linter.unusedVariables false
set_option linter.unusedSimpArgs false
set_option linter.unusedSectionVars false
set_option linter.unnecessarySimpa false
section
namespace Go.Proofs
open Go.RowKit
theorem sizeOf_run {P : Program} {t : TypeId} {n : Nat} (w : World) (hq : (P.info? t).map (·.size) = some n) : (sizeOf t).run P w = .ok n w := by
  rcases hi : P.info? t with _ | i
  · rw [hi] at hq; simp at hq
  · rw [hi] at hq
    simp at hq
    simp [sizeOf, typeInfo, hi, hq]
theorem isAgg_run {P : Program} {t : TypeId} {fs : Array Field} (w : World) (hq : P.underlying t = some (.struct fs)) : (isAgg t).run P w = .ok true w := by
  simp [isAgg, run_underlying hq]
theorem sure_run {P : Program} (w : World) (a : Addr) : (Instr.sureAddr (.pointer (some a))).run P w = .ok a w := by simp [Instr.sureAddr]
theorem wpList_store_at {P : Program} (w : World) {ops : Array Oper} {rest : List Oper} {o : Oper} {a : Act} {Q : Exit → Act → World → Prop} (hg : o.guard = none) (t : TypeId) (p v : Operand)
    (hop : o.op = Op.store t p v) (b e off : Nat) (cs cur new : Array Value) (hp : a.eval p = .pointer (some ⟨b, off, none⟩)) (hv : a.eval v = .agg cs) (hh : w.heap[b]? = some (.cells cur e (0, 0))) (hsz : off + cs.size ≤ cur.size)
    (hnew : (cur.toList.take off ++ cs.toList ++ cur.toList.drop (off + cs.size)).toArray = new)
    (hq : (P.info? t).map (·.size) = some cs.size) (h1 : ∀ u ∈ cs.toList, u.oneCell' = true) (K : wpList P ops Q rest (a.put o.dst undef) (w.setRow b new)) : wpList P ops Q (o :: rest) a w := by
  refine wpList_plain hg fun K' hK' => ?_
  have hs := run_storeCells_at P b off e cs.toList 0 cur w hh (by simp; omega) h1
  have hc : (cur.toList.take (off + 0) ++ cs.toList ++ cur.toList.drop (off + 0 + cs.toList.length)).toArray = new := by simpa using hnew
  rw [hc] at hs
  have hz := sizeOf_run w hq
  unfold Oper.wp
  have hr : (Instr.storeAt t (Value.pointer (some ⟨b, off, none⟩)) (Value.agg cs)).run P w = .ok () (w.setRow b new) := by
    simp only [Instr.storeAt, storeVar, Sem.run_bind, sure_run, Result.andThen_ok, hz, Value.cells, ne_eq, not_true_eq_false, if_false, hs]
  simp [execOp, hop, hp, hv, hr, Oper.upon]
  exact hK' _ _ K
theorem results_cell_tmp {P : Program} {fn : Func} {c u : Tmp} {t : TypeId} (h : fn.results = #[.cell c t, .tmp u]) (tmps : Array Value) (w : World) (b e : Nat) (cs : Array Value) (fs : Array Field) (ht : tmps.getD c undef = .pointer (some ⟨b, 0, none⟩)) (hh : w.heap[b]? = some (.cells cs e (0, 0)))
    (hq : (P.info? t).map (·.size) = some cs.size) (hu : P.underlying t = some (.struct fs)) : (results fn tmps).run P w = .ok (.tuple #[.agg cs, tmps.getD u undef]) w := by
  have hl : (loadCells ⟨b, 0, none⟩ cs.size).run P w = .ok cs w := by
    have := run_loadCells_list (P := P) w ⟨b, 0, none⟩ cs.toList (fun j v hj => by
      have e : (⟨b, 0, none⟩ : Addr).add j = ⟨b, j, none⟩ := by unfold Addr.add; split <;> simp_all
      rw [e, cell_of_row w b j _ _ _ hh, ← hj]
      simp)
    simpa using this
  have ht' : tmps[c]?.getD undef = .pointer (some ⟨b, 0, none⟩) := by simpa using ht
  simp [results, h, ht', asAddr, loadVar, isAgg_run w hu, sizeOf_run w hq, hl]
theorem wpList_load_row {P : Program} (w : World) {ops : Array Oper} {rest : List Oper} {o : Oper} {a : Act} {Q : Exit → Act → World → Prop} (hg : o.guard = none) (t : TypeId) (p : Operand)
    (hop : o.op = Op.load t p) (b e : Nat) (cs : Array Value) (fs : Array Field) (hp : a.eval p = .pointer (some ⟨b, 0, none⟩)) (hh : w.heap[b]? = some (.cells cs e (0, 0)))
    (hq : (P.info? t).map (·.size) = some cs.size) (hu : P.underlying t = some (.struct fs)) (K : wpList P ops Q rest (a.put o.dst (.agg cs)) w) : wpList P ops Q (o :: rest) a w := by
  refine wpList_plain hg fun K' hK' => ?_
  have hl : (loadCells ⟨b, 0, none⟩ cs.size).run P w = .ok cs w := by
    have := run_loadCells_list (P := P) w ⟨b, 0, none⟩ cs.toList (fun j v hj => by
      have e : (⟨b, 0, none⟩ : Addr).add j = ⟨b, j, none⟩ := by unfold Addr.add; split <;> simp_all
      rw [e, cell_of_row w b j _ _ _ hh, ← hj]
      simp)
    simpa using this
  have hr : (Instr.loadAt t (Value.pointer (some ⟨b, 0, none⟩))).run P w = .ok (.agg cs) w := by
    simp only [Instr.loadAt, loadVar, Sem.run_bind, sure_run, Result.andThen_ok, isAgg_run w hu, if_true, sizeOf_run w hq, hl, Sem.run_pure]
  unfold Oper.wp
  simp [execOp, hop, hp, hr, Oper.upon]
  exact hK' _ _ K
theorem setRow_heap' (w : World) (g : Nat) (cs cur : Array Value) (e : Nat) (h : w.heap[g]? = some (.cells cur e (0, 0))) : (w.setRow g cs).heap[g]? = some (.cells cs e (0, 0)) := by
  exact setRow_heap w g cur _ e _ h
theorem setRow_other (w : World) (g : Nat) (cs : Array Value) (k : Nat) (h : k ≠ g) : (w.setRow g cs).heap[k]? = w.heap[k]? := by
  unfold World.setRow
  simp [Array.getElem?_modify, Ne.symm h]
theorem Below.setRow {B : Nat} {a w : World} (h : Below B a w) {g : Nat} (hg : B ≤ g) (cs : Array Value) : Below B a (w.setRow g cs) :=
  ⟨h.os, h.tape, h.output, by have := h.size; simpa [World.setRow] using this, fun k hk => by rw [setRow_other w g cs k (by omega)]; exact h.block k hk⟩
end Go.Proofs
end

section
namespace Go.Proofs
open Go.RowKit
set_option maxRecDepth 100000
def qo : Option Int → Int × Int
  | none => (0, 0)
  | some z => (1, z)
theorem qo_num (o : Option Int) : NumV (qo o) := by cases o <;> simp [qo, NumV]
def nums (os : List (Option Int)) (i : Nat) : List Int := (os.take i).filterMap id
def q1 (zs : List Int) : List (Int × Int) := zs.map (fun z => ((1 : Int), z))
theorem nums_succ (os : List (Option Int)) (i : Nat) (hi : i < os.length) : nums os (i + 1) = nums os i ++ (os[i]).toList := by
  unfold nums
  rw [List.take_succ_eq_append_getElem hi, List.filterMap_append]
  cases os[i] <;> rfl
theorem nums_le (os : List (Option Int)) (i : Nat) : (nums os i).length ≤ i := by
  unfold nums
  have := List.length_filterMap_le id (os.take i)
  rw [List.length_take] at this
  omega
theorem own_below {w w' : World} {B : Nat} {e : TypeId} {size : Nat} {v : Value} {n : Nat} {xs : List Value} (h : w.ownsRow B e size v n xs) (hb : Below w.heap.size w w') : w'.ownsRow B e size v n xs := by
  refine ⟨h.1, ?_⟩
  rcases h.2 with q | ⟨g, cap, cur, rfl, q, hg, r⟩
  · exact .inl q
  · exact .inr ⟨g, cap, cur, rfl, q, (hb.block g (by by_cases hx : g < w.heap.size; exact hx; rw [Array.getElem?_eq_none (by omega)] at hg; cases hg)).trans hg, r⟩
theorem infoV : ∃ i, Try.prog.info? 28 = some i ∧ i.zero = some (.agg #[.int .i64 0, .int .i64 0, .string ⟨#[]⟩, .complex .f64 0 0]) ∧ i.size = 4 ∧ i.bytes = 48 := by
  have h : (Try.prog.info? 28).map (fun i => (i.zero, i.size, i.bytes)) = some (some (.agg #[.int .i64 0, .int .i64 0, .string ⟨#[]⟩, .complex .f64 0 0]), 4, 48) := by kernel_rfl
  rcases hi : Try.prog.info? 28 with _ | i
  · rw [hi] at h; simp at h
  · rw [hi] at h
    simp only [Option.map_some, Option.some.injEq, Prod.mk.injEq] at h
    exact ⟨i, rfl, h.1, h.2.1, h.2.2⟩
def statCells (rows nulls : Int) (lo hi : Int × Int) : Array Value := #[.int .i64 1, .int .i64 rows, .int .i64 nulls, .int .i64 lo.1, .int .i64 lo.2, .string ⟨#[]⟩, .complex .f64 0 0, .int .i64 hi.1, .int .i64 hi.2, .string ⟨#[]⟩, .complex .f64 0 0, .complex .f64 0 0, .complex .f64 0 0]
def zero13 : Array Value := #[.int .i64 0, .int .i64 0, .int .i64 0, .int .i64 0, .int .i64 0, .string ⟨#[]⟩, .complex .f64 0 0, .int .i64 0, .int .i64 0, .string ⟨#[]⟩, .complex .f64 0 0, .complex .f64 0 0, .complex .f64 0 0]
def VS (w : World) (b : Nat) (cs : Array Value) : Prop := w.heap[b]? = some (.cells cs 33 (0, 0))
theorem VS.lt {w : World} {b : Nat} {cs : Array Value} (h : VS w b cs) : b < w.heap.size := by
  by_cases hx : b < w.heap.size
  · exact hx
  · unfold VS at h; rw [Array.getElem?_eq_none (by omega)] at h; cases h
theorem VS.z {w : World} {b : Nat} {cs : Array Value} (h : VS w b cs) (j : Nat) : w.frozen? ⟨b, j, none⟩ = false := frozen_of_row w b j _ 33 h
theorem VS.c {w : World} {b : Nat} {cs : Array Value} (h : VS w b cs) (j : Nat) : w.cell? ⟨b, j, none⟩ = cs[j]? := cell_of_row w b j _ 33 _ h
theorem VS.eq {w w' : World} {b : Nat} {cs : Array Value} (h : VS w b cs) (e : w'.heap[b]? = w.heap[b]?) : VS w' b cs := e.trans h
theorem VS.below {w w' : World} {b : Nat} {cs : Array Value} (h : VS w b cs) (hb : Below w.heap.size w w') : VS w' b cs := h.eq (hb.block b h.lt)
theorem vc_one (q : Int × Int) : ∀ u ∈ vc q, u.oneCell' = true := by
  intro u hu
  simp only [vc, List.mem_cons, List.not_mem_nil, or_false] at hu
  rcases hu with rfl | rfl | rfl | rfl <;> rfl
theorem VS.row {w : World} {b : Nat} {cs : Array Value} (h : VS w b cs) (cs' : Array Value) : VS (w.setRow b cs') b cs' := setRow_heap' w b cs' cs 33 h
theorem stat_one (a b : Int) (lo hi : Int × Int) : ∀ u ∈ (statCells a b lo hi).toList, u.oneCell' = true := by
  intro u hu
  simp only [statCells, List.mem_cons, List.not_mem_nil, or_false] at hu
  rcases hu with rfl | rfl | rfl | rfl | rfl | rfl | rfl | rfl | rfl | rfl | rfl | rfl | rfl <;> rfl
theorem vV_one (q : Int × Int) : ∀ u ∈ (#[.int .i64 q.1, .int .i64 q.2, .string ⟨#[]⟩, .complex .f64 0 0] : Array Value).toList, u.oneCell' = true := vc_one q
theorem Try.size33 (cs : Array Value) (h : cs.size = 13) : (Try.prog.info? 33).map (·.size) = some cs.size := by rw [h]; kernel_rfl
theorem Try.size28 (cs : Array Value) (h : cs.size = 4) : (Try.prog.info? 28).map (·.size) = some cs.size := by rw [h]; kernel_rfl
theorem Try.st33 : Try.prog.underlying 33 = some (.struct (Try.prog.fieldsOf 33)) := by kernel_rfl
structure SRel (w : World) (os : List (Option Int)) (i : Nat) (v : Value) (wr : World) : Prop where
  own : VO wr w.heap.size v (nums os i).length (q1 (nums os i))
  bel : Below w.heap.size w wr
  st : VS wr w.heap.size zero13
theorem SRel.none {w wr w1 : World} {os : List (Option Int)} {i : Nat} {v : Value} (h : SRel w os i v wr) (hi : i < os.length) (ho : os[i] = none) (hb : Below wr.heap.size wr w1) : SRel w os (i + 1) v w1 := by
  have e : nums os (i + 1) = nums os i := by rw [nums_succ os i hi, ho]; simp
  exact ⟨by rw [e]; exact own_below h.own hb, h.bel.trans (hb.mono h.bel.size), h.st.below hb⟩
theorem VH.all {w : World} {b : Nat} {q : Int × Int} (h : VH w b q) : ∀ j u, (vc q)[j]? = some u → w.cell? ((⟨b, 0, none⟩ : Addr).add j) = some u := by
  intro j u hu
  have e : (⟨b, 0, none⟩ : Addr).add j = ⟨b, j, none⟩ := by unfold Addr.add; split <;> simp_all
  rw [e, cell_of_row w b j _ 28 _ h, ← hu]
  simp [vc]
theorem ownB {w : World} {B : Nat} {e : TypeId} {size : Nat} {v : Value} {n : Nat} {xs : List Value} (h : w.ownsRow B e size v n xs) : ∀ k, v.ownBlock = some k → B ≤ k ∧ ∃ cur, w.heap[k]? = some (.cells cur e) := by
  intro k hk
  rcases h.2 with ⟨rfl, _⟩ | ⟨g, cap, cur, rfl, hg, h2, _⟩
  · simp [Value.ownBlock] at hk
  · simp [Value.ownBlock] at hk
    subst hk
    exact ⟨hg, cur, h2⟩
theorem SRel.some {w wr wb w2 : World} {os : List (Option Int)} {i : Nat} {v v' : Value} {z : Int} (h : SRel w os i v wr) (hi : i < os.length) (ho : os[i] = some z) (hb : Below wr.heap.size wr wb)
    (hown : w2.ownsRow w.heap.size 28 4 v' ((nums os i).length + 1) (flat (q1 (nums os i)) ++ vc (1, z))) (hg : wb.grownBy w2 v.ownBlock) : SRel w os (i + 1) v' w2 := by
  have e : nums os (i + 1) = nums os i ++ [z] := by rw [nums_succ os i hi, ho]; rfl
  have hb2 := h.bel.trans (hb.mono h.bel.size)
  refine ⟨?_, hb2.grown hg hb2.size (fun k hk => (ownB h.own k hk).1), ?_⟩
  · rw [e, List.length_append]
    unfold VO
    have e2 : q1 (nums os i ++ [z]) = q1 (nums os i) ++ [(1, z)] := by simp [q1]
    rw [e2, flat_snoc]
    exact hown
  · have hst := h.st.below hb
    refine hst.eq (hg.block _ hst.lt (fun q => ?_))
    obtain ⟨_, cur, hc⟩ := ownB h.own _ q.symm
    have := h.st
    unfold VS at this
    rw [this] at hc
    simp at hc
def endsOf (f : List Int → Nat → Int) (zs : List Int) : Int × Int := if zs = [] then (0, 0) else (1, f zs zs.length)
def statA (os : List (Option Int)) : Array Value := statCells os.length (os.length - (nums os os.length).length) (endsOf lows (nums os os.length)) (endsOf highs (nums os os.length))
set_option maxHeartbeats 4000000 in
theorem Try.statOf {w : World} {g n cap : Nat} {os : List (Option Int)} (hv : VAt w g n cap (os.map qo)) (hl : os.length = n) (hn : n ≤ 64) :
    Calls Try.prog 9 #[.slice (some ⟨g, 0, none⟩) n cap, .int .i64 1] w fun e w' => e = .returned (.tuple #[.agg (statA os), .int .i64 0]) ∧ Below w.heap.size w w' := by
  obtain ⟨V, hV⟩ : ∃ V, statA os = V := ⟨_, rfl⟩
  rw [hV]
  have HVV := Lib.hid hV
  clear hV
  have H := Lib.hid hv
  have HL := Lib.hid hl
  have hcm := hv.cm
  have hnc := hv.nc
  unfold maxLen at hcm
  have hsc := storeC
  obtain ⟨i0, hi, hz0, hz1, hz2⟩ := infoV
  have I1 := Lib.hid hi
  have I2 := Lib.hid hz0
  have I3 := Lib.hid hz1
  have I4 := Lib.hid hz2
  clear hv hl hi hz0 hz1 hz2
  go_enter Try.func9, Try.ntmps9
  go_wp2_with fail
  have ha := (Below.refl _ w).alloc (Nat.le_refl _) (.cells zero13 33)
  refine (Try.colcheck (H.out.below ha) (by rw [List.length_map]; exact HL.out) hn (fun i hi => by rw [List.getElem_map]; exact qo_num _)).mono ?_
  rintro e w1 ⟨rfl, hb1⟩
  have H0 : Hid (SRel w os 0 (.slice none 0 0) w1) := Lib.hid ⟨World.ownsRow_nil _ _ _ _, ha.trans (hb1.mono ha.size), VS.below (w := w.alloc (.cells zero13 33)) (alloc_here w _) hb1⟩
  clear hb1 ha
  go_wp2
  go_loopw [7, 20] (fun v t wr => ∃ i : Nat, i ≤ n ∧ t = .int .i64 i ∧ SRel w os i v wr) (fun _ t _ => n - (intOf t).toNat)
  case atStart => exact ⟨0, Nat.zero_le _, rfl, H0.out⟩
  case round =>
    obtain ⟨i, hi, rfl, hb⟩ := hrel
    have HB := Lib.hid hb
    clear hb
    by_cases hlt : i < n
    · have hD : decide ((i : Int) < n) = true := by simpa using hlt
      obtain ⟨e1, e2, e3, e4⟩ := ((H.out).below (HB.out).bel).at4 i (by rw [List.length_map]; have := HL.out; omega)
      simp only [List.getElem_map] at e1 e2 e3 e4
      have hio : i < os.length := by have := HL.out; omega
      cases ho : os[i]'hio with
      | none =>
        rw [ho] at e1 e2
        simp only [qo] at e1 e2
        have HO := Lib.hid ho
        clear ho
        go_wp2_with fail
        have HN := Lib.hid ((HB.out).none hio HO.out ((Below.refl _ wr).alloc (Nat.le_refl _) (.cells #[.int .i64 0, .int .i64 0, .string ⟨#[]⟩, .complex .f64 0 0] 28)))
        exact ⟨⟨i + 1, hlt, rfl, HN.out⟩, by simp [intOf]; omega⟩
      | some z =>
        rw [ho] at e1 e2
        simp only [qo] at e1 e2
        have HO := Lib.hid ho
        clear ho
        have hB1 := (Below.refl _ wr).alloc (Nat.le_refl _) (.cells #[.int .i64 1, .int .i64 z, .string ⟨#[]⟩, .complex .f64 0 0] 28)
        have hB2 := hB1.alloc (by simp) (.cells #[.int .i64 1, .int .i64 z, .string ⟨#[]⟩, .complex .f64 0 0] 28)
        have hwa := own_below (HB.out).own hB2
        have hvh := vh_alloc (wr.alloc (.cells #[.int .i64 1, .int .i64 z, .string ⟨#[]⟩, .complex .f64 0 0] 28)) (1, z)
        have hsz : (wr.alloc (.cells #[.int .i64 1, .int .i64 z, .string ⟨#[]⟩, .complex .f64 0 0] 28)).heap.size = wr.heap.size + 1 := by simp
        rw [hsz] at hvh
        have hall := hvh.all
        have hle := nums_le os i
        have HB2 := Lib.hid hB2
        clear hB1 hB2 hvh
        go_wp2_with (at_builtin; refine wpList_append_own _ rfl (.tmp 27) (.tmp 29) 25 rfl w.heap.size 28 i0 (.agg #[.int .i64 0, .int .i64 0, .string ⟨#[]⟩, .complex .f64 0 0]) 4 48 Try.underlying25 I1.out I2.out I3.out I4.out rfl (by decide) _ _ _ rfl hwa _ _ _ (vc (1, z)) rfl rfl hall (vc_one _) ?c1 ?c2 ?c3 ?c4)
        case c1 => unfold maxLen; omega
        case c2 => omega
        case c3 => have := (HB.out).bel.size; simp; omega
        case c4 =>
          intro v' w2 hown1 hg hne
          have HN := Lib.hid ((HB.out).some hio HO.out HB2.out hown1 hg)
          clear hown1 hg hne hwa hall e1 e2 e3 e4 hle
          go_wp2_with fail
          exact ⟨⟨i + 1, hlt, rfl, HN.out⟩, by simp [intOf]; omega⟩
    · obtain rfl : i = n := by omega
      have hD : decide ((i : Int) < i) = false := by simp
      have hnl := nums_le os i
      have hSV : statA os = statCells i (i - (nums os i).length) (endsOf lows (nums os i)) (endsOf highs (nums os i)) := by unfold statA; rw [HL.out]
      rw [HVV.out] at hSV
      obtain ⟨zs, hzs⟩ : ∃ zs, nums os i = zs := ⟨_, rfl⟩
      obtain ⟨ow, bel, st⟩ := HB.out
      rw [hzs] at ow hnl hSV
      have HSV := Lib.hid hSV
      have BEL := Lib.hid bel
      have ST := Lib.hid st
      clear bel st HB H0 hzs hSV HVV
      have hsub : IntKind.i64.wrap ((i : Int) - (zs.length : Int)) = (i : Int) - zs.length := by rw [IntKind.wrap_i64]; omega
      have hsub' : wrap64 ((i : Int) - (zs.length : Int)) = (i : Int) - zs.length := by unfold wrap64; omega
      rcases ow.at with ⟨rfl, h0⟩ | ⟨g2, cap2, rfl, k1, k2⟩
      · obtain rfl : zs = [] := List.eq_nil_of_length_eq_zero h0
        clear hnl ow hsub hsub' h0
        go_upto_region 16 with fail
        have HA := Lib.hid ((Below.refl _ wr).alloc (Nat.le_refl _) (.cells (statCells i i (0, 0) (0, 0)) 33))
        have T4 := Lib.hid ((ST.out).below HA.out)
        have S10 : Hid (VS (wr.alloc (.cells (statCells i i (0, 0) (0, 0)) 33)) wr.heap.size (statCells i i (0, 0) (0, 0))) := Lib.hid (alloc_here wr _)
        have ST9 := Lib.hid ((T4.out).row (statCells i i (0, 0) (0, 0)))
        have BEL9 := Lib.hid (Below.setRow ((BEL.out).trans ((HA.out).mono (BEL.out).size)) (Nat.le_refl _) (statCells i i (0, 0) (0, 0)))
        go_wp2_with (first | (refine wpList_load_row _ rfl 33 (.tmp 10) rfl wr.heap.size 33 (statCells i i (0, 0) (0, 0)) _ rfl (S10.out) (Try.size33 _ rfl) Try.st33 ?_) | (refine wpList_store_at _ rfl 33 (.tmp 4) (.tmp 55) rfl w.heap.size 33 0 (statCells i i (0, 0) (0, 0)) zero13 (statCells i i (0, 0) (0, 0)) rfl rfl (T4.out) (show 0 + 13 ≤ 13 by omega) rfl (Try.size33 _ rfl) (stat_one _ _ _ _) ?_))
        try simp only [Exit.inBlock, Exit.then]
        have hV0 : V = (statCells i i (0, 0) (0, 0)) := by rw [HSV.out]; simp [endsOf]
        rw [hV0]
        refine bodyPost_ret (results_cell_tmp rfl _ _ w.heap.size 33 (statCells i i (0, 0) (0, 0)) _ rfl (ST9.out) (Try.size33 _ rfl) Try.st33) rfl ⟨rfl, BEL9.out⟩
      · by_cases hp : 0 < zs.length
        · skip
          have K2 := Lib.hid k2
          clear k2 ow
          have hg0 : decide ((0 : Int) < (zs.length : Int)) = true := by simp; omega
          have hg0' : decide (0 < zs.length) = true := by simpa using hp
          have HA := Lib.hid ((Below.refl _ wr).alloc (Nat.le_refl _) (.cells (statCells i ((i : Int) - (zs.length : Int)) (0, 0) (0, 0)) 33))
          have T4 := Lib.hid ((ST.out).below HA.out)
          have S10 : Hid (VS (wr.alloc (.cells (statCells i ((i : Int) - (zs.length : Int)) (0, 0) (0, 0)) 33)) wr.heap.size (statCells i ((i : Int) - (zs.length : Int)) (0, 0) (0, 0))) := Lib.hid (alloc_here wr _)
          have BA := Lib.hid ((BEL.out).trans ((HA.out).mono (BEL.out).size))
          have K3 := Lib.hid ((K2.out).below HA.out)
          go_wp2_with fail
          have hp5 := Try.minf (K3.out) rfl hp
          refine hp5.mono ?_
          clear hp5
          rintro e w5 ⟨rfl, hb5⟩
          have T5 := Lib.hid ((T4.out).below hb5)
          have S5 := Lib.hid ((S10.out).below hb5)
          have B5 := Lib.hid ((BA.out).trans (hb5.mono (BA.out).size))
          have K5 := Lib.hid ((K3.out).below hb5)
          clear hb5 T4 S10 BA K3 HA
          go_wp2_with fail
          have hp6 := Try.maxf (K5.out) rfl hp
          refine hp6.mono ?_
          clear hp6
          rintro e w6 ⟨rfl, hb6⟩
          have T6 := Lib.hid ((T5.out).below hb6)
          have S6 := Lib.hid ((S5.out).below hb6)
          have B6 := Lib.hid ((B5.out).trans (hb6.mono (B5.out).size))
          clear hb6 T5 S5 B5 K5
          have hne : w.heap.size ≠ wr.heap.size := by have := (ST.out).lt; omega
          have S7 := Lib.hid ((S6.out).row (statCells i ((i : Int) - (zs.length : Int)) (1, lows zs zs.length) (0, 0)))
          have S8 := Lib.hid ((S7.out).row (statCells i ((i : Int) - (zs.length : Int)) (1, lows zs zs.length) (1, highs zs zs.length)))
          have T8 := Lib.hid (((T6.out).eq (setRow_other w6 wr.heap.size (statCells i ((i : Int) - (zs.length : Int)) (1, lows zs zs.length) (0, 0)) _ hne)).eq (setRow_other _ wr.heap.size (statCells i ((i : Int) - (zs.length : Int)) (1, lows zs zs.length) (1, highs zs zs.length)) _ hne))
          have ST9 := Lib.hid ((T8.out).row (statCells i ((i : Int) - (zs.length : Int)) (1, lows zs zs.length) (1, highs zs zs.length)))
          have BEL9 := Lib.hid (Below.setRow (Below.setRow (Below.setRow B6.out (BEL.out).size (statCells i ((i : Int) - (zs.length : Int)) (1, lows zs zs.length) (0, 0))) (BEL.out).size (statCells i ((i : Int) - (zs.length : Int)) (1, lows zs zs.length) (1, highs zs zs.length))) (Nat.le_refl _) (statCells i ((i : Int) - (zs.length : Int)) (1, lows zs zs.length) (1, highs zs zs.length)))
          go_wp2_with (first
            | (refine wpList_store_at _ rfl 28 (.tmp 53) (.tmp 50) rfl wr.heap.size 33 3 (#[.int .i64 1, .int .i64 (lows zs zs.length), .string ⟨#[]⟩, .complex .f64 0 0] : Array Value) (statCells i ((i : Int) - (zs.length : Int)) (0, 0) (0, 0)) (statCells i ((i : Int) - (zs.length : Int)) (1, lows zs zs.length) (0, 0)) rfl rfl (S6.out) (show 3 + 4 ≤ 13 by omega) rfl (Try.size28 _ rfl) (vV_one (1, lows zs zs.length)) ?_)
            | (refine wpList_store_at _ rfl 28 (.tmp 54) (.tmp 52) rfl wr.heap.size 33 7 (#[.int .i64 1, .int .i64 (highs zs zs.length), .string ⟨#[]⟩, .complex .f64 0 0] : Array Value) (statCells i ((i : Int) - (zs.length : Int)) (1, lows zs zs.length) (0, 0)) (statCells i ((i : Int) - (zs.length : Int)) (1, lows zs zs.length) (1, highs zs zs.length)) rfl rfl (S7.out) (show 7 + 4 ≤ 13 by omega) rfl (Try.size28 _ rfl) (vV_one (1, highs zs zs.length)) ?_)
            | (refine wpList_load_row _ rfl 33 (.tmp 10) rfl wr.heap.size 33 (statCells i ((i : Int) - (zs.length : Int)) (1, lows zs zs.length) (1, highs zs zs.length)) _ rfl (S8.out) (Try.size33 _ rfl) Try.st33 ?_)
            | (refine wpList_store_at _ rfl 33 (.tmp 4) (.tmp 55) rfl w.heap.size 33 0 (statCells i ((i : Int) - (zs.length : Int)) (1, lows zs zs.length) (1, highs zs zs.length)) zero13 (statCells i ((i : Int) - (zs.length : Int)) (1, lows zs zs.length) (1, highs zs zs.length)) rfl rfl (T8.out) (show 0 + 13 ≤ 13 by omega) rfl (Try.size33 _ rfl) (stat_one _ _ _ _) ?_))
          try simp only [Exit.inBlock, Exit.then]
          have hV0 : V = (statCells i ((i : Int) - (zs.length : Int)) (1, lows zs zs.length) (1, highs zs zs.length)) := by
            rw [HSV.out]
            unfold endsOf
            rw [if_neg (by intro q; rw [q] at hp; simp at hp), if_neg (by intro q; rw [q] at hp; simp at hp)]
          rw [hV0]
          refine bodyPost_ret (results_cell_tmp rfl _ _ w.heap.size 33 (statCells i ((i : Int) - (zs.length : Int)) (1, lows zs zs.length) (1, highs zs zs.length)) _ rfl (ST9.out) (Try.size33 _ rfl) Try.st33) rfl ⟨rfl, BEL9.out⟩
        · obtain rfl : zs = [] := List.eq_nil_of_length_eq_zero (by omega)
          clear hnl ow hsub hsub' k2 hp
          go_upto_region 16 with fail
          have HA := Lib.hid ((Below.refl _ wr).alloc (Nat.le_refl _) (.cells (statCells i i (0, 0) (0, 0)) 33))
          have T4 := Lib.hid ((ST.out).below HA.out)
          have S10 : Hid (VS (wr.alloc (.cells (statCells i i (0, 0) (0, 0)) 33)) wr.heap.size (statCells i i (0, 0) (0, 0))) := Lib.hid (alloc_here wr _)
          have ST9 := Lib.hid ((T4.out).row (statCells i i (0, 0) (0, 0)))
          have BEL9 := Lib.hid (Below.setRow ((BEL.out).trans ((HA.out).mono (BEL.out).size)) (Nat.le_refl _) (statCells i i (0, 0) (0, 0)))
          go_wp2_with (first | (refine wpList_load_row _ rfl 33 (.tmp 10) rfl wr.heap.size 33 (statCells i i (0, 0) (0, 0)) _ rfl (S10.out) (Try.size33 _ rfl) Try.st33 ?_) | (refine wpList_store_at _ rfl 33 (.tmp 4) (.tmp 55) rfl w.heap.size 33 0 (statCells i i (0, 0) (0, 0)) zero13 (statCells i i (0, 0) (0, 0)) rfl rfl (T4.out) (show 0 + 13 ≤ 13 by omega) rfl (Try.size33 _ rfl) (stat_one _ _ _ _) ?_))
          try simp only [Exit.inBlock, Exit.then]
          have hV0 : V = (statCells i i (0, 0) (0, 0)) := by rw [HSV.out]; simp [endsOf]
          rw [hV0]
          refine bodyPost_ret (results_cell_tmp rfl _ _ w.heap.size 33 (statCells i i (0, 0) (0, 0)) _ rfl (ST9.out) (Try.size33 _ rfl) Try.st33) rfl ⟨rfl, BEL9.out⟩
end Go.Proofs
end

section
namespace Go.Proofs
open Go.RowKit
set_option maxRecDepth 100000
theorem sgn_le (a b : Int) : decide (sgn a b ≤ 0) = decide (a ≤ b) := by
  unfold sgn
  by_cases h : a < b
  · simp [h]; omega
  · by_cases h' : b < a
    · simp [h, h']
    · simp [h, h']; omega
set_option maxHeartbeats 2000000 in
theorem Try.hasN (r nl : Int) (hr : r ≠ nl) (a b n : Int) (w : World) : Calls Try.prog 10 #[.agg (statCells r nl (1, a) (1, b)), vN n] w fun e w' => e = .returned (.bool (decide (a ≤ n) && decide (n ≤ b))) ∧ Below w.heap.size w w' := by
  have hne : (r == nl) = false := by simpa using hr
  have hne2 : decide (r = nl) = false := by simpa using hr
  have hA := (Below.refl _ w).alloc (Nat.le_refl _) (.cells (statCells r nl (1, a) (1, b)) 33)
  have S1 : VS (w.alloc (.cells (statCells r nl (1, a) (1, b)) 33)) w.heap.size (statCells r nl (1, a) (1, b)) := alloc_here w _
  have hz : (w.alloc (.cells (statCells r nl (1, a) (1, b)) 33)).heap.size = w.heap.size + 1 := by simp
  have hB := (Below.refl _ (w.alloc (.cells (statCells r nl (1, a) (1, b)) 33))).alloc (Nat.le_refl _) (.cells #[.int .i64 1, .int .i64 n, .string ⟨#[]⟩, .complex .f64 0 0] 28)
  have V1 := vh_alloc (w.alloc (.cells (statCells r nl (1, a) (1, b)) 33)) (1, n)
  rw [hz] at V1
  have HS := Lib.hid (S1.below hB)
  have HV := Lib.hid V1
  have HB := Lib.hid (hA.trans (hB.mono hA.size))
  clear hA S1 hz hB V1
  by_cases h1 : a ≤ n
  · have d1 : decide (sgn a n ≤ 0) = true := by rw [sgn_le]; simpa using h1
    have g1 : decide (a ≤ n) = true := by simpa using h1
    rw [g1]
    clear h1 g1
    unfold vN
    unfold statCells
    go_enter Try.func10, Try.ntmps10
    go_wp2_with fail
    refine (Try.compare a n _).mono ?_
    rintro e w1 ⟨rfl, hb1⟩
    have HS1 := (HS.out).below hb1
    obtain ⟨_, v1, v2, v3, v4⟩ := ((HV.out).below hb1).vb
    have c7 : w1.cell? ⟨w.heap.size, 7, none⟩ = some (.int .i64 1) := HS1.c 7
    have c8 : w1.cell? ⟨w.heap.size, 8, none⟩ = some (.int .i64 b) := HS1.c 8
    have c9 : w1.cell? ⟨w.heap.size, 9, none⟩ = some (.string ⟨#[]⟩) := HS1.c 9
    have c10 : w1.cell? ⟨w.heap.size, 10, none⟩ = some (.complex .f64 0 0) := HS1.c 10
    have HB1 := Lib.hid ((HB.out).trans (hb1.mono (HB.out).size))
    clear hb1 HS1
    go_wp2_with fail
    clear v1 v2 v3 v4 c7 c8 c9 c10
    refine (Try.compare n b w1).mono ?_
    rintro e w2 ⟨rfl, hb2⟩
    have HB2 := Lib.hid ((HB1.out).trans (hb2.mono (HB1.out).size))
    have hsl := sgn_le n b
    clear hb2
    go_wp2_with fail
    go_ret
    refine ⟨?_, HB2.out⟩
    simp
  · have d1 : decide (sgn a n ≤ 0) = false := by rw [sgn_le]; simpa using h1
    have g1 : decide (a ≤ n) = false := by simpa using h1
    rw [g1]
    clear h1 g1
    unfold vN
    unfold statCells
    go_enter Try.func10, Try.ntmps10
    go_wp2_with fail
    refine (Try.compare a n _).mono ?_
    rintro e w1 ⟨rfl, hb1⟩
    have HB1 := Lib.hid ((HB.out).trans (hb1.mono (HB.out).size))
    clear hb1
    go_wp2_with fail
    go_ret
    exact ⟨rfl, HB1.out⟩
end Go.Proofs
end

section
namespace Go.Proofs
open Go.RowKit
set_option maxRecDepth 100000
def predA (op col n : Int) : Array Value := #[.int .i64 op, .int .i64 col, .int .i64 1, .int .i64 n, .string ⟨#[]⟩, .complex .f64 0 0, .complex .f64 0 0, .complex .f64 0 0, .slice none 0 0]
def zero9 : Array Value := #[.int .i64 0, .int .i64 0, .int .i64 0, .int .i64 0, .string ⟨#[]⟩, .complex .f64 0 0, .complex .f64 0 0, .complex .f64 0 0, .slice none 0 0]
def VP (w : World) (b : Nat) (cs : Array Value) : Prop := w.heap[b]? = some (.cells cs 42 (0, 0))
theorem VP.lt {w : World} {b : Nat} {cs : Array Value} (h : VP w b cs) : b < w.heap.size := by
  by_cases hx : b < w.heap.size
  · exact hx
  · unfold VP at h; rw [Array.getElem?_eq_none (by omega)] at h; cases h
theorem VP.z {w : World} {b : Nat} {cs : Array Value} (h : VP w b cs) (j : Nat) : w.frozen? ⟨b, j, none⟩ = false := frozen_of_row w b j _ 42 h
theorem VP.c {w : World} {b : Nat} {cs : Array Value} (h : VP w b cs) (j : Nat) : w.cell? ⟨b, j, none⟩ = cs[j]? := cell_of_row w b j _ 42 _ h
theorem VP.eq {w w' : World} {b : Nat} {cs : Array Value} (h : VP w b cs) (e : w'.heap[b]? = w.heap[b]?) : VP w' b cs := e.trans h
theorem VP.below {w w' : World} {b : Nat} {cs : Array Value} (h : VP w b cs) (hb : Below w.heap.size w w') : VP w' b cs := h.eq (hb.block b h.lt)
theorem VP.row {w : World} {b : Nat} {cs : Array Value} (h : VP w b cs) (cs' : Array Value) : VP (w.setRow b cs') b cs' := setRow_heap' w b cs' cs 42 h
theorem pred_one (op col n : Int) : ∀ u ∈ (predA op col n).toList, u.oneCell' = true := by
  intro u hu
  simp only [predA, List.mem_cons, List.not_mem_nil, or_false] at hu
  rcases hu with rfl | rfl | rfl | rfl | rfl | rfl | rfl | rfl | rfl <;> rfl
theorem Try.size42 (cs : Array Value) (h : cs.size = 9) : (Try.prog.info? 42).map (·.size) = some cs.size := by rw [h]; kernel_rfl
theorem Try.st42 : Try.prog.underlying 42 = some (.struct (Try.prog.fieldsOf 42)) := by kernel_rfl
theorem results_cell1 {P : Program} {fn : Func} {c : Tmp} {t : TypeId} (h : fn.results = #[.cell c t]) (tmps : Array Value) (w : World) (b e : Nat) (cs : Array Value) (fs : Array Field) (ht : tmps.getD c undef = .pointer (some ⟨b, 0, none⟩)) (hh : w.heap[b]? = some (.cells cs e (0, 0)))
    (hq : (P.info? t).map (·.size) = some cs.size) (hu : P.underlying t = some (.struct fs)) : (results fn tmps).run P w = .ok (.agg cs) w := by
  have hl : (loadCells ⟨b, 0, none⟩ cs.size).run P w = .ok cs w := by
    have := run_loadCells_list (P := P) w ⟨b, 0, none⟩ cs.toList (fun j v hj => by
      have e : (⟨b, 0, none⟩ : Addr).add j = ⟨b, j, none⟩ := by unfold Addr.add; split <;> simp_all
      rw [e, cell_of_row w b j _ _ _ hh, ← hj]
      simp)
    simpa using this
  have ht' : tmps[c]?.getD undef = .pointer (some ⟨b, 0, none⟩) := by simpa using ht
  simp [results, h, ht', asAddr, loadVar, isAgg_run w hu, sizeOf_run w hq, hl]
theorem Try.cmpP (op col n : Int) (w : World) : Calls Try.prog 12 #[.int .i64 op, .int .i64 col, .int .i64 n] w fun e w' => e = .returned (.agg (predA op col n)) ∧ Below w.heap.size w w' := by
  have hsc := storeC
  have HA := Lib.hid ((Below.refl _ w).alloc (Nat.le_refl _) (.cells zero9 42))
  have T0 : Hid (VP (w.alloc (.cells zero9 42)) w.heap.size zero9) := Lib.hid (alloc_here w _)
  go_enter Try.func12, Try.ntmps12
  go_wp2_with fail
  refine (Try.nn n _).mono ?_
  rintro e w1 ⟨rfl, hb1⟩
  have T1 := Lib.hid (VP.below (w := w.alloc (.cells zero9 42)) T0.out hb1)
  have B1 := Lib.hid ((HA.out).trans (Below.mono (show Below (w.alloc (.cells zero9 42)).heap.size (w.alloc (.cells zero9 42)) w1 from hb1) (HA.out).size))
  have T2 := Lib.hid ((T1.out).row (predA op col n))
  have B2 := Lib.hid (Below.setRow B1.out (Nat.le_refl _) (predA op col n))
  unfold vN
  clear hb1 T0 HA
  go_wp2_with (refine wpList_store_at _ rfl 42 (.tmp 6) (.tmp 11) rfl w.heap.size 42 0 (predA op col n) zero9 (predA op col n) rfl rfl (T1.out) (show 0 + 9 ≤ 9 by omega) rfl (Try.size42 _ rfl) (pred_one _ _ _) ?_)
  try simp only [Exit.inBlock, Exit.then]
  refine bodyPost_ret (results_cell1 rfl _ _ w.heap.size 42 (predA op col n) _ rfl (T2.out) (Try.size42 _ rfl) Try.st42) rfl ⟨rfl, B2.out⟩
def bi (b : Bool) : Int := if b then 1 else 0
theorem Try.told (b : Bool) (w : World) : Calls Try.prog 94 #[.bool b] w fun e w' => e = .returned (.int .i64 (bi b)) ∧ w = w' := by
  cases b <;> (go_enter Try.func94, Try.ntmps94; go_wp2; go_ret; exact ⟨rfl, rfl⟩)
def opr (op a b : Int) : Bool := if op = 1 then a == b else if op = 2 then !(a == b) else if op = 3 then decide (a < b) else if op = 4 then decide (a ≤ b) else if op = 5 then decide (b < a) else decide (b ≤ a)
theorem sgn_three (a b : Int) : (a < b ∧ sgn a b = -1) ∨ (a = b ∧ sgn a b = 0) ∨ (b < a ∧ sgn a b = 1) := by
  unfold sgn
  by_cases h : a < b
  · exact .inl ⟨h, by rw [if_pos h]⟩
  · by_cases h' : b < a
    · exact .inr (.inr ⟨h', by rw [if_neg h, if_pos h']⟩)
    · exact .inr (.inl ⟨by omega, by rw [if_neg h, if_neg h']⟩)
theorem Try.holdsC (op : Int) (h : 1 ≤ op ∧ op ≤ 6) (o : Int) (ho : o = -1 ∨ o = 0 ∨ o = 1) (w : World) : Calls Try.prog 95 #[.int .i64 op, .int .i64 o] w fun e w' => e = .returned (.bool (opr op o 0)) ∧ w = w' := by
  have h6 : op = 1 ∨ op = 2 ∨ op = 3 ∨ op = 4 ∨ op = 5 ∨ op = 6 := by omega
  clear h
  rcases h6 with rfl | rfl | rfl | rfl | rfl | rfl <;> rcases ho with rfl | rfl | rfl <;> (go_enter Try.func95, Try.ntmps95; go_wp2; go_ret; exact ⟨rfl, rfl⟩)
theorem opr_sgn (op a b : Int) : opr op (sgn a b) 0 = opr op a b := by
  rcases sgn_three a b with ⟨h, e⟩ | ⟨h, e⟩ | ⟨h, e⟩ <;> rw [e] <;> unfold opr <;> (repeat' split) <;> simp <;> omega
theorem Try.holds (op : Int) (h : 1 ≤ op ∧ op ≤ 6) (a b : Int) (w : World) : Calls Try.prog 95 #[.int .i64 op, .int .i64 (sgn a b)] w fun e w' => e = .returned (.bool (opr op a b)) ∧ w = w' := by
  rw [← opr_sgn]
  refine Try.holdsC op h (sgn a b) ?_ w
  rcases sgn_three a b with ⟨_, e⟩ | ⟨_, e⟩ | ⟨_, e⟩ <;> rw [e] <;> simp
theorem Try.asks (op : Int) (h : 1 ≤ op ∧ op ≤ 6) (w : World) : Calls Try.prog 64 #[.int .i64 op] w fun e w' => e = .returned (.bool true) ∧ w = w' := by
  have d1 : decide (1 ≤ op) = true := by simp; omega
  have d2 : decide (op ≤ 8) = true := by simp; omega
  clear h
  go_enter Try.func64, Try.ntmps64
  go_wp2
  go_ret
  exact ⟨rfl, rfl⟩
def trv (op n : Int) (q : Int × Int) : Int := if q = (0, 0) then 2 else bi (opr op q.2 n)
theorem Try.ask0 {w : World} {b : Nat} {op col n : Int} (hp : VP w b (predA op col n)) (h : 1 ≤ op ∧ op ≤ 6) : Calls Try.prog 68 #[.pointer (some ⟨b, 0, none⟩), v0] w fun e w' => e = .returned (.int .i64 2) ∧ Below w.heap.size w w' := by
  have hB := (Below.refl _ w).alloc (Nat.le_refl _) (.cells #[.int .i64 0, .int .i64 0, .string ⟨#[]⟩, .complex .f64 0 0] 28)
  have p0 : (w.alloc (.cells #[.int .i64 0, .int .i64 0, .string ⟨#[]⟩, .complex .f64 0 0] 28)).cell? ⟨b, 0, none⟩ = some (.int .i64 op) := (hp.below hB).c 0
  have HB := Lib.hid hB
  have d1 : (op == 7) = false := by simp; omega
  have d2 : decide (op = 7) = false := by simp; omega
  clear hp h hB
  unfold v0
  go_enter Try.func68, Try.ntmps68
  go_wp2_with fail
  go_ret
  exact ⟨rfl, HB.out⟩
set_option maxHeartbeats 2000000 in
theorem Try.askN {w : World} {b : Nat} {op col n a : Int} (hp : VP w b (predA op col n)) (h : 1 ≤ op ∧ op ≤ 6) : Calls Try.prog 68 #[.pointer (some ⟨b, 0, none⟩), vN a] w fun e w' => e = .returned (.int .i64 (bi (opr op a n))) ∧ Below w.heap.size w w' := by
  have hB := (Below.refl _ w).alloc (Nat.le_refl _) (.cells #[.int .i64 1, .int .i64 a, .string ⟨#[]⟩, .complex .f64 0 0] 28)
  have HP := Lib.hid (hp.below hB)
  have HV := Lib.hid (vh_alloc w (1, a))
  have p0 : (w.alloc (.cells #[.int .i64 1, .int .i64 a, .string ⟨#[]⟩, .complex .f64 0 0] 28)).cell? ⟨b, 0, none⟩ = some (.int .i64 op) := (hp.below hB).c 0
  have p2 : (w.alloc (.cells #[.int .i64 1, .int .i64 a, .string ⟨#[]⟩, .complex .f64 0 0] 28)).cell? ⟨b, 2, none⟩ = some (.int .i64 1) := (hp.below hB).c 2
  have p3 : (w.alloc (.cells #[.int .i64 1, .int .i64 a, .string ⟨#[]⟩, .complex .f64 0 0] 28)).cell? ⟨b, 3, none⟩ = some (.int .i64 n) := (hp.below hB).c 3
  have p4 : (w.alloc (.cells #[.int .i64 1, .int .i64 a, .string ⟨#[]⟩, .complex .f64 0 0] 28)).cell? ⟨b, 4, none⟩ = some (.string ⟨#[]⟩) := (hp.below hB).c 4
  have p5 : (w.alloc (.cells #[.int .i64 1, .int .i64 a, .string ⟨#[]⟩, .complex .f64 0 0] 28)).cell? ⟨b, 5, none⟩ = some (.complex .f64 0 0) := (hp.below hB).c 5
  have HB := Lib.hid hB
  have HH := Lib.hid h
  have d1 : (op == 7) = false := by simp; omega
  have d2 : decide (op = 7) = false := by simp; omega
  have d3 : (op == 8) = false := by simp; omega
  have d4 : decide (op = 8) = false := by simp; omega
  clear hp h hB
  unfold vN
  go_enter Try.func68, Try.ntmps68
  go_upto_region 7 with fail
  obtain ⟨_, q0, q1, q2, q3⟩ := (HV.out).vb
  refine wp_region_noPanic ?_
  refine wp_region_held_drew (S := (fun W => W.cell? ⟨b, 0, none⟩ = some (.int .i64 op) ∧ W.cell? ⟨b, 2, none⟩ = some (.int .i64 1) ∧ W.cell? ⟨b, 3, none⟩ = some (.int .i64 n) ∧ W.cell? ⟨b, 4, none⟩ = some (.string ⟨#[]⟩) ∧ W.cell? ⟨b, 5, none⟩ = some (.complex .f64 0 0) ∧ W.cell? ⟨w.heap.size, 0, none⟩ = some (.int .i64 1) ∧ W.cell? ⟨w.heap.size, 1, none⟩ = some (.int .i64 a) ∧ W.cell? ⟨w.heap.size, 2, none⟩ = some (.string ⟨#[]⟩) ∧ W.cell? ⟨w.heap.size, 3, none⟩ = some (.complex .f64 0 0))) (by kernel_rfl) ?_ (fun hHeld => ?_)
  · exact ⟨p0, p2, p3, p4, p5, q0, q1, q2, q3⟩
  refine wpAnyH_take (i := 0) (oi := { dst := some 30, op := Op.move (Operand.tmp 0), type := 76, pos := "eval.go:74", after := #[], guard := none }) (v := ?_) rfl (by kernel_rfl) (by kernel_rfl) (by kernel_rfl) (fun _ _ _ h => h) (Or.inl ⟨by rfl, ?_⟩) (by assumption) ?_
  rotate_left
  · (intro w hSw; (try dsimp only at hSw); go_simp; try with_reducible rfl)
  try simp only [Act.put, List.setIfInBounds_toArray, List.set_cons_zero, List.set_cons_succ]
  refine wpAnyH_take (i := 1) (oi := { dst := some 31, op := Op.nilCheck (Operand.tmp 30), type := 0, pos := "eval.go:74", after := #[{ on := 0, ground := Ground.data }], guard := none }) (v := ?_) rfl (by kernel_rfl) (by kernel_rfl) (by kernel_rfl) (fun _ _ _ h => h) (Or.inl ⟨by rfl, ?_⟩) (by assumption) ?_
  rotate_left
  · (intro w hSw; (try dsimp only at hSw); go_simp; try with_reducible rfl)
  try simp only [Act.put, List.setIfInBounds_toArray, List.set_cons_zero, List.set_cons_succ]
  refine wpAnyH_take (i := 2) (oi := { dst := some 32, op := Op.fieldAddr 42 (Operand.tmp 31) 0, type := 0, pos := "eval.go:74", after := #[{ on := 1, ground := Ground.data }], guard := none }) (v := ?_) rfl (by kernel_rfl) (by kernel_rfl) (by kernel_rfl) (fun _ _ _ h => h) (Or.inl ⟨by rfl, ?_⟩) (by assumption) ?_
  rotate_left
  · (intro w hSw; (try dsimp only at hSw); go_simp; try with_reducible rfl)
  try simp only [Act.put, List.setIfInBounds_toArray, List.set_cons_zero, List.set_cons_succ]
  refine wpAnyH_take (i := 3) (oi := { dst := some 33, op := Op.load 3 (Operand.tmp 32), type := 3, pos := "eval.go:74", after := #[{ on := 2, ground := Ground.data }], guard := none }) (v := ?_) rfl (by kernel_rfl) (by kernel_rfl) (by kernel_rfl) (fun _ _ _ h => h) (Or.inl ⟨by rfl, ?_⟩) (by assumption) ?_
  rotate_left
  · (intro w hSw; (try dsimp only at hSw); go_simp; try with_reducible rfl)
  try simp only [Act.put, List.setIfInBounds_toArray, List.set_cons_zero, List.set_cons_succ]
  refine wpAnyH_take (i := 4) (oi := { dst := some 34, op := Op.load 28 (Operand.tmp 3), type := 28, pos := "eval.go:74", after := #[], guard := none }) (v := ?_) rfl (by kernel_rfl) (by kernel_rfl) (by kernel_rfl) (fun _ _ _ h => h) (Or.inl ⟨by rfl, ?_⟩) (by assumption) ?_
  rotate_left
  · (intro w hSw; (try dsimp only at hSw); go_simp; try with_reducible rfl)
  try simp only [Act.put, List.setIfInBounds_toArray, List.set_cons_zero, List.set_cons_succ]
  refine wpAnyH_take (i := 5) (oi := { dst := some 35, op := Op.move (Operand.tmp 0), type := 76, pos := "eval.go:74", after := #[], guard := none }) (v := ?_) rfl (by kernel_rfl) (by kernel_rfl) (by kernel_rfl) (fun _ _ _ h => h) (Or.inl ⟨by rfl, ?_⟩) (by assumption) ?_
  rotate_left
  · (intro w hSw; (try dsimp only at hSw); go_simp; try with_reducible rfl)
  try simp only [Act.put, List.setIfInBounds_toArray, List.set_cons_zero, List.set_cons_succ]
  refine wpAnyH_take (i := 6) (oi := { dst := some 36, op := Op.nilCheck (Operand.tmp 35), type := 0, pos := "eval.go:74", after := #[{ on := 5, ground := Ground.data }], guard := none }) (v := ?_) rfl (by kernel_rfl) (by kernel_rfl) (by kernel_rfl) (fun _ _ _ h => h) (Or.inl ⟨by rfl, ?_⟩) (by assumption) ?_
  rotate_left
  · (intro w hSw; (try dsimp only at hSw); go_simp; try with_reducible rfl)
  try simp only [Act.put, List.setIfInBounds_toArray, List.set_cons_zero, List.set_cons_succ]
  refine wpAnyH_take (i := 7) (oi := { dst := some 37, op := Op.fieldAddr 42 (Operand.tmp 36) 2, type := 0, pos := "eval.go:74", after := #[{ on := 6, ground := Ground.data }], guard := none }) (v := ?_) rfl (by kernel_rfl) (by kernel_rfl) (by kernel_rfl) (fun _ _ _ h => h) (Or.inl ⟨by rfl, ?_⟩) (by assumption) ?_
  rotate_left
  · (intro w hSw; (try dsimp only at hSw); go_simp; try with_reducible rfl)
  try simp only [Act.put, List.setIfInBounds_toArray, List.set_cons_zero, List.set_cons_succ]
  refine wpAnyH_take (i := 8) (oi := { dst := some 38, op := Op.load 28 (Operand.tmp 37), type := 28, pos := "eval.go:74", after := #[{ on := 7, ground := Ground.data }], guard := none }) (v := ?_) rfl (by kernel_rfl) (by kernel_rfl) (by kernel_rfl) (fun _ _ _ h => h) (Or.inl ⟨by rfl, ?_⟩) (by assumption) ?_
  rotate_left
  · (intro w hSw; (try dsimp only at hSw); go_simp; try with_reducible rfl)
  try simp only [Act.put, List.setIfInBounds_toArray, List.set_cons_zero, List.set_cons_succ]
  refine wpAnyH_ready (rs := [9]) (by kernel_rfl) (by simp) ?_
  refine AllReadyH.cons (o := { dst := some 39, op := Op.call { callee := Callee.value (Operand.func 25), args := #[Operand.tmp 34, Operand.tmp 38], argTypes := #[28, 28] }, type := 3, pos := "eval.go:74", after := #[{ on := 4, ground := Ground.data }, { on := 8, ground := Ground.data }], guard := none }) rfl (fun K hK => ?_) AllReadyH.nil
  go_simp
  refine (Try.compare a n _).mono ?_
  rintro e w1 ⟨rfl, hb⟩
  dsimp only
  have hb' : Below (w.alloc (.cells #[.int .i64 1, .int .i64 a, .string ⟨#[]⟩, .complex .f64 0 0] 28)).heap.size (w.alloc (.cells #[.int .i64 1, .int .i64 a, .string ⟨#[]⟩, .complex .f64 0 0] 28)) w1 := ⟨hb.os, hb.tape, hb.output, hb.size, hb.block⟩
  have KK : Hid ((fun W => W.cell? ⟨b, 0, none⟩ = some (.int .i64 op) ∧ W.cell? ⟨b, 2, none⟩ = some (.int .i64 1) ∧ W.cell? ⟨b, 3, none⟩ = some (.int .i64 n) ∧ W.cell? ⟨b, 4, none⟩ = some (.string ⟨#[]⟩) ∧ W.cell? ⟨b, 5, none⟩ = some (.complex .f64 0 0) ∧ W.cell? ⟨w.heap.size, 0, none⟩ = some (.int .i64 1) ∧ W.cell? ⟨w.heap.size, 1, none⟩ = some (.int .i64 a) ∧ W.cell? ⟨w.heap.size, 2, none⟩ = some (.string ⟨#[]⟩) ∧ W.cell? ⟨w.heap.size, 3, none⟩ = some (.complex .f64 0 0)) w1) := Lib.hid ⟨((HP.out).below hb').c 0, ((HP.out).below hb').c 2, ((HP.out).below hb').c 3, ((HP.out).below hb').c 4, ((HP.out).below hb').c 5, ((HV.out).below hb').vb.e1, ((HV.out).below hb').vb.e2, ((HV.out).below hb').vb.e3, ((HV.out).below hb').vb.e4⟩
  have B1 := Lib.hid ((HB.out).trans (hb'.mono (HB.out).size))
  clear hb hb'
  refine hK.out _ _ ?_ (fun hHeld => ?_)
  · exact KK.out
  clear hK K
  try simp only [Act.put, List.setIfInBounds_toArray, List.set_cons_zero, List.set_cons_succ]
  refine wpAnyH_ready (rs := [10]) (by kernel_rfl) (by simp) ?_
  refine AllReadyH.cons (o := { dst := some 40, op := Op.call { callee := Callee.value (Operand.func 95), args := #[Operand.tmp 33, Operand.tmp 39], argTypes := #[3, 3] }, type := 4, pos := "eval.go:74", after := #[{ on := 3, ground := Ground.data }, { on := 9, ground := Ground.data }, { on := 9, ground := Ground.chain }], guard := none }) rfl (fun K hK => ?_) AllReadyH.nil
  go_simp
  refine (Try.holds op HH.out a n _).mono ?_
  rintro e w' ⟨rfl, rfl⟩
  dsimp only
  refine hK.out _ _ ?_ (fun hHeld => ?_)
  · exact KK.out
  clear hK K
  try simp only [Act.put, List.setIfInBounds_toArray, List.set_cons_zero, List.set_cons_succ]
  refine wpAnyH_ready (rs := [11]) (by kernel_rfl) (by simp) ?_
  refine AllReadyH.cons (o := { dst := some 41, op := Op.call { callee := Callee.value (Operand.func 94), args := #[Operand.tmp 40], argTypes := #[4] }, type := 3, pos := "eval.go:74", after := #[{ on := 10, ground := Ground.data }, { on := 10, ground := Ground.chain }], guard := none }) rfl (fun K hK => ?_) AllReadyH.nil
  go_simp
  refine (Try.told (opr op a n) _).mono ?_
  rintro e w' ⟨rfl, rfl⟩
  dsimp only
  refine hK.out _ _ ?_ (fun hHeld => ?_)
  · exact KK.out
  clear hK K
  try simp only [Act.put, List.setIfInBounds_toArray, List.set_cons_zero, List.set_cons_succ]
  refine wpAnyH_take (i := 12) (oi := { dst := some 4, op := Op.assign (Operand.tmp 41), type := 3, pos := "eval.go:74", after := #[{ on := 11, ground := Ground.data }, { on := 11, ground := Ground.chain }, { on := 0, ground := Ground.phase }, { on := 1, ground := Ground.phase }, { on := 2, ground := Ground.phase }, { on := 3, ground := Ground.phase }, { on := 4, ground := Ground.phase }, { on := 5, ground := Ground.phase }, { on := 6, ground := Ground.phase }, { on := 7, ground := Ground.phase }, { on := 8, ground := Ground.phase }, { on := 9, ground := Ground.phase }, { on := 10, ground := Ground.phase }, { on := 11, ground := Ground.phase }], guard := none }) (v := ?_) rfl (by kernel_rfl) (by kernel_rfl) (by kernel_rfl) (fun _ _ _ h => h) (Or.inl ⟨by rfl, ?_⟩) (by assumption) ?_
  rotate_left
  · (intro w hSw; (try dsimp only at hSw); go_simp; try with_reducible rfl)
  try simp only [Act.put, List.setIfInBounds_toArray, List.set_cons_zero, List.set_cons_succ]
  refine wpAnyH_done (by kernel_rfl) ?_ _
  refine NoPanic.normal ?_
  go_wp2_with fail
  go_ret
  exact ⟨rfl, B1.out⟩
end Go.Proofs
end

section
namespace Go.Proofs
open Go.RowKit
set_option maxRecDepth 100000
theorem Try.ask {w : World} {b : Nat} {op col n : Int} {q : Int × Int} (hp : VP w b (predA op col n)) (h : 1 ≤ op ∧ op ≤ 6) (hq : NumV q) : Calls Try.prog 68 #[.pointer (some ⟨b, 0, none⟩), vV q] w fun e w' => e = .returned (.int .i64 (trv op n q)) ∧ Below w.heap.size w w' := by
  obtain ⟨k, a⟩ := q
  rcases hq with h1 | h1
  · have h' : k = 1 := h1
    subst h'
    have e : trv op n (1, a) = bi (opr op a n) := by unfold trv; rw [if_neg (by simp)]
    rw [e]
    exact Try.askN hp h
  · obtain ⟨rfl, rfl⟩ := Prod.mk.inj h1
    exact Try.ask0 hp h
set_option maxHeartbeats 2000000 in
theorem Try.evalC {w : World} {b g cap : Nat} {op n lvl : Int} {q : Int × Int} (hp : VP w b (predA op 0 n)) (h : 1 ≤ op ∧ op ≤ 6) (hr : VAt w g 1 cap [q]) (hq : NumV q) (hl : lvl ≤ 8) :
    Calls Try.prog 35 #[.pointer (some ⟨b, 0, none⟩), .slice (some ⟨g, 0, none⟩) 1 cap, .int .i64 lvl] w fun e w' => e = .returned (.int .i64 (trv op n q)) ∧ Below w.heap.size w w' := by
  have p0 : w.cell? ⟨b, 0, none⟩ = some (.int .i64 op) := hp.c 0
  have p1 : w.cell? ⟨b, 1, none⟩ = some (.int .i64 0) := hp.c 1
  have d0 : decide (8 < lvl) = false := by simp; omega
  have d9 : (op == 9) = false := by simp; omega
  have d9' : decide (op = 9) = false := by simp; omega
  have d10 : (op == 10) = false := by simp; omega
  have d10' : decide (op = 10) = false := by simp; omega
  have d11 : (op == 11) = false := by simp; omega
  have d11' : decide (op = 11) = false := by simp; omega
  have d12 : (op == 12) = false := by simp; omega
  have d12' : decide (op = 12) = false := by simp; omega
  obtain ⟨e1, e2, e3, e4⟩ := hr.at4 0 (by simp)
  simp only [List.getElem_cons_zero, Nat.zero_mul, Nat.zero_add] at e1 e2 e3 e4
  have hcm := hr.cm
  have hnc := hr.nc
  unfold maxLen at hcm
  have HP := Lib.hid hp
  have HH := Lib.hid h
  have HQ := Lib.hid hq
  clear hp hr h hq hl
  go_enter Try.func35, Try.ntmps35
  go_wp2_with fail
  refine (Try.asks op HH.out _).mono ?_
  rintro e w' ⟨rfl, rfl⟩
  go_wp2_with fail
  refine (Try.ask HP.out HH.out HQ.out).mono ?_
  rintro e w1 ⟨rfl, hb⟩
  have HB := Lib.hid hb
  clear hb e1 e2 e3 e4 p0 p1
  go_wp2_with fail
  go_ret
  exact ⟨rfl, HB.out⟩
theorem Try.evalP {w : World} {g cap : Nat} {op n : Int} {q : Int × Int} (h : 1 ≤ op ∧ op ≤ 6) (hr : VAt w g 1 cap [q]) (hq : NumV q) :
    Calls Try.prog 13 #[.agg (predA op 0 n), .slice (some ⟨g, 0, none⟩) 1 cap] w fun e w' => e = .returned (.int .i64 (trv op n q)) ∧ Below w.heap.size w w' := by
  have hA := (Below.refl _ w).alloc (Nat.le_refl _) (.cells (predA op 0 n) 42)
  have P0 : Hid (VP (w.alloc (.cells (predA op 0 n) 42)) w.heap.size (predA op 0 n)) := Lib.hid (alloc_here w _)
  have R0 := Lib.hid (hr.below hA)
  have HA := Lib.hid hA
  have HH := Lib.hid h
  have HQ := Lib.hid hq
  clear hA hr h hq
  unfold predA
  go_enter Try.func13, Try.ntmps13
  go_wp2_with fail
  refine (Try.evalC P0.out HH.out R0.out HQ.out (by decide)).mono ?_
  rintro e w1 ⟨rfl, hb⟩
  have HB := Lib.hid ((HA.out).trans (Below.mono hb (HA.out).size))
  clear hb
  go_wp2_with fail
  go_ret
  exact ⟨rfl, HB.out⟩
end Go.Proofs
end

section
namespace Go.Proofs
open Go.RowKit
set_option maxRecDepth 100000
theorem cells_new (w : World) (e : TypeId) (xs : List Value) (g : Nat) (hg : g = w.heap.size) : ∀ j u, xs[j]? = some u → (w.alloc (.cells xs.toArray e)).cell? ((⟨g, 0, none⟩ : Addr).add j) = some u := by
  intro j u hu
  subst hg
  have e1 : (⟨w.heap.size, 0, none⟩ : Addr).add j = ⟨w.heap.size, j, none⟩ := by unfold Addr.add; split <;> simp_all
  rw [e1, cell_of_row _ _ _ _ e (0, 0) (alloc_here w _)]
  simpa using hu
theorem VS.grown {w w' : World} {B b : Nat} {cs : Array Value} {v : Value} {n : Nat} {xs : List Value} (h : VS w b cs) (ho : w.ownsRow B 28 4 v n xs) (hg : w.grownBy w' v.ownBlock) : VS w' b cs := by
  refine h.eq (hg.block _ h.lt (fun q => ?_))
  obtain ⟨_, cur, hc⟩ := ownB ho _ q.symm
  unfold VS at h
  rw [h] at hc
  simp at hc
theorem VP.grown {w w' : World} {B b : Nat} {cs : Array Value} {v : Value} {n : Nat} {xs : List Value} (h : VP w b cs) (ho : w.ownsRow B 28 4 v n xs) (hg : w.grownBy w' v.ownBlock) : VP w' b cs := by
  refine h.eq (hg.block _ h.lt (fun q => ?_))
  obtain ⟨_, cur, hc⟩ := ownB ho _ q.symm
  unfold VP at h
  rw [h] at hc
  simp at hc
structure WR (w : World) (P S : Array Value) (v : Value) (n : Nat) (xs : List Value) (wr : World) : Prop where
  p : VP wr w.heap.size P
  s : VS wr (w.heap.size + 1) S
  bel : Below w.heap.size w wr
  own : wr.ownsRow w.heap.size 28 4 v n xs
theorem WR.start (w : World) (P S : Array Value) : WR w P S (.slice none 0 0) 0 [] ((w.alloc (.cells P 42)).alloc (.cells S 33)) := by
  have h1 : VP (w.alloc (.cells P 42)) w.heap.size P := alloc_here w _
  have hA := (Below.refl _ w).alloc (Nat.le_refl _) (.cells P 42)
  have hz : (w.alloc (.cells P 42)).heap.size = w.heap.size + 1 := by simp
  have hB := (Below.refl _ (w.alloc (.cells P 42))).alloc (Nat.le_refl _) (.cells S 33)
  have h2 : VS ((w.alloc (.cells P 42)).alloc (.cells S 33)) (w.heap.size + 1) S := by rw [← hz]; exact alloc_here _ _
  exact ⟨h1.below hB, h2, hA.trans (hB.mono hA.size), World.ownsRow_nil _ _ _ _⟩
theorem WR.below {w wr w1 : World} {P S : Array Value} {v : Value} {n : Nat} {xs : List Value} (h : WR w P S v n xs wr) (hb : Below wr.heap.size wr w1) : WR w P S v n xs w1 :=
  ⟨h.p.below hb, h.s.below hb, h.bel.trans (hb.mono h.bel.size), own_below h.own hb⟩
theorem WR.app {w wr w1 : World} {P S : Array Value} {v v' : Value} {n m : Nat} {xs ys : List Value} (h : WR w P S v n xs wr) (ho : w1.ownsRow w.heap.size 28 4 v' m ys) (hg : wr.grownBy w1 v.ownBlock) : WR w P S v' m ys w1 :=
  ⟨h.p.grown h.own hg, h.s.grown h.own hg, h.bel.grown hg h.bel.size (fun k hk => (ownB h.own k hk).1), ho⟩
theorem VAt.one {w : World} {b : Nat} {q : Int × Int} (h : VH w b q) : VAt w b 1 1 [q] := by
  refine ⟨Nat.le_refl _, by decide, h.lt, fun i hi => ?_⟩
  have hi0 : i = 0 := by simpa using hi
  subst hi0
  have := h.vb
  simpa using ⟨this.e1, this.e2, this.e3, this.e4⟩
def witsOf (nl : Int) (L G n : Int) : List (Int × Int) := (if 0 < nl then [(0, 0)] else []) ++ [(1, L), (1, G)] ++ (if L ≤ n ∧ n ≤ G then [(1, n)] else [])
def WitP (w : World) (nl L G n : Int) (e : Ending) (w' : World) : Prop := ∃ v, e = .returned v ∧ VO w' w.heap.size v (witsOf nl L G n).length (witsOf nl L G n) ∧ Below w.heap.size w w'
set_option maxHeartbeats 4000000 in
theorem Try.wits (op n rows nl L G : Int) (hne : rows ≠ nl) (w : World) : Calls Try.prog 97 #[.agg (predA op 0 n), .agg (statCells rows nl (1, L) (1, G))] w (WitP w nl L G n) := by
  have hsc := storeC
  obtain ⟨i0, hi, hz0, hz1, hz2⟩ := infoV
  have I1 := Lib.hid hi
  have I2 := Lib.hid hz0
  have I3 := Lib.hid hz1
  have I4 := Lib.hid hz2
  have HNE := Lib.hid hne
  have f1 : (rows == nl) = false := by simpa using hne
  have f2 : decide (rows = nl) = false := by simpa using hne
  have H0 := Lib.hid (WR.start w (predA op 0 n) (statCells rows nl (1, L) (1, G)))
  clear hi hz0 hz1 hz2 hne
  obtain ⟨W0, hW0⟩ : ∃ W0, (w.alloc (.cells (predA op 0 n) 42)).alloc (.cells (statCells rows nl (1, L) (1, G)) 33) = W0 := ⟨_, rfl⟩
  rw [hW0] at H0
  have HW0 := Lib.hid hW0
  clear hW0
  unfold predA statCells
  go_enter Try.func97, Try.ntmps97
  go_upto_region 2 with fail
  have hw0 := HW0.out
  simp only [predA, statCells] at hw0
  rw [hw0]
  clear hw0 HW0
  by_cases hnl : 0 < nl
  · have dn : decide (0 < nl) = true := by simpa using hnl
    by_cases hin : L ≤ n ∧ n ≤ G
    · have hx : (decide (L ≤ n) && decide (n ≤ G)) = true := by simpa using hin
      have s0 : W0.cell? ⟨w.heap.size + 1, 0, none⟩ = some (.int .i64 1) := (H0.out).s.c 0
      have s1 : W0.cell? ⟨w.heap.size + 1, 1, none⟩ = some (.int .i64 rows) := (H0.out).s.c 1
      have s2 : W0.cell? ⟨w.heap.size + 1, 2, none⟩ = some (.int .i64 nl) := (H0.out).s.c 2
      have s3 : W0.cell? ⟨w.heap.size + 1, 3, none⟩ = some (.int .i64 1) := (H0.out).s.c 3
      have s4 : W0.cell? ⟨w.heap.size + 1, 4, none⟩ = some (.int .i64 L) := (H0.out).s.c 4
      have s5 : W0.cell? ⟨w.heap.size + 1, 5, none⟩ = some (.string ⟨#[]⟩) := (H0.out).s.c 5
      have s6 : W0.cell? ⟨w.heap.size + 1, 6, none⟩ = some (.complex .f64 0 0) := (H0.out).s.c 6
      have s7 : W0.cell? ⟨w.heap.size + 1, 7, none⟩ = some (.int .i64 1) := (H0.out).s.c 7
      have s8 : W0.cell? ⟨w.heap.size + 1, 8, none⟩ = some (.int .i64 G) := (H0.out).s.c 8
      have s9 : W0.cell? ⟨w.heap.size + 1, 9, none⟩ = some (.string ⟨#[]⟩) := (H0.out).s.c 9
      have s10 : W0.cell? ⟨w.heap.size + 1, 10, none⟩ = some (.complex .f64 0 0) := (H0.out).s.c 10
      have s11 : W0.cell? ⟨w.heap.size + 1, 11, none⟩ = some (.complex .f64 0 0) := (H0.out).s.c 11
      have s12 : W0.cell? ⟨w.heap.size + 1, 12, none⟩ = some (.complex .f64 0 0) := (H0.out).s.c 12
      have p2 : W0.cell? ⟨w.heap.size, 2, none⟩ = some (.int .i64 1) := (H0.out).p.c 2
      have p3 : W0.cell? ⟨w.heap.size, 3, none⟩ = some (.int .i64 n) := (H0.out).p.c 3
      have p4 : W0.cell? ⟨w.heap.size, 4, none⟩ = some (.string ⟨#[]⟩) := (H0.out).p.c 4
      have p5 : W0.cell? ⟨w.heap.size, 5, none⟩ = some (.complex .f64 0 0) := (H0.out).p.c 5
      have a1 := (Below.refl _ W0).alloc (Nat.le_refl _) (.cells #[.int .i64 0, .int .i64 0, .string ⟨#[]⟩, .complex .f64 0 0] 28)
      have G1 := Lib.hid ((H0.out).below a1)
      have G1c := Lib.hid (cells_new W0 28 (vc (0, 0)) _ rfl)
      clear a1
      go_wp2_with (at_builtin; refine wpList_append_own _ rfl (.tmp 9) (.tmp 11) 25 rfl w.heap.size 28 i0 (.agg #[.int .i64 0, .int .i64 0, .string ⟨#[]⟩, .complex .f64 0 0]) 4 48 Try.underlying25 I1.out I2.out I3.out I4.out rfl (by decide) _ _ _ rfl ((G1.out).own) _ _ _ (vc (0, 0)) rfl rfl (G1c.out) ?one1 ?ca1 ?cb1 ?cc1 ?cd1)
      case one1 => exact vc_one _
      case ca1 => unfold maxLen; omega
      case cb1 => omega
      case cc1 => have := (G1.out).bel.size; have h9 := (H0.out).bel.size; first | omega | (simp; omega)
      case cd1 =>
        intro v1 w1 ho hg hne
        have J1 := Lib.hid ((G1.out).app ho hg)
        clear ho hg hne
        clear s0 s1 s2 s3 s4 s5 s6 s7 s8 s9 s10 s11 s12 p2 p3 p4 p5
        have s0 : w1.cell? ⟨w.heap.size + 1, 0, none⟩ = some (.int .i64 1) := (J1.out).s.c 0
        have s1 : w1.cell? ⟨w.heap.size + 1, 1, none⟩ = some (.int .i64 rows) := (J1.out).s.c 1
        have s2 : w1.cell? ⟨w.heap.size + 1, 2, none⟩ = some (.int .i64 nl) := (J1.out).s.c 2
        have s3 : w1.cell? ⟨w.heap.size + 1, 3, none⟩ = some (.int .i64 1) := (J1.out).s.c 3
        have s4 : w1.cell? ⟨w.heap.size + 1, 4, none⟩ = some (.int .i64 L) := (J1.out).s.c 4
        have s5 : w1.cell? ⟨w.heap.size + 1, 5, none⟩ = some (.string ⟨#[]⟩) := (J1.out).s.c 5
        have s6 : w1.cell? ⟨w.heap.size + 1, 6, none⟩ = some (.complex .f64 0 0) := (J1.out).s.c 6
        have s7 : w1.cell? ⟨w.heap.size + 1, 7, none⟩ = some (.int .i64 1) := (J1.out).s.c 7
        have s8 : w1.cell? ⟨w.heap.size + 1, 8, none⟩ = some (.int .i64 G) := (J1.out).s.c 8
        have s9 : w1.cell? ⟨w.heap.size + 1, 9, none⟩ = some (.string ⟨#[]⟩) := (J1.out).s.c 9
        have s10 : w1.cell? ⟨w.heap.size + 1, 10, none⟩ = some (.complex .f64 0 0) := (J1.out).s.c 10
        have s11 : w1.cell? ⟨w.heap.size + 1, 11, none⟩ = some (.complex .f64 0 0) := (J1.out).s.c 11
        have s12 : w1.cell? ⟨w.heap.size + 1, 12, none⟩ = some (.complex .f64 0 0) := (J1.out).s.c 12
        have p2 : w1.cell? ⟨w.heap.size, 2, none⟩ = some (.int .i64 1) := (J1.out).p.c 2
        have p3 : w1.cell? ⟨w.heap.size, 3, none⟩ = some (.int .i64 n) := (J1.out).p.c 3
        have p4 : w1.cell? ⟨w.heap.size, 4, none⟩ = some (.string ⟨#[]⟩) := (J1.out).p.c 4
        have p5 : w1.cell? ⟨w.heap.size, 5, none⟩ = some (.complex .f64 0 0) := (J1.out).p.c 5
        have a2 := (Below.refl _ w1).alloc (Nat.le_refl _) (.cells #[.int .i64 1, .int .i64 L, .string ⟨#[]⟩, .complex .f64 0 0, .int .i64 1, .int .i64 G, .string ⟨#[]⟩, .complex .f64 0 0] 28)
        have G2 := Lib.hid ((J1.out).below a2)
        have G2c := Lib.hid (cells_new w1 28 (vc (1, L) ++ vc (1, G)) _ rfl)
        clear a2
        go_wp2_with (at_builtin; refine wpList_append_own _ rfl (.tmp 22) (.tmp 27) 25 rfl w.heap.size 28 i0 (.agg #[.int .i64 0, .int .i64 0, .string ⟨#[]⟩, .complex .f64 0 0]) 4 48 Try.underlying25 I1.out I2.out I3.out I4.out rfl (by decide) _ _ _ rfl ((G2.out).own) _ _ _ (vc (1, L) ++ vc (1, G)) rfl rfl (G2c.out) ?one2 ?ca2 ?cb2 ?cc2 ?cd2)
        case one2 => intro u hu; rcases (show u ∈ vc (1, L) ∨ u ∈ vc (1, G) by simpa using hu) with q | q <;> exact vc_one _ u q
        case ca2 => unfold maxLen; omega
        case cb2 => omega
        case cc2 => have := (G2.out).bel.size; have h9 := (J1.out).bel.size; first | omega | (simp; omega)
        case cd2 =>
          intro v2 w2 ho hg hne
          have J2 := Lib.hid ((G2.out).app ho hg)
          clear ho hg hne
          clear s0 s1 s2 s3 s4 s5 s6 s7 s8 s9 s10 s11 s12 p2 p3 p4 p5
          have s0 : w2.cell? ⟨w.heap.size + 1, 0, none⟩ = some (.int .i64 1) := (J2.out).s.c 0
          have s1 : w2.cell? ⟨w.heap.size + 1, 1, none⟩ = some (.int .i64 rows) := (J2.out).s.c 1
          have s2 : w2.cell? ⟨w.heap.size + 1, 2, none⟩ = some (.int .i64 nl) := (J2.out).s.c 2
          have s3 : w2.cell? ⟨w.heap.size + 1, 3, none⟩ = some (.int .i64 1) := (J2.out).s.c 3
          have s4 : w2.cell? ⟨w.heap.size + 1, 4, none⟩ = some (.int .i64 L) := (J2.out).s.c 4
          have s5 : w2.cell? ⟨w.heap.size + 1, 5, none⟩ = some (.string ⟨#[]⟩) := (J2.out).s.c 5
          have s6 : w2.cell? ⟨w.heap.size + 1, 6, none⟩ = some (.complex .f64 0 0) := (J2.out).s.c 6
          have s7 : w2.cell? ⟨w.heap.size + 1, 7, none⟩ = some (.int .i64 1) := (J2.out).s.c 7
          have s8 : w2.cell? ⟨w.heap.size + 1, 8, none⟩ = some (.int .i64 G) := (J2.out).s.c 8
          have s9 : w2.cell? ⟨w.heap.size + 1, 9, none⟩ = some (.string ⟨#[]⟩) := (J2.out).s.c 9
          have s10 : w2.cell? ⟨w.heap.size + 1, 10, none⟩ = some (.complex .f64 0 0) := (J2.out).s.c 10
          have s11 : w2.cell? ⟨w.heap.size + 1, 11, none⟩ = some (.complex .f64 0 0) := (J2.out).s.c 11
          have s12 : w2.cell? ⟨w.heap.size + 1, 12, none⟩ = some (.complex .f64 0 0) := (J2.out).s.c 12
          have p2 : w2.cell? ⟨w.heap.size, 2, none⟩ = some (.int .i64 1) := (J2.out).p.c 2
          have p3 : w2.cell? ⟨w.heap.size, 3, none⟩ = some (.int .i64 n) := (J2.out).p.c 3
          have p4 : w2.cell? ⟨w.heap.size, 4, none⟩ = some (.string ⟨#[]⟩) := (J2.out).p.c 4
          have p5 : w2.cell? ⟨w.heap.size, 5, none⟩ = some (.complex .f64 0 0) := (J2.out).p.c 5
          go_wp2_with fail
          refine (Try.hasN rows nl HNE.out L G n _).mono ?_
          rintro e wh ⟨rfl, hb⟩
          rw [hx]
          have JH := Lib.hid ((J2.out).below hb)
          clear hb
          clear s0 s1 s2 s3 s4 s5 s6 s7 s8 s9 s10 s11 s12 p2 p3 p4 p5
          have s0 : wh.cell? ⟨w.heap.size + 1, 0, none⟩ = some (.int .i64 1) := (JH.out).s.c 0
          have s1 : wh.cell? ⟨w.heap.size + 1, 1, none⟩ = some (.int .i64 rows) := (JH.out).s.c 1
          have s2 : wh.cell? ⟨w.heap.size + 1, 2, none⟩ = some (.int .i64 nl) := (JH.out).s.c 2
          have s3 : wh.cell? ⟨w.heap.size + 1, 3, none⟩ = some (.int .i64 1) := (JH.out).s.c 3
          have s4 : wh.cell? ⟨w.heap.size + 1, 4, none⟩ = some (.int .i64 L) := (JH.out).s.c 4
          have s5 : wh.cell? ⟨w.heap.size + 1, 5, none⟩ = some (.string ⟨#[]⟩) := (JH.out).s.c 5
          have s6 : wh.cell? ⟨w.heap.size + 1, 6, none⟩ = some (.complex .f64 0 0) := (JH.out).s.c 6
          have s7 : wh.cell? ⟨w.heap.size + 1, 7, none⟩ = some (.int .i64 1) := (JH.out).s.c 7
          have s8 : wh.cell? ⟨w.heap.size + 1, 8, none⟩ = some (.int .i64 G) := (JH.out).s.c 8
          have s9 : wh.cell? ⟨w.heap.size + 1, 9, none⟩ = some (.string ⟨#[]⟩) := (JH.out).s.c 9
          have s10 : wh.cell? ⟨w.heap.size + 1, 10, none⟩ = some (.complex .f64 0 0) := (JH.out).s.c 10
          have s11 : wh.cell? ⟨w.heap.size + 1, 11, none⟩ = some (.complex .f64 0 0) := (JH.out).s.c 11
          have s12 : wh.cell? ⟨w.heap.size + 1, 12, none⟩ = some (.complex .f64 0 0) := (JH.out).s.c 12
          have p2 : wh.cell? ⟨w.heap.size, 2, none⟩ = some (.int .i64 1) := (JH.out).p.c 2
          have p3 : wh.cell? ⟨w.heap.size, 3, none⟩ = some (.int .i64 n) := (JH.out).p.c 3
          have p4 : wh.cell? ⟨w.heap.size, 4, none⟩ = some (.string ⟨#[]⟩) := (JH.out).p.c 4
          have p5 : wh.cell? ⟨w.heap.size, 5, none⟩ = some (.complex .f64 0 0) := (JH.out).p.c 5
          have a3 := (Below.refl _ wh).alloc (Nat.le_refl _) (.cells #[.int .i64 1, .int .i64 n, .string ⟨#[]⟩, .complex .f64 0 0] 28)
          have G3 := Lib.hid ((JH.out).below a3)
          have G3c := Lib.hid (cells_new wh 28 (vc (1, n)) _ rfl)
          clear a3
          go_wp2_with (at_builtin; refine wpList_append_own _ rfl (.tmp 45) (.tmp 48) 25 rfl w.heap.size 28 i0 (.agg #[.int .i64 0, .int .i64 0, .string ⟨#[]⟩, .complex .f64 0 0]) 4 48 Try.underlying25 I1.out I2.out I3.out I4.out rfl (by decide) _ _ _ rfl ((G3.out).own) _ _ _ (vc (1, n)) rfl rfl (G3c.out) ?one3 ?ca3 ?cb3 ?cc3 ?cd3)
          case one3 => exact vc_one _
          case ca3 => unfold maxLen; omega
          case cb3 => omega
          case cc3 => have := (G3.out).bel.size; have h9 := (JH.out).bel.size; first | omega | (simp; omega)
          case cd3 =>
            intro v3 w3 ho hg hne
            have J3 := Lib.hid ((G3.out).app ho hg)
            clear ho hg hne
            clear s0 s1 s2 s3 s4 s5 s6 s7 s8 s9 s10 s11 s12 p2 p3 p4 p5
            go_wp2_with fail
            go_ret
            refine ⟨_, rfl, ?_, (J3.out).bel⟩
            have hw : witsOf nl L G n = [(0, 0), (1, L), (1, G), (1, n)] := by unfold witsOf; rw [if_pos hnl, if_pos hin]; rfl
            rw [hw]
            exact (J3.out).own
    · have hx : (decide (L ≤ n) && decide (n ≤ G)) = false := by
        rw [Bool.and_eq_false_iff, decide_eq_false_iff_not, decide_eq_false_iff_not]
        omega
      have s0 : W0.cell? ⟨w.heap.size + 1, 0, none⟩ = some (.int .i64 1) := (H0.out).s.c 0
      have s1 : W0.cell? ⟨w.heap.size + 1, 1, none⟩ = some (.int .i64 rows) := (H0.out).s.c 1
      have s2 : W0.cell? ⟨w.heap.size + 1, 2, none⟩ = some (.int .i64 nl) := (H0.out).s.c 2
      have s3 : W0.cell? ⟨w.heap.size + 1, 3, none⟩ = some (.int .i64 1) := (H0.out).s.c 3
      have s4 : W0.cell? ⟨w.heap.size + 1, 4, none⟩ = some (.int .i64 L) := (H0.out).s.c 4
      have s5 : W0.cell? ⟨w.heap.size + 1, 5, none⟩ = some (.string ⟨#[]⟩) := (H0.out).s.c 5
      have s6 : W0.cell? ⟨w.heap.size + 1, 6, none⟩ = some (.complex .f64 0 0) := (H0.out).s.c 6
      have s7 : W0.cell? ⟨w.heap.size + 1, 7, none⟩ = some (.int .i64 1) := (H0.out).s.c 7
      have s8 : W0.cell? ⟨w.heap.size + 1, 8, none⟩ = some (.int .i64 G) := (H0.out).s.c 8
      have s9 : W0.cell? ⟨w.heap.size + 1, 9, none⟩ = some (.string ⟨#[]⟩) := (H0.out).s.c 9
      have s10 : W0.cell? ⟨w.heap.size + 1, 10, none⟩ = some (.complex .f64 0 0) := (H0.out).s.c 10
      have s11 : W0.cell? ⟨w.heap.size + 1, 11, none⟩ = some (.complex .f64 0 0) := (H0.out).s.c 11
      have s12 : W0.cell? ⟨w.heap.size + 1, 12, none⟩ = some (.complex .f64 0 0) := (H0.out).s.c 12
      have p2 : W0.cell? ⟨w.heap.size, 2, none⟩ = some (.int .i64 1) := (H0.out).p.c 2
      have p3 : W0.cell? ⟨w.heap.size, 3, none⟩ = some (.int .i64 n) := (H0.out).p.c 3
      have p4 : W0.cell? ⟨w.heap.size, 4, none⟩ = some (.string ⟨#[]⟩) := (H0.out).p.c 4
      have p5 : W0.cell? ⟨w.heap.size, 5, none⟩ = some (.complex .f64 0 0) := (H0.out).p.c 5
      have a4 := (Below.refl _ W0).alloc (Nat.le_refl _) (.cells #[.int .i64 0, .int .i64 0, .string ⟨#[]⟩, .complex .f64 0 0] 28)
      have G4 := Lib.hid ((H0.out).below a4)
      have G4c := Lib.hid (cells_new W0 28 (vc (0, 0)) _ rfl)
      clear a4
      go_wp2_with (at_builtin; refine wpList_append_own _ rfl (.tmp 9) (.tmp 11) 25 rfl w.heap.size 28 i0 (.agg #[.int .i64 0, .int .i64 0, .string ⟨#[]⟩, .complex .f64 0 0]) 4 48 Try.underlying25 I1.out I2.out I3.out I4.out rfl (by decide) _ _ _ rfl ((G4.out).own) _ _ _ (vc (0, 0)) rfl rfl (G4c.out) ?one4 ?ca4 ?cb4 ?cc4 ?cd4)
      case one4 => exact vc_one _
      case ca4 => unfold maxLen; omega
      case cb4 => omega
      case cc4 => have := (G4.out).bel.size; have h9 := (H0.out).bel.size; first | omega | (simp; omega)
      case cd4 =>
        intro v4 w4 ho hg hne
        have J4 := Lib.hid ((G4.out).app ho hg)
        clear ho hg hne
        clear s0 s1 s2 s3 s4 s5 s6 s7 s8 s9 s10 s11 s12 p2 p3 p4 p5
        have s0 : w4.cell? ⟨w.heap.size + 1, 0, none⟩ = some (.int .i64 1) := (J4.out).s.c 0
        have s1 : w4.cell? ⟨w.heap.size + 1, 1, none⟩ = some (.int .i64 rows) := (J4.out).s.c 1
        have s2 : w4.cell? ⟨w.heap.size + 1, 2, none⟩ = some (.int .i64 nl) := (J4.out).s.c 2
        have s3 : w4.cell? ⟨w.heap.size + 1, 3, none⟩ = some (.int .i64 1) := (J4.out).s.c 3
        have s4 : w4.cell? ⟨w.heap.size + 1, 4, none⟩ = some (.int .i64 L) := (J4.out).s.c 4
        have s5 : w4.cell? ⟨w.heap.size + 1, 5, none⟩ = some (.string ⟨#[]⟩) := (J4.out).s.c 5
        have s6 : w4.cell? ⟨w.heap.size + 1, 6, none⟩ = some (.complex .f64 0 0) := (J4.out).s.c 6
        have s7 : w4.cell? ⟨w.heap.size + 1, 7, none⟩ = some (.int .i64 1) := (J4.out).s.c 7
        have s8 : w4.cell? ⟨w.heap.size + 1, 8, none⟩ = some (.int .i64 G) := (J4.out).s.c 8
        have s9 : w4.cell? ⟨w.heap.size + 1, 9, none⟩ = some (.string ⟨#[]⟩) := (J4.out).s.c 9
        have s10 : w4.cell? ⟨w.heap.size + 1, 10, none⟩ = some (.complex .f64 0 0) := (J4.out).s.c 10
        have s11 : w4.cell? ⟨w.heap.size + 1, 11, none⟩ = some (.complex .f64 0 0) := (J4.out).s.c 11
        have s12 : w4.cell? ⟨w.heap.size + 1, 12, none⟩ = some (.complex .f64 0 0) := (J4.out).s.c 12
        have p2 : w4.cell? ⟨w.heap.size, 2, none⟩ = some (.int .i64 1) := (J4.out).p.c 2
        have p3 : w4.cell? ⟨w.heap.size, 3, none⟩ = some (.int .i64 n) := (J4.out).p.c 3
        have p4 : w4.cell? ⟨w.heap.size, 4, none⟩ = some (.string ⟨#[]⟩) := (J4.out).p.c 4
        have p5 : w4.cell? ⟨w.heap.size, 5, none⟩ = some (.complex .f64 0 0) := (J4.out).p.c 5
        have a5 := (Below.refl _ w4).alloc (Nat.le_refl _) (.cells #[.int .i64 1, .int .i64 L, .string ⟨#[]⟩, .complex .f64 0 0, .int .i64 1, .int .i64 G, .string ⟨#[]⟩, .complex .f64 0 0] 28)
        have G5 := Lib.hid ((J4.out).below a5)
        have G5c := Lib.hid (cells_new w4 28 (vc (1, L) ++ vc (1, G)) _ rfl)
        clear a5
        go_wp2_with (at_builtin; refine wpList_append_own _ rfl (.tmp 22) (.tmp 27) 25 rfl w.heap.size 28 i0 (.agg #[.int .i64 0, .int .i64 0, .string ⟨#[]⟩, .complex .f64 0 0]) 4 48 Try.underlying25 I1.out I2.out I3.out I4.out rfl (by decide) _ _ _ rfl ((G5.out).own) _ _ _ (vc (1, L) ++ vc (1, G)) rfl rfl (G5c.out) ?one5 ?ca5 ?cb5 ?cc5 ?cd5)
        case one5 => intro u hu; rcases (show u ∈ vc (1, L) ∨ u ∈ vc (1, G) by simpa using hu) with q | q <;> exact vc_one _ u q
        case ca5 => unfold maxLen; omega
        case cb5 => omega
        case cc5 => have := (G5.out).bel.size; have h9 := (J4.out).bel.size; first | omega | (simp; omega)
        case cd5 =>
          intro v5 w5 ho hg hne
          have J5 := Lib.hid ((G5.out).app ho hg)
          clear ho hg hne
          clear s0 s1 s2 s3 s4 s5 s6 s7 s8 s9 s10 s11 s12 p2 p3 p4 p5
          have s0 : w5.cell? ⟨w.heap.size + 1, 0, none⟩ = some (.int .i64 1) := (J5.out).s.c 0
          have s1 : w5.cell? ⟨w.heap.size + 1, 1, none⟩ = some (.int .i64 rows) := (J5.out).s.c 1
          have s2 : w5.cell? ⟨w.heap.size + 1, 2, none⟩ = some (.int .i64 nl) := (J5.out).s.c 2
          have s3 : w5.cell? ⟨w.heap.size + 1, 3, none⟩ = some (.int .i64 1) := (J5.out).s.c 3
          have s4 : w5.cell? ⟨w.heap.size + 1, 4, none⟩ = some (.int .i64 L) := (J5.out).s.c 4
          have s5 : w5.cell? ⟨w.heap.size + 1, 5, none⟩ = some (.string ⟨#[]⟩) := (J5.out).s.c 5
          have s6 : w5.cell? ⟨w.heap.size + 1, 6, none⟩ = some (.complex .f64 0 0) := (J5.out).s.c 6
          have s7 : w5.cell? ⟨w.heap.size + 1, 7, none⟩ = some (.int .i64 1) := (J5.out).s.c 7
          have s8 : w5.cell? ⟨w.heap.size + 1, 8, none⟩ = some (.int .i64 G) := (J5.out).s.c 8
          have s9 : w5.cell? ⟨w.heap.size + 1, 9, none⟩ = some (.string ⟨#[]⟩) := (J5.out).s.c 9
          have s10 : w5.cell? ⟨w.heap.size + 1, 10, none⟩ = some (.complex .f64 0 0) := (J5.out).s.c 10
          have s11 : w5.cell? ⟨w.heap.size + 1, 11, none⟩ = some (.complex .f64 0 0) := (J5.out).s.c 11
          have s12 : w5.cell? ⟨w.heap.size + 1, 12, none⟩ = some (.complex .f64 0 0) := (J5.out).s.c 12
          have p2 : w5.cell? ⟨w.heap.size, 2, none⟩ = some (.int .i64 1) := (J5.out).p.c 2
          have p3 : w5.cell? ⟨w.heap.size, 3, none⟩ = some (.int .i64 n) := (J5.out).p.c 3
          have p4 : w5.cell? ⟨w.heap.size, 4, none⟩ = some (.string ⟨#[]⟩) := (J5.out).p.c 4
          have p5 : w5.cell? ⟨w.heap.size, 5, none⟩ = some (.complex .f64 0 0) := (J5.out).p.c 5
          go_wp2_with fail
          refine (Try.hasN rows nl HNE.out L G n _).mono ?_
          rintro e wh ⟨rfl, hb⟩
          rw [hx]
          have JH := Lib.hid ((J5.out).below hb)
          clear hb
          clear s0 s1 s2 s3 s4 s5 s6 s7 s8 s9 s10 s11 s12 p2 p3 p4 p5
          go_wp2_with fail
          go_ret
          refine ⟨_, rfl, ?_, (JH.out).bel⟩
          have hw : witsOf nl L G n = [(0, 0), (1, L), (1, G)] := by unfold witsOf; rw [if_pos hnl, if_neg hin]; rfl
          rw [hw]
          exact (JH.out).own
  · have dn : decide (0 < nl) = false := by simpa using hnl
    by_cases hin : L ≤ n ∧ n ≤ G
    · have hx : (decide (L ≤ n) && decide (n ≤ G)) = true := by simpa using hin
      have s0 : W0.cell? ⟨w.heap.size + 1, 0, none⟩ = some (.int .i64 1) := (H0.out).s.c 0
      have s1 : W0.cell? ⟨w.heap.size + 1, 1, none⟩ = some (.int .i64 rows) := (H0.out).s.c 1
      have s2 : W0.cell? ⟨w.heap.size + 1, 2, none⟩ = some (.int .i64 nl) := (H0.out).s.c 2
      have s3 : W0.cell? ⟨w.heap.size + 1, 3, none⟩ = some (.int .i64 1) := (H0.out).s.c 3
      have s4 : W0.cell? ⟨w.heap.size + 1, 4, none⟩ = some (.int .i64 L) := (H0.out).s.c 4
      have s5 : W0.cell? ⟨w.heap.size + 1, 5, none⟩ = some (.string ⟨#[]⟩) := (H0.out).s.c 5
      have s6 : W0.cell? ⟨w.heap.size + 1, 6, none⟩ = some (.complex .f64 0 0) := (H0.out).s.c 6
      have s7 : W0.cell? ⟨w.heap.size + 1, 7, none⟩ = some (.int .i64 1) := (H0.out).s.c 7
      have s8 : W0.cell? ⟨w.heap.size + 1, 8, none⟩ = some (.int .i64 G) := (H0.out).s.c 8
      have s9 : W0.cell? ⟨w.heap.size + 1, 9, none⟩ = some (.string ⟨#[]⟩) := (H0.out).s.c 9
      have s10 : W0.cell? ⟨w.heap.size + 1, 10, none⟩ = some (.complex .f64 0 0) := (H0.out).s.c 10
      have s11 : W0.cell? ⟨w.heap.size + 1, 11, none⟩ = some (.complex .f64 0 0) := (H0.out).s.c 11
      have s12 : W0.cell? ⟨w.heap.size + 1, 12, none⟩ = some (.complex .f64 0 0) := (H0.out).s.c 12
      have p2 : W0.cell? ⟨w.heap.size, 2, none⟩ = some (.int .i64 1) := (H0.out).p.c 2
      have p3 : W0.cell? ⟨w.heap.size, 3, none⟩ = some (.int .i64 n) := (H0.out).p.c 3
      have p4 : W0.cell? ⟨w.heap.size, 4, none⟩ = some (.string ⟨#[]⟩) := (H0.out).p.c 4
      have p5 : W0.cell? ⟨w.heap.size, 5, none⟩ = some (.complex .f64 0 0) := (H0.out).p.c 5
      have a6 := (Below.refl _ W0).alloc (Nat.le_refl _) (.cells #[.int .i64 1, .int .i64 L, .string ⟨#[]⟩, .complex .f64 0 0, .int .i64 1, .int .i64 G, .string ⟨#[]⟩, .complex .f64 0 0] 28)
      have G6 := Lib.hid ((H0.out).below a6)
      have G6c := Lib.hid (cells_new W0 28 (vc (1, L) ++ vc (1, G)) _ rfl)
      clear a6
      go_wp2_with (at_builtin; refine wpList_append_own _ rfl (.tmp 22) (.tmp 27) 25 rfl w.heap.size 28 i0 (.agg #[.int .i64 0, .int .i64 0, .string ⟨#[]⟩, .complex .f64 0 0]) 4 48 Try.underlying25 I1.out I2.out I3.out I4.out rfl (by decide) _ _ _ rfl ((G6.out).own) _ _ _ (vc (1, L) ++ vc (1, G)) rfl rfl (G6c.out) ?one6 ?ca6 ?cb6 ?cc6 ?cd6)
      case one6 => intro u hu; rcases (show u ∈ vc (1, L) ∨ u ∈ vc (1, G) by simpa using hu) with q | q <;> exact vc_one _ u q
      case ca6 => unfold maxLen; omega
      case cc6 => have := (G6.out).bel.size; have h9 := (H0.out).bel.size; first | omega | (simp; omega)
      case cd6 =>
        intro v6 w6 ho hg hne
        have J6 := Lib.hid ((G6.out).app ho hg)
        clear ho hg hne
        clear s0 s1 s2 s3 s4 s5 s6 s7 s8 s9 s10 s11 s12 p2 p3 p4 p5
        have s0 : w6.cell? ⟨w.heap.size + 1, 0, none⟩ = some (.int .i64 1) := (J6.out).s.c 0
        have s1 : w6.cell? ⟨w.heap.size + 1, 1, none⟩ = some (.int .i64 rows) := (J6.out).s.c 1
        have s2 : w6.cell? ⟨w.heap.size + 1, 2, none⟩ = some (.int .i64 nl) := (J6.out).s.c 2
        have s3 : w6.cell? ⟨w.heap.size + 1, 3, none⟩ = some (.int .i64 1) := (J6.out).s.c 3
        have s4 : w6.cell? ⟨w.heap.size + 1, 4, none⟩ = some (.int .i64 L) := (J6.out).s.c 4
        have s5 : w6.cell? ⟨w.heap.size + 1, 5, none⟩ = some (.string ⟨#[]⟩) := (J6.out).s.c 5
        have s6 : w6.cell? ⟨w.heap.size + 1, 6, none⟩ = some (.complex .f64 0 0) := (J6.out).s.c 6
        have s7 : w6.cell? ⟨w.heap.size + 1, 7, none⟩ = some (.int .i64 1) := (J6.out).s.c 7
        have s8 : w6.cell? ⟨w.heap.size + 1, 8, none⟩ = some (.int .i64 G) := (J6.out).s.c 8
        have s9 : w6.cell? ⟨w.heap.size + 1, 9, none⟩ = some (.string ⟨#[]⟩) := (J6.out).s.c 9
        have s10 : w6.cell? ⟨w.heap.size + 1, 10, none⟩ = some (.complex .f64 0 0) := (J6.out).s.c 10
        have s11 : w6.cell? ⟨w.heap.size + 1, 11, none⟩ = some (.complex .f64 0 0) := (J6.out).s.c 11
        have s12 : w6.cell? ⟨w.heap.size + 1, 12, none⟩ = some (.complex .f64 0 0) := (J6.out).s.c 12
        have p2 : w6.cell? ⟨w.heap.size, 2, none⟩ = some (.int .i64 1) := (J6.out).p.c 2
        have p3 : w6.cell? ⟨w.heap.size, 3, none⟩ = some (.int .i64 n) := (J6.out).p.c 3
        have p4 : w6.cell? ⟨w.heap.size, 4, none⟩ = some (.string ⟨#[]⟩) := (J6.out).p.c 4
        have p5 : w6.cell? ⟨w.heap.size, 5, none⟩ = some (.complex .f64 0 0) := (J6.out).p.c 5
        go_wp2_with fail
        refine (Try.hasN rows nl HNE.out L G n _).mono ?_
        rintro e wh ⟨rfl, hb⟩
        rw [hx]
        have JH := Lib.hid ((J6.out).below hb)
        clear hb
        clear s0 s1 s2 s3 s4 s5 s6 s7 s8 s9 s10 s11 s12 p2 p3 p4 p5
        have s0 : wh.cell? ⟨w.heap.size + 1, 0, none⟩ = some (.int .i64 1) := (JH.out).s.c 0
        have s1 : wh.cell? ⟨w.heap.size + 1, 1, none⟩ = some (.int .i64 rows) := (JH.out).s.c 1
        have s2 : wh.cell? ⟨w.heap.size + 1, 2, none⟩ = some (.int .i64 nl) := (JH.out).s.c 2
        have s3 : wh.cell? ⟨w.heap.size + 1, 3, none⟩ = some (.int .i64 1) := (JH.out).s.c 3
        have s4 : wh.cell? ⟨w.heap.size + 1, 4, none⟩ = some (.int .i64 L) := (JH.out).s.c 4
        have s5 : wh.cell? ⟨w.heap.size + 1, 5, none⟩ = some (.string ⟨#[]⟩) := (JH.out).s.c 5
        have s6 : wh.cell? ⟨w.heap.size + 1, 6, none⟩ = some (.complex .f64 0 0) := (JH.out).s.c 6
        have s7 : wh.cell? ⟨w.heap.size + 1, 7, none⟩ = some (.int .i64 1) := (JH.out).s.c 7
        have s8 : wh.cell? ⟨w.heap.size + 1, 8, none⟩ = some (.int .i64 G) := (JH.out).s.c 8
        have s9 : wh.cell? ⟨w.heap.size + 1, 9, none⟩ = some (.string ⟨#[]⟩) := (JH.out).s.c 9
        have s10 : wh.cell? ⟨w.heap.size + 1, 10, none⟩ = some (.complex .f64 0 0) := (JH.out).s.c 10
        have s11 : wh.cell? ⟨w.heap.size + 1, 11, none⟩ = some (.complex .f64 0 0) := (JH.out).s.c 11
        have s12 : wh.cell? ⟨w.heap.size + 1, 12, none⟩ = some (.complex .f64 0 0) := (JH.out).s.c 12
        have p2 : wh.cell? ⟨w.heap.size, 2, none⟩ = some (.int .i64 1) := (JH.out).p.c 2
        have p3 : wh.cell? ⟨w.heap.size, 3, none⟩ = some (.int .i64 n) := (JH.out).p.c 3
        have p4 : wh.cell? ⟨w.heap.size, 4, none⟩ = some (.string ⟨#[]⟩) := (JH.out).p.c 4
        have p5 : wh.cell? ⟨w.heap.size, 5, none⟩ = some (.complex .f64 0 0) := (JH.out).p.c 5
        have a7 := (Below.refl _ wh).alloc (Nat.le_refl _) (.cells #[.int .i64 1, .int .i64 n, .string ⟨#[]⟩, .complex .f64 0 0] 28)
        have G7 := Lib.hid ((JH.out).below a7)
        have G7c := Lib.hid (cells_new wh 28 (vc (1, n)) _ rfl)
        clear a7
        go_wp2_with (at_builtin; refine wpList_append_own _ rfl (.tmp 45) (.tmp 48) 25 rfl w.heap.size 28 i0 (.agg #[.int .i64 0, .int .i64 0, .string ⟨#[]⟩, .complex .f64 0 0]) 4 48 Try.underlying25 I1.out I2.out I3.out I4.out rfl (by decide) _ _ _ rfl ((G7.out).own) _ _ _ (vc (1, n)) rfl rfl (G7c.out) ?one7 ?ca7 ?cb7 ?cc7 ?cd7)
        case one7 => exact vc_one _
        case ca7 => unfold maxLen; omega
        case cb7 => omega
        case cc7 => have := (G7.out).bel.size; have h9 := (JH.out).bel.size; first | omega | (simp; omega)
        case cd7 =>
          intro v7 w7 ho hg hne
          have J7 := Lib.hid ((G7.out).app ho hg)
          clear ho hg hne
          clear s0 s1 s2 s3 s4 s5 s6 s7 s8 s9 s10 s11 s12 p2 p3 p4 p5
          go_wp2_with fail
          go_ret
          refine ⟨_, rfl, ?_, (J7.out).bel⟩
          have hw : witsOf nl L G n = [(1, L), (1, G), (1, n)] := by unfold witsOf; rw [if_neg (by omega), if_pos hin]; rfl
          rw [hw]
          exact (J7.out).own
    · have hx : (decide (L ≤ n) && decide (n ≤ G)) = false := by
        rw [Bool.and_eq_false_iff, decide_eq_false_iff_not, decide_eq_false_iff_not]
        omega
      have s0 : W0.cell? ⟨w.heap.size + 1, 0, none⟩ = some (.int .i64 1) := (H0.out).s.c 0
      have s1 : W0.cell? ⟨w.heap.size + 1, 1, none⟩ = some (.int .i64 rows) := (H0.out).s.c 1
      have s2 : W0.cell? ⟨w.heap.size + 1, 2, none⟩ = some (.int .i64 nl) := (H0.out).s.c 2
      have s3 : W0.cell? ⟨w.heap.size + 1, 3, none⟩ = some (.int .i64 1) := (H0.out).s.c 3
      have s4 : W0.cell? ⟨w.heap.size + 1, 4, none⟩ = some (.int .i64 L) := (H0.out).s.c 4
      have s5 : W0.cell? ⟨w.heap.size + 1, 5, none⟩ = some (.string ⟨#[]⟩) := (H0.out).s.c 5
      have s6 : W0.cell? ⟨w.heap.size + 1, 6, none⟩ = some (.complex .f64 0 0) := (H0.out).s.c 6
      have s7 : W0.cell? ⟨w.heap.size + 1, 7, none⟩ = some (.int .i64 1) := (H0.out).s.c 7
      have s8 : W0.cell? ⟨w.heap.size + 1, 8, none⟩ = some (.int .i64 G) := (H0.out).s.c 8
      have s9 : W0.cell? ⟨w.heap.size + 1, 9, none⟩ = some (.string ⟨#[]⟩) := (H0.out).s.c 9
      have s10 : W0.cell? ⟨w.heap.size + 1, 10, none⟩ = some (.complex .f64 0 0) := (H0.out).s.c 10
      have s11 : W0.cell? ⟨w.heap.size + 1, 11, none⟩ = some (.complex .f64 0 0) := (H0.out).s.c 11
      have s12 : W0.cell? ⟨w.heap.size + 1, 12, none⟩ = some (.complex .f64 0 0) := (H0.out).s.c 12
      have p2 : W0.cell? ⟨w.heap.size, 2, none⟩ = some (.int .i64 1) := (H0.out).p.c 2
      have p3 : W0.cell? ⟨w.heap.size, 3, none⟩ = some (.int .i64 n) := (H0.out).p.c 3
      have p4 : W0.cell? ⟨w.heap.size, 4, none⟩ = some (.string ⟨#[]⟩) := (H0.out).p.c 4
      have p5 : W0.cell? ⟨w.heap.size, 5, none⟩ = some (.complex .f64 0 0) := (H0.out).p.c 5
      have a8 := (Below.refl _ W0).alloc (Nat.le_refl _) (.cells #[.int .i64 1, .int .i64 L, .string ⟨#[]⟩, .complex .f64 0 0, .int .i64 1, .int .i64 G, .string ⟨#[]⟩, .complex .f64 0 0] 28)
      have G8 := Lib.hid ((H0.out).below a8)
      have G8c := Lib.hid (cells_new W0 28 (vc (1, L) ++ vc (1, G)) _ rfl)
      clear a8
      go_wp2_with (at_builtin; refine wpList_append_own _ rfl (.tmp 22) (.tmp 27) 25 rfl w.heap.size 28 i0 (.agg #[.int .i64 0, .int .i64 0, .string ⟨#[]⟩, .complex .f64 0 0]) 4 48 Try.underlying25 I1.out I2.out I3.out I4.out rfl (by decide) _ _ _ rfl ((G8.out).own) _ _ _ (vc (1, L) ++ vc (1, G)) rfl rfl (G8c.out) ?one8 ?ca8 ?cb8 ?cc8 ?cd8)
      case one8 => intro u hu; rcases (show u ∈ vc (1, L) ∨ u ∈ vc (1, G) by simpa using hu) with q | q <;> exact vc_one _ u q
      case ca8 => unfold maxLen; omega
      case cc8 => have := (G8.out).bel.size; have h9 := (H0.out).bel.size; first | omega | (simp; omega)
      case cd8 =>
        intro v8 w8 ho hg hne
        have J8 := Lib.hid ((G8.out).app ho hg)
        clear ho hg hne
        clear s0 s1 s2 s3 s4 s5 s6 s7 s8 s9 s10 s11 s12 p2 p3 p4 p5
        have s0 : w8.cell? ⟨w.heap.size + 1, 0, none⟩ = some (.int .i64 1) := (J8.out).s.c 0
        have s1 : w8.cell? ⟨w.heap.size + 1, 1, none⟩ = some (.int .i64 rows) := (J8.out).s.c 1
        have s2 : w8.cell? ⟨w.heap.size + 1, 2, none⟩ = some (.int .i64 nl) := (J8.out).s.c 2
        have s3 : w8.cell? ⟨w.heap.size + 1, 3, none⟩ = some (.int .i64 1) := (J8.out).s.c 3
        have s4 : w8.cell? ⟨w.heap.size + 1, 4, none⟩ = some (.int .i64 L) := (J8.out).s.c 4
        have s5 : w8.cell? ⟨w.heap.size + 1, 5, none⟩ = some (.string ⟨#[]⟩) := (J8.out).s.c 5
        have s6 : w8.cell? ⟨w.heap.size + 1, 6, none⟩ = some (.complex .f64 0 0) := (J8.out).s.c 6
        have s7 : w8.cell? ⟨w.heap.size + 1, 7, none⟩ = some (.int .i64 1) := (J8.out).s.c 7
        have s8 : w8.cell? ⟨w.heap.size + 1, 8, none⟩ = some (.int .i64 G) := (J8.out).s.c 8
        have s9 : w8.cell? ⟨w.heap.size + 1, 9, none⟩ = some (.string ⟨#[]⟩) := (J8.out).s.c 9
        have s10 : w8.cell? ⟨w.heap.size + 1, 10, none⟩ = some (.complex .f64 0 0) := (J8.out).s.c 10
        have s11 : w8.cell? ⟨w.heap.size + 1, 11, none⟩ = some (.complex .f64 0 0) := (J8.out).s.c 11
        have s12 : w8.cell? ⟨w.heap.size + 1, 12, none⟩ = some (.complex .f64 0 0) := (J8.out).s.c 12
        have p2 : w8.cell? ⟨w.heap.size, 2, none⟩ = some (.int .i64 1) := (J8.out).p.c 2
        have p3 : w8.cell? ⟨w.heap.size, 3, none⟩ = some (.int .i64 n) := (J8.out).p.c 3
        have p4 : w8.cell? ⟨w.heap.size, 4, none⟩ = some (.string ⟨#[]⟩) := (J8.out).p.c 4
        have p5 : w8.cell? ⟨w.heap.size, 5, none⟩ = some (.complex .f64 0 0) := (J8.out).p.c 5
        go_wp2_with fail
        refine (Try.hasN rows nl HNE.out L G n _).mono ?_
        rintro e wh ⟨rfl, hb⟩
        rw [hx]
        have JH := Lib.hid ((J8.out).below hb)
        clear hb
        clear s0 s1 s2 s3 s4 s5 s6 s7 s8 s9 s10 s11 s12 p2 p3 p4 p5
        go_wp2_with fail
        go_ret
        refine ⟨_, rfl, ?_, (JH.out).bel⟩
        have hw : witsOf nl L G n = [(1, L), (1, G)] := by unfold witsOf; rw [if_neg (by omega), if_neg hin]; rfl
        rw [hw]
        exact (JH.out).own
end Go.Proofs
end

section
namespace Go.Proofs
open Go.RowKit
set_option maxRecDepth 100000
def wv (f t u : Bool) : Int := (if f then 1 else 0) + (if t then 2 else 0) + (if u then 4 else 0)
def obits (op n : Int) (qs : List (Int × Int)) : Int := wv (qs.any (fun q => trv op n q == 0)) (qs.any (fun q => trv op n q == 1)) (qs.any (fun q => trv op n q == 2))
theorem trv_three (op n : Int) (q : Int × Int) : trv op n q = 0 ∨ trv op n q = 1 ∨ trv op n q = 2 := by
  unfold trv bi
  split
  · simp
  · split <;> simp
theorem orT (f t u : Bool) : Go.bits .or .i64 (wv f t u) 2 = wv f true u := by
  cases f <;> cases t <;> cases u <;> decide
theorem orF (f t u : Bool) : Go.bits .or .i64 (wv f t u) 1 = wv true t u := by
  cases f <;> cases t <;> cases u <;> decide
theorem orU (f t u : Bool) : Go.bits .or .i64 (wv f t u) 4 = wv f t true := by
  cases f <;> cases t <;> cases u <;> decide
theorem wits_num (nl L G n : Int) : ∀ q ∈ witsOf nl L G n, NumV q := by
  intro q hq
  unfold witsOf at hq
  simp only [List.mem_append, List.mem_cons, List.not_mem_nil, or_false] at hq
  rcases hq with (hq | rfl | rfl) | hq
  · split at hq <;> simp at hq; subst hq; exact .inr rfl
  · exact .inl rfl
  · exact .inl rfl
  · split at hq <;> simp at hq; subst hq; exact .inl rfl
theorem obits_snoc (op n : Int) (qs : List (Int × Int)) (q : Int × Int) :
    (trv op n q = 0 → obits op n (qs ++ [q]) = wv true (qs.any (fun q => trv op n q == 1)) (qs.any (fun q => trv op n q == 2))) ∧
    (trv op n q = 1 → obits op n (qs ++ [q]) = wv (qs.any (fun q => trv op n q == 0)) true (qs.any (fun q => trv op n q == 2))) ∧
    (trv op n q = 2 → obits op n (qs ++ [q]) = wv (qs.any (fun q => trv op n q == 0)) (qs.any (fun q => trv op n q == 1)) true) := by
  unfold obits
  simp only [List.any_append, List.any_cons, List.any_nil, Bool.or_false]
  refine ⟨fun h => ?_, fun h => ?_, fun h => ?_⟩ <;> rw [h] <;> simp
set_option maxHeartbeats 4000000 in
theorem Try.asked (op n rows nl L G : Int) (h : 1 ≤ op ∧ op ≤ 6) (hne : rows ≠ nl) (w : World) : Calls Try.prog 72 #[.agg (predA op 0 n), .agg (statCells rows nl (1, L) (1, G))] w fun e w' => e = .returned (.int .i64 (obits op n (witsOf nl L G n))) ∧ Below w.heap.size w w' := by
  obtain ⟨R, hR⟩ : ∃ R, obits op n (witsOf nl L G n) = R := ⟨_, rfl⟩
  rw [hR]
  have HR := Lib.hid hR
  clear hR
  have hsc := storeC
  have H0 := Lib.hid (WR.start w (predA op 0 n) (statCells rows nl (1, L) (1, G)))
  have HH := Lib.hid h
  have HNE := Lib.hid hne
  obtain ⟨W0, hW0⟩ : ∃ W0, (w.alloc (.cells (predA op 0 n) 42)).alloc (.cells (statCells rows nl (1, L) (1, G)) 33) = W0 := ⟨_, rfl⟩
  rw [hW0] at H0
  have HW0 := Lib.hid hW0
  clear hW0 h hne
  unfold predA statCells
  go_enter Try.func72, Try.ntmps72
  go_wp2_with fail
  have hw0 := HW0.out
  simp only [predA, statCells] at hw0
  rw [hw0]
  clear hw0 HW0
  refine (Try.wits op n rows nl L G HNE.out W0).mono ?_
  rintro e w1 ⟨v, rfl, hv, hb⟩
  have H1 := Lib.hid ((H0.out).below hb)
  have hlen : 2 ≤ (witsOf nl L G n).length := by unfold witsOf; simp only [List.length_append, List.length_cons, List.length_nil]; omega
  have hnum := wits_num nl L G n
  have hl64 : (witsOf nl L G n).length ≤ 4 := by
    unfold witsOf
    simp only [List.length_append, List.length_cons, List.length_nil]
    split <;> split <;> simp
  obtain ⟨g, cap, rfl, hg, hat⟩ : ∃ g cap, v = .slice (some ⟨g, 0, none⟩) (witsOf nl L G n).length cap ∧ W0.heap.size ≤ g ∧ VAt w1 g (witsOf nl L G n).length cap (witsOf nl L G n) := by
    rcases hv.at with ⟨_, q⟩ | q
    · omega
    · exact q
  have hR := HR.out
  clear HR
  generalize witsOf nl L G n = ws at hat hlen hnum hl64 hR ⊢
  have HR := Lib.hid hR
  clear hR
  obtain ⟨m, hm⟩ : ∃ m, ws.length = m := ⟨_, rfl⟩
  rw [hm] at hat hlen hl64 ⊢
  have HAT := Lib.hid hat
  have HNUM := Lib.hid hnum
  have HM := Lib.hid hm
  clear hb hv hat hnum hm H0
  go_wp2
  go_loopw [5, 13] (fun o t wr => ∃ i : Nat, i ≤ m ∧ t = .int .i64 i ∧ o = .int .i64 (obits op n (ws.take i)) ∧ Below w1.heap.size w1 wr) (fun _ t _ => m - (intOf t).toNat)
  case atStart => exact ⟨0, Nat.zero_le _, rfl, rfl, Below.refl _ _⟩
  case round =>
    obtain ⟨i, hi, rfl, rfl, hb⟩ := hrel
    have HB := Lib.hid hb
    clear hb
    by_cases hlt : i < m
    · have hD : decide ((i : Int) < m) = true := by simpa using hlt
      have hiw : i < ws.length := by have := HM.out; omega
      obtain ⟨e1, e2, e3, e4⟩ := ((HAT.out).below HB.out).at4 i hiw
      have HQ := Lib.hid ((HNUM.out) ws[i] (List.getElem_mem _))
      have hst : obits op n (ws.take (i + 1)) = obits op n (ws.take i ++ [ws[i]]) := by rw [List.take_succ_eq_append_getElem hiw]
      have HST := Lib.hid hst
      clear hst
      generalize ws[i]'hiw = q at e1 e2 HQ HST
      have hWR := (H1.out).below HB.out
      obtain ⟨p0, p1, p2, p3, p4, p5, p6, p7, p8⟩ : wr.cell? ⟨w.heap.size, 0, none⟩ = some (.int .i64 op) ∧ wr.cell? ⟨w.heap.size, 1, none⟩ = some (.int .i64 0) ∧ wr.cell? ⟨w.heap.size, 2, none⟩ = some (.int .i64 1) ∧ wr.cell? ⟨w.heap.size, 3, none⟩ = some (.int .i64 n) ∧ wr.cell? ⟨w.heap.size, 4, none⟩ = some (.string ⟨#[]⟩) ∧ wr.cell? ⟨w.heap.size, 5, none⟩ = some (.complex .f64 0 0) ∧ wr.cell? ⟨w.heap.size, 6, none⟩ = some (.complex .f64 0 0) ∧ wr.cell? ⟨w.heap.size, 7, none⟩ = some (.complex .f64 0 0) ∧ wr.cell? ⟨w.heap.size, 8, none⟩ = some (.slice none 0 0) :=
        ⟨hWR.p.c 0, hWR.p.c 1, hWR.p.c 2, hWR.p.c 3, hWR.p.c 4, hWR.p.c 5, hWR.p.c 6, hWR.p.c 7, hWR.p.c 8⟩
      have hlt9 := hWR.p.lt
      clear hWR
      go_wp2_with fail
      have hA := ((Below.refl _ wr).alloc (Nat.le_refl _) (.cells #[.int .i64 q.1, .int .i64 q.2, .string ⟨#[]⟩, .complex .f64 0 0] 28)).alloc (by simp) (.cells #[.int .i64 q.1, .int .i64 q.2, .string ⟨#[]⟩, .complex .f64 0 0] 28)
      have hz : (wr.alloc (.cells #[.int .i64 q.1, .int .i64 q.2, .string ⟨#[]⟩, .complex .f64 0 0] 28)).heap.size = wr.heap.size + 1 := by simp
      have hvh := vh_alloc (wr.alloc (.cells #[.int .i64 q.1, .int .i64 q.2, .string ⟨#[]⟩, .complex .f64 0 0] 28)) q
      rw [hz] at hvh
      have hp := Try.evalP (n := n) HH.out (VAt.one hvh) HQ.out
      refine hp.mono ?_
      clear hp hvh hz
      rintro e w2 ⟨rfl, hb2⟩
      have HB2 := Lib.hid ((HB.out).trans ((hA.trans (hb2.mono hA.size)).mono (HB.out).size))
      clear hb2 hA e1 e2 e3 e4 p0 p1 p2 p3 p4 p5 p6 p7 p8 hlt9
      have hoT := orT
      have hoF := orF
      have hoU := orU
      have hb3 := obits_snoc op n (ws.take i) q
      rw [← HST.out] at hb3
      have HB3 := Lib.hid hb3
      clear hb3
      rcases trv_three op n q with ht | ht | ht
      · rw [ht]
        have hb4 := (HB3.out).1 ht
        have HB4 := Lib.hid hb4
        clear hb4
        unfold obits
        go_wp2_with fail
        exact ⟨⟨i + 1, hlt, rfl, by rw [HB4.out], HB2.out⟩, by simp [intOf]; omega⟩
      · rw [ht]
        have hb4 := (HB3.out).2.1 ht
        have HB4 := Lib.hid hb4
        clear hb4
        unfold obits
        go_wp2_with fail
        exact ⟨⟨i + 1, hlt, rfl, by rw [HB4.out], HB2.out⟩, by simp [intOf]; omega⟩
      · rw [ht]
        have hb4 := (HB3.out).2.2 ht
        have HB4 := Lib.hid hb4
        clear hb4
        unfold obits
        go_wp2_with fail
        exact ⟨⟨i + 1, hlt, rfl, by rw [HB4.out], HB2.out⟩, by simp [intOf]; omega⟩
    · obtain rfl : i = m := by omega
      have hD : decide ((i : Int) < i) = false := by simp
      have ht : ws.take i = ws := by rw [← HM.out]; exact List.take_length
      rw [ht, HR.out]
      have HE := Lib.hid ((H1.out).below HB.out).bel
      go_wp2_with fail
      go_ret
      exact ⟨rfl, HE.out⟩
end Go.Proofs
end

section
namespace Go.Proofs
open Go.RowKit
set_option maxRecDepth 100000
set_option maxHeartbeats 4000000 in
theorem Try.mayC {w : World} {b gs cap : Nat} {op n rows nl L G lvl : Int} (hp : VP w b (predA op 0 n)) (h : 1 ≤ op ∧ op ≤ 6) (hs : VS w gs (statCells rows nl (1, L) (1, G))) (hne : rows ≠ nl) (hl : lvl ≤ 8) :
    Calls Try.prog 37 #[.pointer (some ⟨b, 0, none⟩), .slice (some ⟨gs, 0, none⟩) 1 cap, .int .i64 lvl] w fun e w' => e = .returned (.int .i64 (obits op n (witsOf nl L G n))) ∧ Below w.heap.size w w' := by
  obtain ⟨R, hR⟩ : ∃ R, obits op n (witsOf nl L G n) = R := ⟨_, rfl⟩
  rw [hR]
  have HR := Lib.hid hR
  clear hR
  have p0 : w.cell? ⟨b, 0, none⟩ = some (.int .i64 op) := hp.c 0
  have p1 : w.cell? ⟨b, 1, none⟩ = some (.int .i64 0) := hp.c 1
  have d0 : decide (8 < lvl) = false := by simp; omega
  have d9 : (op == 9) = false := by simp; omega
  have d9' : decide (op = 9) = false := by simp; omega
  have d10 : (op == 10) = false := by simp; omega
  have d10' : decide (op = 10) = false := by simp; omega
  have d11 : (op == 11) = false := by simp; omega
  have d11' : decide (op = 11) = false := by simp; omega
  have d12 : (op == 12) = false := by simp; omega
  have d12' : decide (op = 12) = false := by simp; omega
  have HP := Lib.hid hp
  have HS := Lib.hid hs
  have HH := Lib.hid h
  have HNE := Lib.hid hne
  clear hp h hs hl hne
  go_enter Try.func37, Try.ntmps37
  go_upto_region 14 with fail
  refine wp_region_noPanic ?_
  refine wp_region_held_drew (S := (fun W => W.cell? ⟨b, 0, none⟩ = some (.int .i64 op) ∧ W.cell? ⟨b, 1, none⟩ = some (.int .i64 0) ∧ W.cell? ⟨b, 2, none⟩ = some (.int .i64 1) ∧ W.cell? ⟨b, 3, none⟩ = some (.int .i64 n) ∧ W.cell? ⟨b, 4, none⟩ = some (.string ⟨#[]⟩) ∧ W.cell? ⟨b, 5, none⟩ = some (.complex .f64 0 0) ∧ W.cell? ⟨b, 6, none⟩ = some (.complex .f64 0 0) ∧ W.cell? ⟨b, 7, none⟩ = some (.complex .f64 0 0) ∧ W.cell? ⟨b, 8, none⟩ = some (.slice none 0 0) ∧ W.cell? ⟨gs, 0, none⟩ = some (.int .i64 1) ∧ W.cell? ⟨gs, 1, none⟩ = some (.int .i64 rows) ∧ W.cell? ⟨gs, 2, none⟩ = some (.int .i64 nl) ∧ W.cell? ⟨gs, 3, none⟩ = some (.int .i64 1) ∧ W.cell? ⟨gs, 4, none⟩ = some (.int .i64 L) ∧ W.cell? ⟨gs, 5, none⟩ = some (.string ⟨#[]⟩) ∧ W.cell? ⟨gs, 6, none⟩ = some (.complex .f64 0 0) ∧ W.cell? ⟨gs, 7, none⟩ = some (.int .i64 1) ∧ W.cell? ⟨gs, 8, none⟩ = some (.int .i64 G) ∧ W.cell? ⟨gs, 9, none⟩ = some (.string ⟨#[]⟩) ∧ W.cell? ⟨gs, 10, none⟩ = some (.complex .f64 0 0) ∧ W.cell? ⟨gs, 11, none⟩ = some (.complex .f64 0 0) ∧ W.cell? ⟨gs, 12, none⟩ = some (.complex .f64 0 0))) (by kernel_rfl) ?_ (fun hHeld => ?_)
  · exact ⟨(show VP w.drew b (predA op 0 n) from HP.out).c 0, (show VP w.drew b (predA op 0 n) from HP.out).c 1, (show VP w.drew b (predA op 0 n) from HP.out).c 2, (show VP w.drew b (predA op 0 n) from HP.out).c 3, (show VP w.drew b (predA op 0 n) from HP.out).c 4, (show VP w.drew b (predA op 0 n) from HP.out).c 5, (show VP w.drew b (predA op 0 n) from HP.out).c 6, (show VP w.drew b (predA op 0 n) from HP.out).c 7, (show VP w.drew b (predA op 0 n) from HP.out).c 8, (show VS w.drew gs (statCells rows nl (1, L) (1, G)) from HS.out).c 0, (show VS w.drew gs (statCells rows nl (1, L) (1, G)) from HS.out).c 1, (show VS w.drew gs (statCells rows nl (1, L) (1, G)) from HS.out).c 2, (show VS w.drew gs (statCells rows nl (1, L) (1, G)) from HS.out).c 3, (show VS w.drew gs (statCells rows nl (1, L) (1, G)) from HS.out).c 4, (show VS w.drew gs (statCells rows nl (1, L) (1, G)) from HS.out).c 5, (show VS w.drew gs (statCells rows nl (1, L) (1, G)) from HS.out).c 6, (show VS w.drew gs (statCells rows nl (1, L) (1, G)) from HS.out).c 7, (show VS w.drew gs (statCells rows nl (1, L) (1, G)) from HS.out).c 8, (show VS w.drew gs (statCells rows nl (1, L) (1, G)) from HS.out).c 9, (show VS w.drew gs (statCells rows nl (1, L) (1, G)) from HS.out).c 10, (show VS w.drew gs (statCells rows nl (1, L) (1, G)) from HS.out).c 11, (show VS w.drew gs (statCells rows nl (1, L) (1, G)) from HS.out).c 12⟩
  refine wpAnyH_take (i := 0) (oi := { dst := some 58, op := Op.move (Operand.tmp 0), type := 76, pos := "skip.go:48", after := #[], guard := none }) (v := ?_) rfl (by kernel_rfl) (by kernel_rfl) (by kernel_rfl) (fun _ _ _ h => h) (Or.inl ⟨by rfl, ?_⟩) (by assumption) ?_
  rotate_left
  · (intro w hSw; (try dsimp only at hSw); go_simp; try with_reducible rfl)
  try simp only [Act.put, List.setIfInBounds_toArray, List.set_cons_zero, List.set_cons_succ]
  refine wpAnyH_take (i := 1) (oi := { dst := some 59, op := Op.nilCheck (Operand.tmp 58), type := 0, pos := "skip.go:48", after := #[{ on := 0, ground := Ground.data }], guard := none }) (v := ?_) rfl (by kernel_rfl) (by kernel_rfl) (by kernel_rfl) (fun _ _ _ h => h) (Or.inl ⟨by rfl, ?_⟩) (by assumption) ?_
  rotate_left
  · (intro w hSw; (try dsimp only at hSw); go_simp; try with_reducible rfl)
  try simp only [Act.put, List.setIfInBounds_toArray, List.set_cons_zero, List.set_cons_succ]
  refine wpAnyH_take (i := 2) (oi := { dst := some 60, op := Op.load 42 (Operand.tmp 59), type := 42, pos := "skip.go:48", after := #[{ on := 1, ground := Ground.data }], guard := none }) (v := ?_) rfl (by kernel_rfl) (by kernel_rfl) (by kernel_rfl) (fun _ _ _ h => h) (Or.inl ⟨by rfl, ?_⟩) (by assumption) ?_
  rotate_left
  · (intro w hSw; (try dsimp only at hSw); go_simp; try with_reducible rfl)
  try simp only [Act.put, List.setIfInBounds_toArray, List.set_cons_zero, List.set_cons_succ]
  refine wpAnyH_take (i := 3) (oi := { dst := some 61, op := Op.move (Operand.tmp 1), type := 49, pos := "skip.go:48", after := #[], guard := none }) (v := ?_) rfl (by kernel_rfl) (by kernel_rfl) (by kernel_rfl) (fun _ _ _ h => h) (Or.inl ⟨by rfl, ?_⟩) (by assumption) ?_
  rotate_left
  · (intro w hSw; (try dsimp only at hSw); go_simp; try with_reducible rfl)
  try simp only [Act.put, List.setIfInBounds_toArray, List.set_cons_zero, List.set_cons_succ]
  refine wpAnyH_take (i := 4) (oi := { dst := some 62, op := Op.move (Operand.tmp 0), type := 76, pos := "skip.go:48", after := #[], guard := none }) (v := ?_) rfl (by kernel_rfl) (by kernel_rfl) (by kernel_rfl) (fun _ _ _ h => h) (Or.inl ⟨by rfl, ?_⟩) (by assumption) ?_
  rotate_left
  · (intro w hSw; (try dsimp only at hSw); go_simp; try with_reducible rfl)
  try simp only [Act.put, List.setIfInBounds_toArray, List.set_cons_zero, List.set_cons_succ]
  refine wpAnyH_take (i := 5) (oi := { dst := some 63, op := Op.nilCheck (Operand.tmp 62), type := 0, pos := "skip.go:48", after := #[{ on := 4, ground := Ground.data }], guard := none }) (v := ?_) rfl (by kernel_rfl) (by kernel_rfl) (by kernel_rfl) (fun _ _ _ h => h) (Or.inl ⟨by rfl, ?_⟩) (by assumption) ?_
  rotate_left
  · (intro w hSw; (try dsimp only at hSw); go_simp; try with_reducible rfl)
  try simp only [Act.put, List.setIfInBounds_toArray, List.set_cons_zero, List.set_cons_succ]
  refine wpAnyH_take (i := 6) (oi := { dst := some 64, op := Op.fieldAddr 42 (Operand.tmp 63) 1, type := 0, pos := "skip.go:48", after := #[{ on := 5, ground := Ground.data }], guard := none }) (v := ?_) rfl (by kernel_rfl) (by kernel_rfl) (by kernel_rfl) (fun _ _ _ h => h) (Or.inl ⟨by rfl, ?_⟩) (by assumption) ?_
  rotate_left
  · (intro w hSw; (try dsimp only at hSw); go_simp; try with_reducible rfl)
  try simp only [Act.put, List.setIfInBounds_toArray, List.set_cons_zero, List.set_cons_succ]
  refine wpAnyH_take (i := 7) (oi := { dst := some 65, op := Op.load 3 (Operand.tmp 64), type := 3, pos := "skip.go:48", after := #[{ on := 6, ground := Ground.data }], guard := none }) (v := ?_) rfl (by kernel_rfl) (by kernel_rfl) (by kernel_rfl) (fun _ _ _ h => h) (Or.inl ⟨by rfl, ?_⟩) (by assumption) ?_
  rotate_left
  · (intro w hSw; (try dsimp only at hSw); go_simp; try with_reducible rfl)
  try simp only [Act.put, List.setIfInBounds_toArray, List.set_cons_zero, List.set_cons_succ]
  refine wpAnyH_take (i := 8) (oi := { dst := some 66, op := Op.indexAddr 49 (Operand.tmp 61) (Operand.tmp 65), type := 0, pos := "skip.go:48", after := #[{ on := 3, ground := Ground.data }, { on := 7, ground := Ground.data }], guard := none }) (v := ?_) rfl (by kernel_rfl) (by kernel_rfl) (by kernel_rfl) (fun _ _ _ h => h) (Or.inl ⟨by rfl, ?_⟩) (by assumption) ?_
  rotate_left
  · (intro w hSw; (try dsimp only at hSw); go_simp; try with_reducible rfl)
  try simp only [Act.put, List.setIfInBounds_toArray, List.set_cons_zero, List.set_cons_succ]
  refine wpAnyH_take (i := 9) (oi := { dst := some 67, op := Op.load 33 (Operand.tmp 66), type := 33, pos := "skip.go:48", after := #[{ on := 8, ground := Ground.data }], guard := none }) (v := ?_) rfl (by kernel_rfl) (by kernel_rfl) (by kernel_rfl) (fun _ _ _ h => h) (Or.inl ⟨by rfl, ?_⟩) (by assumption) ?_
  rotate_left
  · (intro w hSw; (try dsimp only at hSw); go_simp; try with_reducible rfl)
  try simp only [Act.put, List.setIfInBounds_toArray, List.set_cons_zero, List.set_cons_succ]
  refine wpAnyH_ready (rs := [10]) (by kernel_rfl) (by simp) ?_
  refine AllReadyH.cons (o := { dst := some 68, op := Op.call { callee := Callee.value (Operand.func 72), args := #[Operand.tmp 60, Operand.tmp 67], argTypes := #[42, 33] }, type := 3, pos := "skip.go:48", after := #[{ on := 2, ground := Ground.data }, { on := 9, ground := Ground.data }], guard := none }) rfl (fun K hK => ?_) AllReadyH.nil
  go_simp
  refine (Try.asked op n rows nl L G HH.out HNE.out _).mono ?_
  rw [HR.out]
  rintro e w1 ⟨rfl, hb⟩
  dsimp only
  have hc : Below w.heap.size w w1 := ⟨hb.os, hb.tape, hb.output, hb.size, hb.block⟩
  have KK : Hid ((fun W => W.cell? ⟨b, 0, none⟩ = some (.int .i64 op) ∧ W.cell? ⟨b, 1, none⟩ = some (.int .i64 0) ∧ W.cell? ⟨b, 2, none⟩ = some (.int .i64 1) ∧ W.cell? ⟨b, 3, none⟩ = some (.int .i64 n) ∧ W.cell? ⟨b, 4, none⟩ = some (.string ⟨#[]⟩) ∧ W.cell? ⟨b, 5, none⟩ = some (.complex .f64 0 0) ∧ W.cell? ⟨b, 6, none⟩ = some (.complex .f64 0 0) ∧ W.cell? ⟨b, 7, none⟩ = some (.complex .f64 0 0) ∧ W.cell? ⟨b, 8, none⟩ = some (.slice none 0 0) ∧ W.cell? ⟨gs, 0, none⟩ = some (.int .i64 1) ∧ W.cell? ⟨gs, 1, none⟩ = some (.int .i64 rows) ∧ W.cell? ⟨gs, 2, none⟩ = some (.int .i64 nl) ∧ W.cell? ⟨gs, 3, none⟩ = some (.int .i64 1) ∧ W.cell? ⟨gs, 4, none⟩ = some (.int .i64 L) ∧ W.cell? ⟨gs, 5, none⟩ = some (.string ⟨#[]⟩) ∧ W.cell? ⟨gs, 6, none⟩ = some (.complex .f64 0 0) ∧ W.cell? ⟨gs, 7, none⟩ = some (.int .i64 1) ∧ W.cell? ⟨gs, 8, none⟩ = some (.int .i64 G) ∧ W.cell? ⟨gs, 9, none⟩ = some (.string ⟨#[]⟩) ∧ W.cell? ⟨gs, 10, none⟩ = some (.complex .f64 0 0) ∧ W.cell? ⟨gs, 11, none⟩ = some (.complex .f64 0 0) ∧ W.cell? ⟨gs, 12, none⟩ = some (.complex .f64 0 0)) w1) := Lib.hid ⟨((HP.out).below hc).c 0, ((HP.out).below hc).c 1, ((HP.out).below hc).c 2, ((HP.out).below hc).c 3, ((HP.out).below hc).c 4, ((HP.out).below hc).c 5, ((HP.out).below hc).c 6, ((HP.out).below hc).c 7, ((HP.out).below hc).c 8, ((HS.out).below hc).c 0, ((HS.out).below hc).c 1, ((HS.out).below hc).c 2, ((HS.out).below hc).c 3, ((HS.out).below hc).c 4, ((HS.out).below hc).c 5, ((HS.out).below hc).c 6, ((HS.out).below hc).c 7, ((HS.out).below hc).c 8, ((HS.out).below hc).c 9, ((HS.out).below hc).c 10, ((HS.out).below hc).c 11, ((HS.out).below hc).c 12⟩
  have B1 := Lib.hid hc
  clear hb hc
  refine hK.out _ _ ?_ (fun hHeld => ?_)
  · exact KK.out
  clear hK K
  try simp only [Act.put, List.setIfInBounds_toArray, List.set_cons_zero, List.set_cons_succ]
  refine wpAnyH_take (i := 11) (oi := { dst := some 6, op := Op.assign (Operand.tmp 68), type := 3, pos := "skip.go:48", after := #[{ on := 10, ground := Ground.data }, { on := 10, ground := Ground.chain }, { on := 0, ground := Ground.phase }, { on := 1, ground := Ground.phase }, { on := 2, ground := Ground.phase }, { on := 3, ground := Ground.phase }, { on := 4, ground := Ground.phase }, { on := 5, ground := Ground.phase }, { on := 6, ground := Ground.phase }, { on := 7, ground := Ground.phase }, { on := 8, ground := Ground.phase }, { on := 9, ground := Ground.phase }, { on := 10, ground := Ground.phase }], guard := none }) (v := ?_) rfl (by kernel_rfl) (by kernel_rfl) (by kernel_rfl) (fun _ _ _ h => h) (Or.inl ⟨by rfl, ?_⟩) (by assumption) ?_
  rotate_left
  · (intro w hSw; (try dsimp only at hSw); go_simp; try with_reducible rfl)
  try simp only [Act.put, List.setIfInBounds_toArray, List.set_cons_zero, List.set_cons_succ]
  refine wpAnyH_done (by kernel_rfl) ?_ _
  refine NoPanic.normal ?_
  go_wp2_with fail
  go_ret
  exact ⟨rfl, B1.out⟩
theorem Try.mayP {w : World} {gs cap : Nat} {op n rows nl L G : Int} (h : 1 ≤ op ∧ op ≤ 6) (hs : VS w gs (statCells rows nl (1, L) (1, G))) (hne : rows ≠ nl) (hr : 1 ≤ rows) :
    Calls Try.prog 15 #[.agg (predA op 0 n), .slice (some ⟨gs, 0, none⟩) 1 cap] w fun e w' => e = .returned (.int .i64 (obits op n (witsOf nl L G n))) ∧ Below w.heap.size w w' := by
  have hA := (Below.refl _ w).alloc (Nat.le_refl _) (.cells (predA op 0 n) 42)
  have P0 : Hid (VP (w.alloc (.cells (predA op 0 n) 42)) w.heap.size (predA op 0 n)) := Lib.hid (alloc_here w _)
  have S0 := Lib.hid (hs.below hA)
  have HA := Lib.hid hA
  have HH := Lib.hid h
  have HNE := Lib.hid hne
  have s1 : (w.alloc (.cells #[.int .i64 op, .int .i64 0, .int .i64 1, .int .i64 n, .string ⟨#[]⟩, .complex .f64 0 0, .complex .f64 0 0, .complex .f64 0 0, .slice none 0 0] 42)).cell? ⟨gs, 1, none⟩ = some (.int .i64 rows) := (hs.below hA).c 1
  have dr : decide (rows < 1) = false := by simp; omega
  clear hA hs h hne hr
  unfold predA
  go_enter Try.func15, Try.ntmps15
  go_wp2_with fail
  refine (Try.mayC P0.out HH.out S0.out HNE.out (by decide)).mono ?_
  rintro e w1 ⟨rfl, hb⟩
  have HB := Lib.hid ((HA.out).trans (Below.mono hb (HA.out).size))
  clear hb
  go_wp2_with fail
  go_ret
  exact ⟨rfl, HB.out⟩
end Go.Proofs
end

section
namespace Go.Proofs
open Go.RowKit
set_option maxRecDepth 100000
def an3 (x y : Int) : Int := if x = 0 ∨ y = 0 then 0 else max x y
def lor (a b : Int) : Int := Go.bits .or .i64 a b
def hasb (b : Int) (y : Nat) : Bool := (b / (2 ^ y : Nat)) % 2 == 1
def shl1 (x : Int) : Int := if x = 0 then 1 else if x = 1 then 2 else 4
def sOne (x b : Int) : Int := (List.range 3).foldl (fun o y => if hasb b y then lor o (shl1 (an3 x y)) else o) 0
def sBoth (a b : Int) : Int := (List.range 3).foldl (fun o (x : Nat) => if hasb a x then lor o (sOne (x : Int) b) else o) 0
def sTurn (a : Int) : Int := (if hasb a 2 then 4 else 0) + (if hasb a 0 then 2 else 0) + (if hasb a 1 then 1 else 0)
theorem three {x : Int} (h : 0 ≤ x ∧ x ≤ 2) : x = 0 ∨ x = 1 ∨ x = 2 := by omega
theorem eight {x : Int} (h : 0 ≤ x ∧ x ≤ 7) : x = 0 ∨ x = 1 ∨ x = 2 ∨ x = 3 ∨ x = 4 ∨ x = 5 ∨ x = 6 ∨ x = 7 := by omega
theorem Try.and3 (x y : Int) (hx : 0 ≤ x ∧ x ≤ 2) (hy : 0 ≤ y ∧ y ≤ 2) (w : World) : Calls Try.prog 122 #[.int .i64 x, .int .i64 y] w fun e w' => e = .returned (.int .i64 (an3 x y)) ∧ w = w' := by
  rcases three hx with rfl | rfl | rfl <;> rcases three hy with rfl | rfl | rfl <;> (clear hx hy; go_enter Try.func122, Try.ntmps122; go_wp2; go_ret; exact ⟨rfl, rfl⟩)
theorem Try.same (x : Int) (w : World) : Calls Try.prog 70 #[.int .i64 x] w fun e w' => e = .returned (.int .i64 x) ∧ w = w' := by
  go_enter Try.func70, Try.ntmps70
  go_wp2
  go_ret
  exact ⟨rfl, rfl⟩
theorem Try.turn3 (a : Int) (ha : 0 ≤ a ∧ a ≤ 7) (w : World) : Calls Try.prog 71 #[.int .i64 a] w fun e w' => e = .returned (.int .i64 (sTurn a)) ∧ w = w' := by
  rcases eight ha with rfl | rfl | rfl | rfl | rfl | rfl | rfl | rfl <;> (clear ha; go_enter Try.func71, Try.ntmps71; go_wp2; go_ret; exact ⟨rfl, rfl⟩)
set_option maxHeartbeats 4000000 in
theorem Try.one3 (x b : Int) (hx : 0 ≤ x ∧ x ≤ 2) (hb : 0 ≤ b ∧ b ≤ 7) (w : World) : Calls Try.prog 115 #[.int .i64 x, .int .i64 b] w fun e w' => e = .returned (.int .i64 (sOne x b)) ∧ w = w' := by
  have a00 : an3 0 0 = 0 := by decide
  have a01 : an3 0 1 = 0 := by decide
  have a02 : an3 0 2 = 0 := by decide
  have a10 : an3 1 0 = 0 := by decide
  have a11 : an3 1 1 = 1 := by decide
  have a12 : an3 1 2 = 2 := by decide
  have a20 : an3 2 0 = 0 := by decide
  have a21 : an3 2 1 = 2 := by decide
  have a22 : an3 2 2 = 2 := by decide
  rcases three hx with rfl | rfl | rfl <;> rcases eight hb with rfl | rfl | rfl | rfl | rfl | rfl | rfl | rfl
  all_goals
    clear hx hb
    go_enter Try.func115, Try.ntmps115
    go_wp2
    refine wp_scope_fwd 3 ?_
    go_wp2_with (go_at_call 122; refine (Try.and3 _ _ (by decide) (by decide) _).mono ?_; rintro e w' ⟨rfl, rfl⟩)
    go_step3
    go_wp2_with (go_at_call 122; refine (Try.and3 _ _ (by decide) (by decide) _).mono ?_; rintro e w' ⟨rfl, rfl⟩)
    go_step3
    refine ⟨_, rfl, ?_⟩
    go_wp2_with (go_at_call 122; refine (Try.and3 _ _ (by decide) (by decide) _).mono ?_; rintro e w' ⟨rfl, rfl⟩)
    go_step3
    refine ⟨_, rfl, ?_⟩
    go_wp2_with (go_at_call 122; refine (Try.and3 _ _ (by decide) (by decide) _).mono ?_; rintro e w' ⟨rfl, rfl⟩)
    go_step3
    refine ⟨_, rfl, ?_⟩
    go_wp2_with (go_at_call 122; refine (Try.and3 _ _ (by decide) (by decide) _).mono ?_; rintro e w' ⟨rfl, rfl⟩)
    refine (Fwd.other (by intro l; simp)).2 ?_
    go_ret
    exact ⟨rfl, rfl⟩
set_option maxHeartbeats 8000000 in
theorem Try.both3 (a b : Int) (ha : 0 ≤ a ∧ a ≤ 7) (hb : 0 ≤ b ∧ b ≤ 7) (w : World) : Calls Try.prog 96 #[.int .i64 a, .int .i64 b] w fun e w' => e = .returned (.int .i64 (sBoth a b)) ∧ w = w' := by
  rcases eight ha with rfl | rfl | rfl | rfl | rfl | rfl | rfl | rfl
  · clear ha
    go_enter Try.func96, Try.ntmps96
    go_wp2
    refine wp_scope_fwd 3 ?_
    go_wp2_with (go_at_call 115; refine (Try.one3 _ _ (by decide) hb _).mono ?_; rintro e w' ⟨rfl, rfl⟩)
    go_step3
    go_wp2_with (go_at_call 115; refine (Try.one3 _ _ (by decide) hb _).mono ?_; rintro e w' ⟨rfl, rfl⟩)
    go_step3
    refine ⟨_, rfl, ?_⟩
    go_wp2_with (go_at_call 115; refine (Try.one3 _ _ (by decide) hb _).mono ?_; rintro e w' ⟨rfl, rfl⟩)
    go_step3
    refine ⟨_, rfl, ?_⟩
    go_wp2_with (go_at_call 115; refine (Try.one3 _ _ (by decide) hb _).mono ?_; rintro e w' ⟨rfl, rfl⟩)
    go_step3
    refine ⟨_, rfl, ?_⟩
    go_wp2_with (go_at_call 115; refine (Try.one3 _ _ (by decide) hb _).mono ?_; rintro e w' ⟨rfl, rfl⟩)
    refine (Fwd.other (by intro l; simp)).2 ?_
    go_ret
    exact ⟨rfl, rfl⟩
  · clear ha
    go_enter Try.func96, Try.ntmps96
    go_wp2
    refine wp_scope_fwd 3 ?_
    go_wp2_with (go_at_call 115; refine (Try.one3 _ _ (by decide) hb _).mono ?_; rintro e w' ⟨rfl, rfl⟩)
    go_step3
    go_wp2_with (go_at_call 115; refine (Try.one3 _ _ (by decide) hb _).mono ?_; rintro e w' ⟨rfl, rfl⟩)
    go_step3
    refine ⟨_, rfl, ?_⟩
    go_wp2_with (go_at_call 115; refine (Try.one3 _ _ (by decide) hb _).mono ?_; rintro e w' ⟨rfl, rfl⟩)
    go_step3
    refine ⟨_, rfl, ?_⟩
    go_wp2_with (go_at_call 115; refine (Try.one3 _ _ (by decide) hb _).mono ?_; rintro e w' ⟨rfl, rfl⟩)
    go_step3
    refine ⟨_, rfl, ?_⟩
    go_wp2_with (go_at_call 115; refine (Try.one3 _ _ (by decide) hb _).mono ?_; rintro e w' ⟨rfl, rfl⟩)
    refine (Fwd.other (by intro l; simp)).2 ?_
    go_ret
    exact ⟨rfl, rfl⟩
  · clear ha
    go_enter Try.func96, Try.ntmps96
    go_wp2
    refine wp_scope_fwd 3 ?_
    go_wp2_with (go_at_call 115; refine (Try.one3 _ _ (by decide) hb _).mono ?_; rintro e w' ⟨rfl, rfl⟩)
    go_step3
    go_wp2_with (go_at_call 115; refine (Try.one3 _ _ (by decide) hb _).mono ?_; rintro e w' ⟨rfl, rfl⟩)
    go_step3
    refine ⟨_, rfl, ?_⟩
    go_wp2_with (go_at_call 115; refine (Try.one3 _ _ (by decide) hb _).mono ?_; rintro e w' ⟨rfl, rfl⟩)
    go_step3
    refine ⟨_, rfl, ?_⟩
    go_wp2_with (go_at_call 115; refine (Try.one3 _ _ (by decide) hb _).mono ?_; rintro e w' ⟨rfl, rfl⟩)
    go_step3
    refine ⟨_, rfl, ?_⟩
    go_wp2_with (go_at_call 115; refine (Try.one3 _ _ (by decide) hb _).mono ?_; rintro e w' ⟨rfl, rfl⟩)
    refine (Fwd.other (by intro l; simp)).2 ?_
    go_ret
    exact ⟨rfl, rfl⟩
  · clear ha
    go_enter Try.func96, Try.ntmps96
    go_wp2
    refine wp_scope_fwd 3 ?_
    go_wp2_with (go_at_call 115; refine (Try.one3 _ _ (by decide) hb _).mono ?_; rintro e w' ⟨rfl, rfl⟩)
    go_step3
    go_wp2_with (go_at_call 115; refine (Try.one3 _ _ (by decide) hb _).mono ?_; rintro e w' ⟨rfl, rfl⟩)
    go_step3
    refine ⟨_, rfl, ?_⟩
    go_wp2_with (go_at_call 115; refine (Try.one3 _ _ (by decide) hb _).mono ?_; rintro e w' ⟨rfl, rfl⟩)
    go_step3
    refine ⟨_, rfl, ?_⟩
    go_wp2_with (go_at_call 115; refine (Try.one3 _ _ (by decide) hb _).mono ?_; rintro e w' ⟨rfl, rfl⟩)
    go_step3
    refine ⟨_, rfl, ?_⟩
    go_wp2_with (go_at_call 115; refine (Try.one3 _ _ (by decide) hb _).mono ?_; rintro e w' ⟨rfl, rfl⟩)
    refine (Fwd.other (by intro l; simp)).2 ?_
    go_ret
    exact ⟨rfl, rfl⟩
  · clear ha
    go_enter Try.func96, Try.ntmps96
    go_wp2
    refine wp_scope_fwd 3 ?_
    go_wp2_with (go_at_call 115; refine (Try.one3 _ _ (by decide) hb _).mono ?_; rintro e w' ⟨rfl, rfl⟩)
    go_step3
    go_wp2_with (go_at_call 115; refine (Try.one3 _ _ (by decide) hb _).mono ?_; rintro e w' ⟨rfl, rfl⟩)
    go_step3
    refine ⟨_, rfl, ?_⟩
    go_wp2_with (go_at_call 115; refine (Try.one3 _ _ (by decide) hb _).mono ?_; rintro e w' ⟨rfl, rfl⟩)
    go_step3
    refine ⟨_, rfl, ?_⟩
    go_wp2_with (go_at_call 115; refine (Try.one3 _ _ (by decide) hb _).mono ?_; rintro e w' ⟨rfl, rfl⟩)
    go_step3
    refine ⟨_, rfl, ?_⟩
    go_wp2_with (go_at_call 115; refine (Try.one3 _ _ (by decide) hb _).mono ?_; rintro e w' ⟨rfl, rfl⟩)
    refine (Fwd.other (by intro l; simp)).2 ?_
    go_ret
    exact ⟨rfl, rfl⟩
  · clear ha
    go_enter Try.func96, Try.ntmps96
    go_wp2
    refine wp_scope_fwd 3 ?_
    go_wp2_with (go_at_call 115; refine (Try.one3 _ _ (by decide) hb _).mono ?_; rintro e w' ⟨rfl, rfl⟩)
    go_step3
    go_wp2_with (go_at_call 115; refine (Try.one3 _ _ (by decide) hb _).mono ?_; rintro e w' ⟨rfl, rfl⟩)
    go_step3
    refine ⟨_, rfl, ?_⟩
    go_wp2_with (go_at_call 115; refine (Try.one3 _ _ (by decide) hb _).mono ?_; rintro e w' ⟨rfl, rfl⟩)
    go_step3
    refine ⟨_, rfl, ?_⟩
    go_wp2_with (go_at_call 115; refine (Try.one3 _ _ (by decide) hb _).mono ?_; rintro e w' ⟨rfl, rfl⟩)
    go_step3
    refine ⟨_, rfl, ?_⟩
    go_wp2_with (go_at_call 115; refine (Try.one3 _ _ (by decide) hb _).mono ?_; rintro e w' ⟨rfl, rfl⟩)
    refine (Fwd.other (by intro l; simp)).2 ?_
    go_ret
    exact ⟨rfl, rfl⟩
  · clear ha
    go_enter Try.func96, Try.ntmps96
    go_wp2
    refine wp_scope_fwd 3 ?_
    go_wp2_with (go_at_call 115; refine (Try.one3 _ _ (by decide) hb _).mono ?_; rintro e w' ⟨rfl, rfl⟩)
    go_step3
    go_wp2_with (go_at_call 115; refine (Try.one3 _ _ (by decide) hb _).mono ?_; rintro e w' ⟨rfl, rfl⟩)
    go_step3
    refine ⟨_, rfl, ?_⟩
    go_wp2_with (go_at_call 115; refine (Try.one3 _ _ (by decide) hb _).mono ?_; rintro e w' ⟨rfl, rfl⟩)
    go_step3
    refine ⟨_, rfl, ?_⟩
    go_wp2_with (go_at_call 115; refine (Try.one3 _ _ (by decide) hb _).mono ?_; rintro e w' ⟨rfl, rfl⟩)
    go_step3
    refine ⟨_, rfl, ?_⟩
    go_wp2_with (go_at_call 115; refine (Try.one3 _ _ (by decide) hb _).mono ?_; rintro e w' ⟨rfl, rfl⟩)
    refine (Fwd.other (by intro l; simp)).2 ?_
    go_ret
    exact ⟨rfl, rfl⟩
  · clear ha
    go_enter Try.func96, Try.ntmps96
    go_wp2
    refine wp_scope_fwd 3 ?_
    go_wp2_with (go_at_call 115; refine (Try.one3 _ _ (by decide) hb _).mono ?_; rintro e w' ⟨rfl, rfl⟩)
    go_step3
    go_wp2_with (go_at_call 115; refine (Try.one3 _ _ (by decide) hb _).mono ?_; rintro e w' ⟨rfl, rfl⟩)
    go_step3
    refine ⟨_, rfl, ?_⟩
    go_wp2_with (go_at_call 115; refine (Try.one3 _ _ (by decide) hb _).mono ?_; rintro e w' ⟨rfl, rfl⟩)
    go_step3
    refine ⟨_, rfl, ?_⟩
    go_wp2_with (go_at_call 115; refine (Try.one3 _ _ (by decide) hb _).mono ?_; rintro e w' ⟨rfl, rfl⟩)
    go_step3
    refine ⟨_, rfl, ?_⟩
    go_wp2_with (go_at_call 115; refine (Try.one3 _ _ (by decide) hb _).mono ?_; rintro e w' ⟨rfl, rfl⟩)
    refine (Fwd.other (by intro l; simp)).2 ?_
    go_ret
    exact ⟨rfl, rfl⟩
end Go.Proofs
end

section
namespace Go.Proofs
open Go.RowKit
set_option maxRecDepth 100000
structure PC (w : World) (b off : Nat) (cs : Array Value) : Prop where
  lt : b < w.heap.size
  c : ∀ j u, cs[j]? = some u → w.cell? ⟨b, off + j, none⟩ = some u
theorem PC.below {w w' : World} {b off : Nat} {cs : Array Value} (h : PC w b off cs) (hb : Below w.heap.size w w') : PC w' b off cs :=
  ⟨Nat.lt_of_lt_of_le h.lt hb.size, fun j u hu => (hb.cell (p := ⟨b, off + j, none⟩) h.lt).trans (h.c j u hu)⟩
theorem PC.drew {w : World} {b off : Nat} {cs : Array Value} (h : PC w b off cs) : PC w.drew b off cs := ⟨h.lt, h.c⟩
set_option maxHeartbeats 4000000 in
theorem Try.mayG {w : World} {b off gs cap : Nat} {op n rows nl L G lvl : Int} (hp : PC w b off (predA op 0 n)) (h : 1 ≤ op ∧ op ≤ 6) (hs : VS w gs (statCells rows nl (1, L) (1, G))) (hne : rows ≠ nl) (hl : lvl ≤ 8) :
    Calls Try.prog 37 #[.pointer (some ⟨b, off, none⟩), .slice (some ⟨gs, 0, none⟩) 1 cap, .int .i64 lvl] w fun e w' => e = .returned (.int .i64 (obits op n (witsOf nl L G n))) ∧ Below w.heap.size w w' := by
  obtain ⟨R, hR⟩ : ∃ R, obits op n (witsOf nl L G n) = R := ⟨_, rfl⟩
  rw [hR]
  have HR := Lib.hid hR
  clear hR
  have p0 : w.cell? ⟨b, off, none⟩ = some (.int .i64 op) := hp.c 0 _ rfl
  have p1 : w.cell? ⟨b, off + 1, none⟩ = some (.int .i64 0) := hp.c 1 _ rfl
  have d0 : decide (8 < lvl) = false := by simp; omega
  have d9 : (op == 9) = false := by simp; omega
  have d9' : decide (op = 9) = false := by simp; omega
  have d10 : (op == 10) = false := by simp; omega
  have d10' : decide (op = 10) = false := by simp; omega
  have d11 : (op == 11) = false := by simp; omega
  have d11' : decide (op = 11) = false := by simp; omega
  have d12 : (op == 12) = false := by simp; omega
  have d12' : decide (op = 12) = false := by simp; omega
  have HP := Lib.hid hp
  have HS := Lib.hid hs
  have HH := Lib.hid h
  have HNE := Lib.hid hne
  clear hp h hs hl hne
  go_enter Try.func37, Try.ntmps37
  go_upto_region 14 with fail
  refine wp_region_noPanic ?_
  refine wp_region_held_drew (S := (fun W => W.cell? ⟨b, off, none⟩ = some (.int .i64 op) ∧ W.cell? ⟨b, off + 1, none⟩ = some (.int .i64 0) ∧ W.cell? ⟨b, off + 2, none⟩ = some (.int .i64 1) ∧ W.cell? ⟨b, off + 3, none⟩ = some (.int .i64 n) ∧ W.cell? ⟨b, off + 4, none⟩ = some (.string ⟨#[]⟩) ∧ W.cell? ⟨b, off + 5, none⟩ = some (.complex .f64 0 0) ∧ W.cell? ⟨b, off + 6, none⟩ = some (.complex .f64 0 0) ∧ W.cell? ⟨b, off + 7, none⟩ = some (.complex .f64 0 0) ∧ W.cell? ⟨b, off + 8, none⟩ = some (.slice none 0 0) ∧ W.cell? ⟨gs, 0, none⟩ = some (.int .i64 1) ∧ W.cell? ⟨gs, 1, none⟩ = some (.int .i64 rows) ∧ W.cell? ⟨gs, 2, none⟩ = some (.int .i64 nl) ∧ W.cell? ⟨gs, 3, none⟩ = some (.int .i64 1) ∧ W.cell? ⟨gs, 4, none⟩ = some (.int .i64 L) ∧ W.cell? ⟨gs, 5, none⟩ = some (.string ⟨#[]⟩) ∧ W.cell? ⟨gs, 6, none⟩ = some (.complex .f64 0 0) ∧ W.cell? ⟨gs, 7, none⟩ = some (.int .i64 1) ∧ W.cell? ⟨gs, 8, none⟩ = some (.int .i64 G) ∧ W.cell? ⟨gs, 9, none⟩ = some (.string ⟨#[]⟩) ∧ W.cell? ⟨gs, 10, none⟩ = some (.complex .f64 0 0) ∧ W.cell? ⟨gs, 11, none⟩ = some (.complex .f64 0 0) ∧ W.cell? ⟨gs, 12, none⟩ = some (.complex .f64 0 0))) (by kernel_rfl) ?_ (fun hHeld => ?_)
  · exact ⟨((HP.out).drew).c 0 _ rfl, ((HP.out).drew).c 1 _ rfl, ((HP.out).drew).c 2 _ rfl, ((HP.out).drew).c 3 _ rfl, ((HP.out).drew).c 4 _ rfl, ((HP.out).drew).c 5 _ rfl, ((HP.out).drew).c 6 _ rfl, ((HP.out).drew).c 7 _ rfl, ((HP.out).drew).c 8 _ rfl, (show VS w.drew gs (statCells rows nl (1, L) (1, G)) from HS.out).c 0, (show VS w.drew gs (statCells rows nl (1, L) (1, G)) from HS.out).c 1, (show VS w.drew gs (statCells rows nl (1, L) (1, G)) from HS.out).c 2, (show VS w.drew gs (statCells rows nl (1, L) (1, G)) from HS.out).c 3, (show VS w.drew gs (statCells rows nl (1, L) (1, G)) from HS.out).c 4, (show VS w.drew gs (statCells rows nl (1, L) (1, G)) from HS.out).c 5, (show VS w.drew gs (statCells rows nl (1, L) (1, G)) from HS.out).c 6, (show VS w.drew gs (statCells rows nl (1, L) (1, G)) from HS.out).c 7, (show VS w.drew gs (statCells rows nl (1, L) (1, G)) from HS.out).c 8, (show VS w.drew gs (statCells rows nl (1, L) (1, G)) from HS.out).c 9, (show VS w.drew gs (statCells rows nl (1, L) (1, G)) from HS.out).c 10, (show VS w.drew gs (statCells rows nl (1, L) (1, G)) from HS.out).c 11, (show VS w.drew gs (statCells rows nl (1, L) (1, G)) from HS.out).c 12⟩
  refine wpAnyH_take (i := 0) (oi := { dst := some 58, op := Op.move (Operand.tmp 0), type := 76, pos := "skip.go:48", after := #[], guard := none }) (v := ?_) rfl (by kernel_rfl) (by kernel_rfl) (by kernel_rfl) (fun _ _ _ h => h) (Or.inl ⟨by rfl, ?_⟩) (by assumption) ?_
  rotate_left
  · (intro w hSw; (try dsimp only at hSw); go_simp; try with_reducible rfl)
  try simp only [Act.put, List.setIfInBounds_toArray, List.set_cons_zero, List.set_cons_succ]
  refine wpAnyH_take (i := 1) (oi := { dst := some 59, op := Op.nilCheck (Operand.tmp 58), type := 0, pos := "skip.go:48", after := #[{ on := 0, ground := Ground.data }], guard := none }) (v := ?_) rfl (by kernel_rfl) (by kernel_rfl) (by kernel_rfl) (fun _ _ _ h => h) (Or.inl ⟨by rfl, ?_⟩) (by assumption) ?_
  rotate_left
  · (intro w hSw; (try dsimp only at hSw); go_simp; try with_reducible rfl)
  try simp only [Act.put, List.setIfInBounds_toArray, List.set_cons_zero, List.set_cons_succ]
  refine wpAnyH_take (i := 2) (oi := { dst := some 60, op := Op.load 42 (Operand.tmp 59), type := 42, pos := "skip.go:48", after := #[{ on := 1, ground := Ground.data }], guard := none }) (v := ?_) rfl (by kernel_rfl) (by kernel_rfl) (by kernel_rfl) (fun _ _ _ h => h) (Or.inl ⟨by rfl, ?_⟩) (by assumption) ?_
  rotate_left
  · (intro w hSw; (try dsimp only at hSw); go_simp; try with_reducible rfl)
  try simp only [Act.put, List.setIfInBounds_toArray, List.set_cons_zero, List.set_cons_succ]
  refine wpAnyH_take (i := 3) (oi := { dst := some 61, op := Op.move (Operand.tmp 1), type := 49, pos := "skip.go:48", after := #[], guard := none }) (v := ?_) rfl (by kernel_rfl) (by kernel_rfl) (by kernel_rfl) (fun _ _ _ h => h) (Or.inl ⟨by rfl, ?_⟩) (by assumption) ?_
  rotate_left
  · (intro w hSw; (try dsimp only at hSw); go_simp; try with_reducible rfl)
  try simp only [Act.put, List.setIfInBounds_toArray, List.set_cons_zero, List.set_cons_succ]
  refine wpAnyH_take (i := 4) (oi := { dst := some 62, op := Op.move (Operand.tmp 0), type := 76, pos := "skip.go:48", after := #[], guard := none }) (v := ?_) rfl (by kernel_rfl) (by kernel_rfl) (by kernel_rfl) (fun _ _ _ h => h) (Or.inl ⟨by rfl, ?_⟩) (by assumption) ?_
  rotate_left
  · (intro w hSw; (try dsimp only at hSw); go_simp; try with_reducible rfl)
  try simp only [Act.put, List.setIfInBounds_toArray, List.set_cons_zero, List.set_cons_succ]
  refine wpAnyH_take (i := 5) (oi := { dst := some 63, op := Op.nilCheck (Operand.tmp 62), type := 0, pos := "skip.go:48", after := #[{ on := 4, ground := Ground.data }], guard := none }) (v := ?_) rfl (by kernel_rfl) (by kernel_rfl) (by kernel_rfl) (fun _ _ _ h => h) (Or.inl ⟨by rfl, ?_⟩) (by assumption) ?_
  rotate_left
  · (intro w hSw; (try dsimp only at hSw); go_simp; try with_reducible rfl)
  try simp only [Act.put, List.setIfInBounds_toArray, List.set_cons_zero, List.set_cons_succ]
  refine wpAnyH_take (i := 6) (oi := { dst := some 64, op := Op.fieldAddr 42 (Operand.tmp 63) 1, type := 0, pos := "skip.go:48", after := #[{ on := 5, ground := Ground.data }], guard := none }) (v := ?_) rfl (by kernel_rfl) (by kernel_rfl) (by kernel_rfl) (fun _ _ _ h => h) (Or.inl ⟨by rfl, ?_⟩) (by assumption) ?_
  rotate_left
  · (intro w hSw; (try dsimp only at hSw); go_simp; try with_reducible rfl)
  try simp only [Act.put, List.setIfInBounds_toArray, List.set_cons_zero, List.set_cons_succ]
  refine wpAnyH_take (i := 7) (oi := { dst := some 65, op := Op.load 3 (Operand.tmp 64), type := 3, pos := "skip.go:48", after := #[{ on := 6, ground := Ground.data }], guard := none }) (v := ?_) rfl (by kernel_rfl) (by kernel_rfl) (by kernel_rfl) (fun _ _ _ h => h) (Or.inl ⟨by rfl, ?_⟩) (by assumption) ?_
  rotate_left
  · (intro w hSw; (try dsimp only at hSw); go_simp; try with_reducible rfl)
  try simp only [Act.put, List.setIfInBounds_toArray, List.set_cons_zero, List.set_cons_succ]
  refine wpAnyH_take (i := 8) (oi := { dst := some 66, op := Op.indexAddr 49 (Operand.tmp 61) (Operand.tmp 65), type := 0, pos := "skip.go:48", after := #[{ on := 3, ground := Ground.data }, { on := 7, ground := Ground.data }], guard := none }) (v := ?_) rfl (by kernel_rfl) (by kernel_rfl) (by kernel_rfl) (fun _ _ _ h => h) (Or.inl ⟨by rfl, ?_⟩) (by assumption) ?_
  rotate_left
  · (intro w hSw; (try dsimp only at hSw); go_simp; try with_reducible rfl)
  try simp only [Act.put, List.setIfInBounds_toArray, List.set_cons_zero, List.set_cons_succ]
  refine wpAnyH_take (i := 9) (oi := { dst := some 67, op := Op.load 33 (Operand.tmp 66), type := 33, pos := "skip.go:48", after := #[{ on := 8, ground := Ground.data }], guard := none }) (v := ?_) rfl (by kernel_rfl) (by kernel_rfl) (by kernel_rfl) (fun _ _ _ h => h) (Or.inl ⟨by rfl, ?_⟩) (by assumption) ?_
  rotate_left
  · (intro w hSw; (try dsimp only at hSw); go_simp; try with_reducible rfl)
  try simp only [Act.put, List.setIfInBounds_toArray, List.set_cons_zero, List.set_cons_succ]
  refine wpAnyH_ready (rs := [10]) (by kernel_rfl) (by simp) ?_
  refine AllReadyH.cons (o := { dst := some 68, op := Op.call { callee := Callee.value (Operand.func 72), args := #[Operand.tmp 60, Operand.tmp 67], argTypes := #[42, 33] }, type := 3, pos := "skip.go:48", after := #[{ on := 2, ground := Ground.data }, { on := 9, ground := Ground.data }], guard := none }) rfl (fun K hK => ?_) AllReadyH.nil
  go_simp
  refine (Try.asked op n rows nl L G HH.out HNE.out _).mono ?_
  rw [HR.out]
  rintro e w1 ⟨rfl, hb⟩
  dsimp only
  have hc : Below w.heap.size w w1 := ⟨hb.os, hb.tape, hb.output, hb.size, hb.block⟩
  have KK : Hid ((fun W => W.cell? ⟨b, off, none⟩ = some (.int .i64 op) ∧ W.cell? ⟨b, off + 1, none⟩ = some (.int .i64 0) ∧ W.cell? ⟨b, off + 2, none⟩ = some (.int .i64 1) ∧ W.cell? ⟨b, off + 3, none⟩ = some (.int .i64 n) ∧ W.cell? ⟨b, off + 4, none⟩ = some (.string ⟨#[]⟩) ∧ W.cell? ⟨b, off + 5, none⟩ = some (.complex .f64 0 0) ∧ W.cell? ⟨b, off + 6, none⟩ = some (.complex .f64 0 0) ∧ W.cell? ⟨b, off + 7, none⟩ = some (.complex .f64 0 0) ∧ W.cell? ⟨b, off + 8, none⟩ = some (.slice none 0 0) ∧ W.cell? ⟨gs, 0, none⟩ = some (.int .i64 1) ∧ W.cell? ⟨gs, 1, none⟩ = some (.int .i64 rows) ∧ W.cell? ⟨gs, 2, none⟩ = some (.int .i64 nl) ∧ W.cell? ⟨gs, 3, none⟩ = some (.int .i64 1) ∧ W.cell? ⟨gs, 4, none⟩ = some (.int .i64 L) ∧ W.cell? ⟨gs, 5, none⟩ = some (.string ⟨#[]⟩) ∧ W.cell? ⟨gs, 6, none⟩ = some (.complex .f64 0 0) ∧ W.cell? ⟨gs, 7, none⟩ = some (.int .i64 1) ∧ W.cell? ⟨gs, 8, none⟩ = some (.int .i64 G) ∧ W.cell? ⟨gs, 9, none⟩ = some (.string ⟨#[]⟩) ∧ W.cell? ⟨gs, 10, none⟩ = some (.complex .f64 0 0) ∧ W.cell? ⟨gs, 11, none⟩ = some (.complex .f64 0 0) ∧ W.cell? ⟨gs, 12, none⟩ = some (.complex .f64 0 0)) w1) := Lib.hid ⟨((HP.out).below hc).c 0 _ rfl, ((HP.out).below hc).c 1 _ rfl, ((HP.out).below hc).c 2 _ rfl, ((HP.out).below hc).c 3 _ rfl, ((HP.out).below hc).c 4 _ rfl, ((HP.out).below hc).c 5 _ rfl, ((HP.out).below hc).c 6 _ rfl, ((HP.out).below hc).c 7 _ rfl, ((HP.out).below hc).c 8 _ rfl, ((HS.out).below hc).c 0, ((HS.out).below hc).c 1, ((HS.out).below hc).c 2, ((HS.out).below hc).c 3, ((HS.out).below hc).c 4, ((HS.out).below hc).c 5, ((HS.out).below hc).c 6, ((HS.out).below hc).c 7, ((HS.out).below hc).c 8, ((HS.out).below hc).c 9, ((HS.out).below hc).c 10, ((HS.out).below hc).c 11, ((HS.out).below hc).c 12⟩
  have B1 := Lib.hid hc
  clear hb hc
  refine hK.out _ _ ?_ (fun hHeld => ?_)
  · exact KK.out
  clear hK K
  try simp only [Act.put, List.setIfInBounds_toArray, List.set_cons_zero, List.set_cons_succ]
  refine wpAnyH_take (i := 11) (oi := { dst := some 6, op := Op.assign (Operand.tmp 68), type := 3, pos := "skip.go:48", after := #[{ on := 10, ground := Ground.data }, { on := 10, ground := Ground.chain }, { on := 0, ground := Ground.phase }, { on := 1, ground := Ground.phase }, { on := 2, ground := Ground.phase }, { on := 3, ground := Ground.phase }, { on := 4, ground := Ground.phase }, { on := 5, ground := Ground.phase }, { on := 6, ground := Ground.phase }, { on := 7, ground := Ground.phase }, { on := 8, ground := Ground.phase }, { on := 9, ground := Ground.phase }, { on := 10, ground := Ground.phase }], guard := none }) (v := ?_) rfl (by kernel_rfl) (by kernel_rfl) (by kernel_rfl) (fun _ _ _ h => h) (Or.inl ⟨by rfl, ?_⟩) (by assumption) ?_
  rotate_left
  · (intro w hSw; (try dsimp only at hSw); go_simp; try with_reducible rfl)
  try simp only [Act.put, List.setIfInBounds_toArray, List.set_cons_zero, List.set_cons_succ]
  refine wpAnyH_done (by kernel_rfl) ?_ _
  refine NoPanic.normal ?_
  go_wp2_with fail
  go_ret
  exact ⟨rfl, B1.out⟩
theorem wv_in (f t u : Bool) : 0 ≤ wv f t u ∧ wv f t u ≤ 7 := by cases f <;> cases t <;> cases u <;> decide
theorem obits_in (op n : Int) (qs : List (Int × Int)) : 0 ≤ obits op n qs ∧ obits op n qs ≤ 7 := wv_in _ _ _
theorem sBoth_in (a b : Int) (ha : 0 ≤ a ∧ a ≤ 7) (hb : 0 ≤ b ∧ b ≤ 7) : 0 ≤ sBoth a b ∧ sBoth a b ≤ 7 := by
  rcases eight ha with rfl | rfl | rfl | rfl | rfl | rfl | rfl | rfl <;> rcases eight hb with rfl | rfl | rfl | rfl | rfl | rfl | rfl | rfl <;> decide
theorem sTurn_in (a : Int) (ha : 0 ≤ a ∧ a ≤ 7) : 0 ≤ sTurn a ∧ sTurn a ≤ 7 := by
  rcases eight ha with rfl | rfl | rfl | rfl | rfl | rfl | rfl | rfl <;> decide
set_option maxHeartbeats 4000000 in
theorem Try.join1s {w : World} {gk ck gs cap : Nat} {op0 n0 rows nl L G lvl : Int} (hp0 : PC w gk 0 (predA op0 0 n0)) (h0 : 1 ≤ op0 ∧ op0 ≤ 6) (hs : VS w gs (statCells rows nl (1, L) (1, G))) (hne : rows ≠ nl) (hl : 0 ≤ lvl ∧ lvl ≤ 7) (hck : 1 ≤ ck) :
    Calls Try.prog 69 #[.slice (some ⟨gk, 0, none⟩) 1 ck, .slice (some ⟨gs, 0, none⟩) 1 cap, .int .i64 lvl, .func (.func 70) #[] #[]] w fun e w' => e = .returned (.int .i64 (sBoth 2 ( (obits op0 n0 (witsOf nl L G n0))))) ∧ Below w.heap.size w w' := by
  have hin0 := obits_in op0 n0 (witsOf nl L G n0)
  obtain ⟨p0, he0⟩ : ∃ p, obits op0 n0 (witsOf nl L G n0) = p := ⟨_, rfl⟩
  rw [he0] at hin0 ⊢
  have HE0 := Lib.hid he0
  have HIN0 := Lib.hid hin0
  have HP0 := Lib.hid hp0
  have HH0 := Lib.hid h0
  have HS := Lib.hid hs
  have HNE := Lib.hid hne
  have HL := Lib.hid hl
  have hw1 : wrap64 (lvl + 1) = lvl + 1 := by unfold wrap64; omega
  have hw2 : IntKind.i64.wrap (lvl + 1) = lvl + 1 := by rw [IntKind.wrap_i64]; omega
  clear hs hne hl he0 hin0 hp0 h0
  go_enter Try.func69, Try.ntmps69
  go_wp2
  refine wp_scope_fwd 1 ?_
  go_wp2_with fail
  go_step3
  go_wp2_with fail
  have hq0 := Try.mayG (lvl := lvl + 1) (cap := cap) (HP0.out) HH0.out (HS.out) HNE.out (by have := HL.out; omega)
  rw [HE0.out] at hq0
  refine hq0.mono ?_
  clear hq0
  rintro e wa0 ⟨rfl, hb⟩
  have BB0 := Lib.hid ((Below.refl w.heap.size w).trans (hb.mono ((Below.refl w.heap.size w)).size))
  clear hb
  go_wp2_with fail
  refine (Try.same _ _).mono ?_
  rintro e w' ⟨rfl, rfl⟩
  go_wp2_with fail
  refine (Try.both3 2 p0 (show (0:Int) ≤ 2 ∧ (2:Int) ≤ 7 by decide) (HIN0.out) _).mono ?_
  rintro e w' ⟨rfl, rfl⟩
  go_wp2_with fail
  go_step3
  refine ⟨_, rfl, ?_⟩
  go_wp2_with fail
  refine (Fwd.other (by intro l; simp)).2 ?_
  go_ret
  exact ⟨rfl, BB0.out⟩
set_option maxHeartbeats 4000000 in
theorem Try.join2s {w : World} {gk ck gs cap : Nat} {op0 n0 op1 n1 rows nl L G lvl : Int} (hp0 : PC w gk 0 (predA op0 0 n0)) (h0 : 1 ≤ op0 ∧ op0 ≤ 6) (hp1 : PC w gk 9 (predA op1 0 n1)) (h1 : 1 ≤ op1 ∧ op1 ≤ 6) (hs : VS w gs (statCells rows nl (1, L) (1, G))) (hne : rows ≠ nl) (hl : 0 ≤ lvl ∧ lvl ≤ 7) (hck : 2 ≤ ck) :
    Calls Try.prog 69 #[.slice (some ⟨gk, 0, none⟩) 2 ck, .slice (some ⟨gs, 0, none⟩) 1 cap, .int .i64 lvl, .func (.func 70) #[] #[]] w fun e w' => e = .returned (.int .i64 (sBoth (sBoth 2 ( (obits op0 n0 (witsOf nl L G n0)))) ( (obits op1 n1 (witsOf nl L G n1))))) ∧ Below w.heap.size w w' := by
  have hin0 := obits_in op0 n0 (witsOf nl L G n0)
  obtain ⟨p0, he0⟩ : ∃ p, obits op0 n0 (witsOf nl L G n0) = p := ⟨_, rfl⟩
  rw [he0] at hin0 ⊢
  have HE0 := Lib.hid he0
  have HIN0 := Lib.hid hin0
  have HP0 := Lib.hid hp0
  have HH0 := Lib.hid h0
  have hin1 := obits_in op1 n1 (witsOf nl L G n1)
  obtain ⟨p1, he1⟩ : ∃ p, obits op1 n1 (witsOf nl L G n1) = p := ⟨_, rfl⟩
  rw [he1] at hin1 ⊢
  have HE1 := Lib.hid he1
  have HIN1 := Lib.hid hin1
  have HP1 := Lib.hid hp1
  have HH1 := Lib.hid h1
  have HS := Lib.hid hs
  have HNE := Lib.hid hne
  have HL := Lib.hid hl
  have hw1 : wrap64 (lvl + 1) = lvl + 1 := by unfold wrap64; omega
  have hw2 : IntKind.i64.wrap (lvl + 1) = lvl + 1 := by rw [IntKind.wrap_i64]; omega
  clear hs hne hl he0 hin0 hp0 h0 he1 hin1 hp1 h1
  go_enter Try.func69, Try.ntmps69
  go_wp2
  refine wp_scope_fwd 2 ?_
  go_wp2_with fail
  go_step3
  go_wp2_with fail
  have hq0 := Try.mayG (lvl := lvl + 1) (cap := cap) (HP0.out) HH0.out (HS.out) HNE.out (by have := HL.out; omega)
  rw [HE0.out] at hq0
  refine hq0.mono ?_
  clear hq0
  rintro e wa0 ⟨rfl, hb⟩
  have BB0 := Lib.hid ((Below.refl w.heap.size w).trans (hb.mono ((Below.refl w.heap.size w)).size))
  clear hb
  go_wp2_with fail
  refine (Try.same _ _).mono ?_
  rintro e w' ⟨rfl, rfl⟩
  go_wp2_with fail
  refine (Try.both3 2 p0 (show (0:Int) ≤ 2 ∧ (2:Int) ≤ 7 by decide) (HIN0.out) _).mono ?_
  rintro e w' ⟨rfl, rfl⟩
  go_wp2_with fail
  go_step3
  refine ⟨_, rfl, ?_⟩
  go_wp2_with fail
  have hq1 := Try.mayG (lvl := lvl + 1) (cap := cap) (((HP1.out).below BB0.out)) HH1.out (((HS.out).below BB0.out)) HNE.out (by have := HL.out; omega)
  rw [HE1.out] at hq1
  refine hq1.mono ?_
  clear hq1
  rintro e wa1 ⟨rfl, hb⟩
  have BB1 := Lib.hid ((BB0.out).trans (hb.mono ((BB0.out)).size))
  clear hb
  go_wp2_with fail
  refine (Try.same _ _).mono ?_
  rintro e w' ⟨rfl, rfl⟩
  go_wp2_with fail
  refine (Try.both3 (sBoth 2 p0) p1 (sBoth_in _ _ (show (0:Int) ≤ 2 ∧ (2:Int) ≤ 7 by decide) (HIN0.out)) (HIN1.out) _).mono ?_
  rintro e w' ⟨rfl, rfl⟩
  go_wp2_with fail
  go_step3
  refine ⟨_, rfl, ?_⟩
  go_wp2_with fail
  refine (Fwd.other (by intro l; simp)).2 ?_
  go_ret
  exact ⟨rfl, BB1.out⟩
set_option maxHeartbeats 4000000 in
theorem Try.join2t {w : World} {gk ck gs cap : Nat} {op0 n0 op1 n1 rows nl L G lvl : Int} (hp0 : PC w gk 0 (predA op0 0 n0)) (h0 : 1 ≤ op0 ∧ op0 ≤ 6) (hp1 : PC w gk 9 (predA op1 0 n1)) (h1 : 1 ≤ op1 ∧ op1 ≤ 6) (hs : VS w gs (statCells rows nl (1, L) (1, G))) (hne : rows ≠ nl) (hl : 0 ≤ lvl ∧ lvl ≤ 7) (hck : 2 ≤ ck) :
    Calls Try.prog 69 #[.slice (some ⟨gk, 0, none⟩) 2 ck, .slice (some ⟨gs, 0, none⟩) 1 cap, .int .i64 lvl, .func (.func 71) #[] #[]] w fun e w' => e = .returned (.int .i64 (sBoth (sBoth 2 (sTurn (obits op0 n0 (witsOf nl L G n0)))) (sTurn (obits op1 n1 (witsOf nl L G n1))))) ∧ Below w.heap.size w w' := by
  have hin0 := obits_in op0 n0 (witsOf nl L G n0)
  obtain ⟨p0, he0⟩ : ∃ p, obits op0 n0 (witsOf nl L G n0) = p := ⟨_, rfl⟩
  rw [he0] at hin0 ⊢
  have HE0 := Lib.hid he0
  have HIN0 := Lib.hid hin0
  have HP0 := Lib.hid hp0
  have HH0 := Lib.hid h0
  have hin1 := obits_in op1 n1 (witsOf nl L G n1)
  obtain ⟨p1, he1⟩ : ∃ p, obits op1 n1 (witsOf nl L G n1) = p := ⟨_, rfl⟩
  rw [he1] at hin1 ⊢
  have HE1 := Lib.hid he1
  have HIN1 := Lib.hid hin1
  have HP1 := Lib.hid hp1
  have HH1 := Lib.hid h1
  have HS := Lib.hid hs
  have HNE := Lib.hid hne
  have HL := Lib.hid hl
  have hw1 : wrap64 (lvl + 1) = lvl + 1 := by unfold wrap64; omega
  have hw2 : IntKind.i64.wrap (lvl + 1) = lvl + 1 := by rw [IntKind.wrap_i64]; omega
  clear hs hne hl he0 hin0 hp0 h0 he1 hin1 hp1 h1
  go_enter Try.func69, Try.ntmps69
  go_wp2
  refine wp_scope_fwd 2 ?_
  go_wp2_with fail
  go_step3
  go_wp2_with fail
  have hq0 := Try.mayG (lvl := lvl + 1) (cap := cap) (HP0.out) HH0.out (HS.out) HNE.out (by have := HL.out; omega)
  rw [HE0.out] at hq0
  refine hq0.mono ?_
  clear hq0
  rintro e wa0 ⟨rfl, hb⟩
  have BB0 := Lib.hid ((Below.refl w.heap.size w).trans (hb.mono ((Below.refl w.heap.size w)).size))
  clear hb
  go_wp2_with fail
  refine (Try.turn3 _ HIN0.out _).mono ?_
  rintro e w' ⟨rfl, rfl⟩
  go_wp2_with fail
  refine (Try.both3 2 (sTurn p0) (show (0:Int) ≤ 2 ∧ (2:Int) ≤ 7 by decide) (sTurn_in _ HIN0.out) _).mono ?_
  rintro e w' ⟨rfl, rfl⟩
  go_wp2_with fail
  go_step3
  refine ⟨_, rfl, ?_⟩
  go_wp2_with fail
  have hq1 := Try.mayG (lvl := lvl + 1) (cap := cap) (((HP1.out).below BB0.out)) HH1.out (((HS.out).below BB0.out)) HNE.out (by have := HL.out; omega)
  rw [HE1.out] at hq1
  refine hq1.mono ?_
  clear hq1
  rintro e wa1 ⟨rfl, hb⟩
  have BB1 := Lib.hid ((BB0.out).trans (hb.mono ((BB0.out)).size))
  clear hb
  go_wp2_with fail
  refine (Try.turn3 _ HIN1.out _).mono ?_
  rintro e w' ⟨rfl, rfl⟩
  go_wp2_with fail
  refine (Try.both3 (sBoth 2 (sTurn p0)) (sTurn p1) (sBoth_in _ _ (show (0:Int) ≤ 2 ∧ (2:Int) ≤ 7 by decide) (sTurn_in _ HIN0.out)) (sTurn_in _ HIN1.out) _).mono ?_
  rintro e w' ⟨rfl, rfl⟩
  go_wp2_with fail
  go_step3
  refine ⟨_, rfl, ?_⟩
  go_wp2_with fail
  refine (Fwd.other (by intro l; simp)).2 ?_
  go_ret
  exact ⟨rfl, BB1.out⟩
end Go.Proofs
end

section
namespace Go.Proofs
open Go.RowKit
set_option maxRecDepth 100000
def predB (op : Int) (g m c : Nat) : Array Value := #[.int .i64 op, .int .i64 0, .int .i64 0, .int .i64 0, .string ⟨#[]⟩, .complex .f64 0 0, .complex .f64 0 0, .complex .f64 0 0, .slice (some ⟨g, 0, none⟩) m c]
set_option maxHeartbeats 2000000 in
theorem Try.mayN {w : World} {b gk ck gs cap : Nat} {op0 n0 rows nl L G : Int} (hb : VP w b (predB 11 gk 1 ck)) (hp0 : PC w gk 0 (predA op0 0 n0)) (h0 : 1 ≤ op0 ∧ op0 ≤ 6) (hs : VS w gs (statCells rows nl (1, L) (1, G))) (hne : rows ≠ nl) (hck : 1 ≤ ck) :
    Calls Try.prog 37 #[.pointer (some ⟨b, 0, none⟩), .slice (some ⟨gs, 0, none⟩) 1 cap, .int .i64 1] w fun e w' => e = .returned (.int .i64 (sTurn (sBoth 2 (obits op0 n0 (witsOf nl L G n0))))) ∧ Below w.heap.size w w' := by
  have p0 : w.cell? ⟨b, 0, none⟩ = some (.int .i64 11) := hb.c 0
  have p8 : w.cell? ⟨b, 8, none⟩ = some (.slice (some ⟨gk, 0, none⟩) 1 ck) := hb.c 8
  have HJ := Lib.hid (Try.join1s (lvl := 1) (cap := cap) (gk := gk) hp0 h0 hs hne (by decide) hck)
  have hin0 := obits_in op0 n0 (witsOf nl L G n0)
  obtain ⟨p_0, he0⟩ : ∃ p, obits op0 n0 (witsOf nl L G n0) = p := ⟨_, rfl⟩
  rw [he0] at hin0 HJ ⊢
  have HIN0 := Lib.hid hin0
  clear hb hs hne hck he0 hin0 hp0 h0
  go_enter Try.func37, Try.ntmps37
  go_wp2_with fail
  refine HJ.out.mono ?_
  rintro e w1 ⟨rfl, hb⟩
  have HB := Lib.hid hb
  clear hb p0 p8
  go_wp2_with fail
  refine (Try.turn3 _ (sBoth_in _ _ (show (0:Int) ≤ 2 ∧ (2:Int) ≤ 7 by decide) HIN0.out) _).mono ?_
  rintro e w' ⟨rfl, rfl⟩
  go_wp2_with fail
  go_ret
  exact ⟨rfl, HB.out⟩
theorem Try.mayNT {w : World} {gk ck gs cap : Nat} {op0 n0 rows nl L G : Int} (hp0 : PC w gk 0 (predA op0 0 n0)) (h0 : 1 ≤ op0 ∧ op0 ≤ 6) (hs : VS w gs (statCells rows nl (1, L) (1, G))) (hne : rows ≠ nl) (hr : 1 ≤ rows) (hck : 1 ≤ ck) :
    Calls Try.prog 15 #[.agg (predB 11 gk 1 ck), .slice (some ⟨gs, 0, none⟩) 1 cap] w fun e w' => e = .returned (.int .i64 (sTurn (sBoth 2 (obits op0 n0 (witsOf nl L G n0))))) ∧ Below w.heap.size w w' := by
  have hA := (Below.refl w.heap.size w).alloc (Nat.le_refl _) (.cells (predB 11 gk 1 ck) 42)
  have P0 : VP (w.alloc (.cells (predB 11 gk 1 ck) 42)) w.heap.size (predB 11 gk 1 ck) := alloc_here w _
  have HJ := Lib.hid (Try.mayN (cap := cap) P0 (hp0.below hA) h0 (hs.below hA) hne hck)
  have HA := Lib.hid hA
  have s1 : (w.alloc (.cells #[.int .i64 11, .int .i64 0, .int .i64 0, .int .i64 0, .string ⟨#[]⟩, .complex .f64 0 0, .complex .f64 0 0, .complex .f64 0 0, .slice (some ⟨gk, 0, none⟩) 1 ck] 42)).cell? ⟨gs, 1, none⟩ = some (.int .i64 rows) := (hs.below hA).c 1
  have dr : decide (rows < 1) = false := by simp; omega
  clear hA P0 hs hne hr hck hp0 h0
  unfold predB
  go_enter Try.func15, Try.ntmps15
  go_wp2_with fail
  refine HJ.out.mono ?_
  rintro e w1 ⟨rfl, hb⟩
  have HB := Lib.hid ((HA.out).trans (Below.mono hb (HA.out).size))
  clear hb
  go_wp2_with fail
  go_ret
  exact ⟨rfl, HB.out⟩
set_option maxHeartbeats 2000000 in
theorem Try.mayA {w : World} {b gk ck gs cap : Nat} {op0 n0 op1 n1 rows nl L G : Int} (hb : VP w b (predB 9 gk 2 ck)) (hp0 : PC w gk 0 (predA op0 0 n0)) (h0 : 1 ≤ op0 ∧ op0 ≤ 6) (hp1 : PC w gk 9 (predA op1 0 n1)) (h1 : 1 ≤ op1 ∧ op1 ≤ 6) (hs : VS w gs (statCells rows nl (1, L) (1, G))) (hne : rows ≠ nl) (hck : 2 ≤ ck) :
    Calls Try.prog 37 #[.pointer (some ⟨b, 0, none⟩), .slice (some ⟨gs, 0, none⟩) 1 cap, .int .i64 1] w fun e w' => e = .returned (.int .i64 (sBoth (sBoth 2 (obits op0 n0 (witsOf nl L G n0))) (obits op1 n1 (witsOf nl L G n1)))) ∧ Below w.heap.size w w' := by
  have p0 : w.cell? ⟨b, 0, none⟩ = some (.int .i64 9) := hb.c 0
  have p8 : w.cell? ⟨b, 8, none⟩ = some (.slice (some ⟨gk, 0, none⟩) 2 ck) := hb.c 8
  have HJ := Lib.hid (Try.join2s (lvl := 1) (cap := cap) (gk := gk) hp0 h0 hp1 h1 hs hne (by decide) hck)
  have hin0 := obits_in op0 n0 (witsOf nl L G n0)
  obtain ⟨p_0, he0⟩ : ∃ p, obits op0 n0 (witsOf nl L G n0) = p := ⟨_, rfl⟩
  rw [he0] at hin0 HJ ⊢
  have HIN0 := Lib.hid hin0
  have hin1 := obits_in op1 n1 (witsOf nl L G n1)
  obtain ⟨p_1, he1⟩ : ∃ p, obits op1 n1 (witsOf nl L G n1) = p := ⟨_, rfl⟩
  rw [he1] at hin1 HJ ⊢
  have HIN1 := Lib.hid hin1
  clear hb hs hne hck he0 hin0 hp0 h0 he1 hin1 hp1 h1
  go_enter Try.func37, Try.ntmps37
  go_wp2_with fail
  refine HJ.out.mono ?_
  rintro e w1 ⟨rfl, hb⟩
  have HB := Lib.hid hb
  clear hb p0 p8
  go_wp2_with fail
  go_ret
  exact ⟨rfl, HB.out⟩
theorem Try.mayAT {w : World} {gk ck gs cap : Nat} {op0 n0 op1 n1 rows nl L G : Int} (hp0 : PC w gk 0 (predA op0 0 n0)) (h0 : 1 ≤ op0 ∧ op0 ≤ 6) (hp1 : PC w gk 9 (predA op1 0 n1)) (h1 : 1 ≤ op1 ∧ op1 ≤ 6) (hs : VS w gs (statCells rows nl (1, L) (1, G))) (hne : rows ≠ nl) (hr : 1 ≤ rows) (hck : 2 ≤ ck) :
    Calls Try.prog 15 #[.agg (predB 9 gk 2 ck), .slice (some ⟨gs, 0, none⟩) 1 cap] w fun e w' => e = .returned (.int .i64 (sBoth (sBoth 2 (obits op0 n0 (witsOf nl L G n0))) (obits op1 n1 (witsOf nl L G n1)))) ∧ Below w.heap.size w w' := by
  have hA := (Below.refl w.heap.size w).alloc (Nat.le_refl _) (.cells (predB 9 gk 2 ck) 42)
  have P0 : VP (w.alloc (.cells (predB 9 gk 2 ck) 42)) w.heap.size (predB 9 gk 2 ck) := alloc_here w _
  have HJ := Lib.hid (Try.mayA (cap := cap) P0 (hp0.below hA) h0 (hp1.below hA) h1 (hs.below hA) hne hck)
  have HA := Lib.hid hA
  have s1 : (w.alloc (.cells #[.int .i64 9, .int .i64 0, .int .i64 0, .int .i64 0, .string ⟨#[]⟩, .complex .f64 0 0, .complex .f64 0 0, .complex .f64 0 0, .slice (some ⟨gk, 0, none⟩) 2 ck] 42)).cell? ⟨gs, 1, none⟩ = some (.int .i64 rows) := (hs.below hA).c 1
  have dr : decide (rows < 1) = false := by simp; omega
  clear hA P0 hs hne hr hck hp0 h0 hp1 h1
  unfold predB
  go_enter Try.func15, Try.ntmps15
  go_wp2_with fail
  refine HJ.out.mono ?_
  rintro e w1 ⟨rfl, hb⟩
  have HB := Lib.hid ((HA.out).trans (Below.mono hb (HA.out).size))
  clear hb
  go_wp2_with fail
  go_ret
  exact ⟨rfl, HB.out⟩
set_option maxHeartbeats 2000000 in
theorem Try.mayO {w : World} {b gk ck gs cap : Nat} {op0 n0 op1 n1 rows nl L G : Int} (hb : VP w b (predB 10 gk 2 ck)) (hp0 : PC w gk 0 (predA op0 0 n0)) (h0 : 1 ≤ op0 ∧ op0 ≤ 6) (hp1 : PC w gk 9 (predA op1 0 n1)) (h1 : 1 ≤ op1 ∧ op1 ≤ 6) (hs : VS w gs (statCells rows nl (1, L) (1, G))) (hne : rows ≠ nl) (hck : 2 ≤ ck) :
    Calls Try.prog 37 #[.pointer (some ⟨b, 0, none⟩), .slice (some ⟨gs, 0, none⟩) 1 cap, .int .i64 1] w fun e w' => e = .returned (.int .i64 (sTurn (sBoth (sBoth 2 (sTurn (obits op0 n0 (witsOf nl L G n0)))) (sTurn (obits op1 n1 (witsOf nl L G n1)))))) ∧ Below w.heap.size w w' := by
  have p0 : w.cell? ⟨b, 0, none⟩ = some (.int .i64 10) := hb.c 0
  have p8 : w.cell? ⟨b, 8, none⟩ = some (.slice (some ⟨gk, 0, none⟩) 2 ck) := hb.c 8
  have HJ := Lib.hid (Try.join2t (lvl := 1) (cap := cap) (gk := gk) hp0 h0 hp1 h1 hs hne (by decide) hck)
  have hin0 := obits_in op0 n0 (witsOf nl L G n0)
  obtain ⟨p_0, he0⟩ : ∃ p, obits op0 n0 (witsOf nl L G n0) = p := ⟨_, rfl⟩
  rw [he0] at hin0 HJ ⊢
  have HIN0 := Lib.hid hin0
  have hin1 := obits_in op1 n1 (witsOf nl L G n1)
  obtain ⟨p_1, he1⟩ : ∃ p, obits op1 n1 (witsOf nl L G n1) = p := ⟨_, rfl⟩
  rw [he1] at hin1 HJ ⊢
  have HIN1 := Lib.hid hin1
  clear hb hs hne hck he0 hin0 hp0 h0 he1 hin1 hp1 h1
  go_enter Try.func37, Try.ntmps37
  go_wp2_with fail
  refine HJ.out.mono ?_
  rintro e w1 ⟨rfl, hb⟩
  have HB := Lib.hid hb
  clear hb p0 p8
  go_wp2_with fail
  refine (Try.turn3 _ (sBoth_in _ _ (sBoth_in _ _ (show (0:Int) ≤ 2 ∧ (2:Int) ≤ 7 by decide) (sTurn_in _ HIN0.out)) (sTurn_in _ HIN1.out)) _).mono ?_
  rintro e w' ⟨rfl, rfl⟩
  go_wp2_with fail
  go_ret
  exact ⟨rfl, HB.out⟩
theorem Try.mayOT {w : World} {gk ck gs cap : Nat} {op0 n0 op1 n1 rows nl L G : Int} (hp0 : PC w gk 0 (predA op0 0 n0)) (h0 : 1 ≤ op0 ∧ op0 ≤ 6) (hp1 : PC w gk 9 (predA op1 0 n1)) (h1 : 1 ≤ op1 ∧ op1 ≤ 6) (hs : VS w gs (statCells rows nl (1, L) (1, G))) (hne : rows ≠ nl) (hr : 1 ≤ rows) (hck : 2 ≤ ck) :
    Calls Try.prog 15 #[.agg (predB 10 gk 2 ck), .slice (some ⟨gs, 0, none⟩) 1 cap] w fun e w' => e = .returned (.int .i64 (sTurn (sBoth (sBoth 2 (sTurn (obits op0 n0 (witsOf nl L G n0)))) (sTurn (obits op1 n1 (witsOf nl L G n1)))))) ∧ Below w.heap.size w w' := by
  have hA := (Below.refl w.heap.size w).alloc (Nat.le_refl _) (.cells (predB 10 gk 2 ck) 42)
  have P0 : VP (w.alloc (.cells (predB 10 gk 2 ck) 42)) w.heap.size (predB 10 gk 2 ck) := alloc_here w _
  have HJ := Lib.hid (Try.mayO (cap := cap) P0 (hp0.below hA) h0 (hp1.below hA) h1 (hs.below hA) hne hck)
  have HA := Lib.hid hA
  have s1 : (w.alloc (.cells #[.int .i64 10, .int .i64 0, .int .i64 0, .int .i64 0, .string ⟨#[]⟩, .complex .f64 0 0, .complex .f64 0 0, .complex .f64 0 0, .slice (some ⟨gk, 0, none⟩) 2 ck] 42)).cell? ⟨gs, 1, none⟩ = some (.int .i64 rows) := (hs.below hA).c 1
  have dr : decide (rows < 1) = false := by simp; omega
  clear hA P0 hs hne hr hck hp0 h0 hp1 h1
  unfold predB
  go_enter Try.func15, Try.ntmps15
  go_wp2_with fail
  refine HJ.out.mono ?_
  rintro e w1 ⟨rfl, hb⟩
  have HB := Lib.hid ((HA.out).trans (Below.mono hb (HA.out).size))
  clear hb
  go_wp2_with fail
  go_ret
  exact ⟨rfl, HB.out⟩
theorem pc_new (w : World) (cs : Array Value) (off : Nat) (ds : Array Value) (h : ∀ j u, ds[j]? = some u → cs[off + j]? = some u) : PC (w.alloc (.cells cs 42)) w.heap.size off ds :=
  ⟨by simp, fun j u hu => by rw [cell_of_row _ _ _ _ 42 (0, 0) (alloc_here w _)]; exact h j u hu⟩
def NotP (w : World) (op n : Int) (e : Ending) (w' : World) : Prop := ∃ g, e = .returned (.agg (predB 11 g 1 1)) ∧ PC w' g 0 (predA op 0 n) ∧ Below w.heap.size w w'
theorem predB_one (op : Int) (g m c : Nat) : ∀ u ∈ (predB op g m c).toList, u.oneCell' = true := by
  intro u hu
  simp only [predB, List.mem_cons, List.not_mem_nil, or_false] at hu
  rcases hu with rfl | rfl | rfl | rfl | rfl | rfl | rfl | rfl | rfl <;> rfl
theorem PC.eq {w w' : World} {b off : Nat} {cs : Array Value} (h : PC w b off cs) (hs : w.heap.size ≤ w'.heap.size) (e : w'.heap[b]? = w.heap[b]?) : PC w' b off cs :=
  ⟨Nat.lt_of_lt_of_le h.lt hs, fun j u hu => (World.cell?_of_block (w := w) (a := ⟨b, off + j, none⟩) e).trans (h.c j u hu)⟩
set_option maxHeartbeats 2000000 in
theorem Try.notP (op n : Int) (w : World) : Calls Try.prog 16 #[.agg (predA op 0 n)] w (NotP w op n) := by
  have hsc := storeC
  have hA := (Below.refl w.heap.size w).alloc (Nat.le_refl _) (.cells (predA op 0 n) 42)
  have z1 : (w.alloc (.cells (predA op 0 n) 42)).heap.size = w.heap.size + 1 := by simp
  have z2 : ((w.alloc (.cells (predA op 0 n) 42)).alloc (.cells zero9 42)).heap.size = w.heap.size + 2 := by simp
  have hB := hA.alloc (by omega) (.cells zero9 42)
  have hC := hB.alloc (by omega) (.cells (predA op 0 n) 42)
  have t1 : VP ((w.alloc (.cells (predA op 0 n) 42)).alloc (.cells zero9 42)) (w.heap.size + 1) zero9 := by rw [← z1]; exact alloc_here _ _
  have T := Lib.hid (t1.below ((Below.refl _ _).alloc (Nat.le_refl _) (.cells (predA op 0 n) 42)))
  have k1 : PC (((w.alloc (.cells (predA op 0 n) 42)).alloc (.cells zero9 42)).alloc (.cells (predA op 0 n) 42)) (w.heap.size + 2) 0 (predA op 0 n) := by
    have := pc_new ((w.alloc (.cells (predA op 0 n) 42)).alloc (.cells zero9 42)) (predA op 0 n) 0 (predA op 0 n) (fun j u hu => by rw [Nat.zero_add]; exact hu)
    rwa [z2] at this
  have KK := Lib.hid (k1.eq (w' := (((w.alloc (.cells (predA op 0 n) 42)).alloc (.cells zero9 42)).alloc (.cells (predA op 0 n) 42)).setRow (w.heap.size + 1) (predB 11 (w.heap.size + 2) 1 1)) (by simp [World.setRow]) (setRow_other _ _ _ _ (by omega)))
  have BB := Lib.hid (Below.setRow hC (show w.heap.size ≤ w.heap.size + 1 by omega) (predB 11 (w.heap.size + 2) 1 1))
  have T9 := Lib.hid ((T.out).row (predB 11 (w.heap.size + 2) 1 1))
  clear hA z1 z2 hB hC t1 k1
  unfold predA
  go_enter Try.func16, Try.ntmps16
  go_wp2_with (refine wpList_store_at _ rfl 42 (.tmp 2) (.tmp 5) rfl (w.heap.size + 1) 42 0 (predB 11 (w.heap.size + 2) 1 1) zero9 (predB 11 (w.heap.size + 2) 1 1) rfl rfl (T.out) (show 0 + 9 ≤ 9 by omega) rfl (Try.size42 _ rfl) (predB_one _ _ _ _) ?_)
  try simp only [Exit.inBlock, Exit.then]
  refine bodyPost_ret (results_cell1 rfl _ _ (w.heap.size + 1) 42 (predB 11 (w.heap.size + 2) 1 1) _ rfl (T9.out) (Try.size42 _ rfl) Try.st42) rfl ⟨_, rfl, KK.out, BB.out⟩
end Go.Proofs
end
