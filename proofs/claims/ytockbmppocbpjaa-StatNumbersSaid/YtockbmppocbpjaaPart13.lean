/-
  Texts of a proof over the translated program: proved evaluators and walks, part 13 of 13.
-/
import Derived.Test.YtockbmppocbpjaaPart12
import Derived.Below
import Derived.Deep.CutBlock
import Derived.Deep.Grids
import Derived.Deep.RegionHeld3
import Derived.Deep.RegionWith
import Derived.Great.BuildSlice
import Derived.Handy
import Derived.IntWalk
import Derived.Laws.Cells
import Derived.Laws.CopyRow
import Derived.Laws.IdiomStrings
import Derived.Laws.StructEq
import Derived.Lib.Hide
import Derived.LoopTactic
import Derived.MapKept
import Derived.Orders
import Derived.Outline
import Derived.OwnWalk
import Derived.Scope
import Derived.ScopeJumps
import Derived.Test.YtockbmppocbpjaaProg
import Derived.WalkKit
import Derived.WalkMore
import Derived.WalkSpells
set_option linter.unusedVariables false
set_option linter.unusedSimpArgs false
set_option linter.unusedSectionVars false
set_option linter.unnecessarySimpa false
section
namespace Go.Proofs
open Go.RowKit
set_option maxRecDepth 100000
def IsRow (k : IntKind) (w : World) (a : Option Addr) (len cap : Nat) (zs : List Int) : Prop :=
  (a = none ∧ len = 0 ∧ cap = 0 ∧ zs = []) ∨
  ∃ x, a = some x ∧ len ≤ cap ∧ cap ≤ maxLen ∧ zs.length = cap ∧ (∀ i, i < zs.length → w.cell? (x.add i) = some (.int k (zs.getD i 0))) ∧ ∀ n ∈ zs, (Lit.int k n).wf = true
def IsBits (w : World) (a : Option Addr) (len cap : Nat) (B : Nat → Bool) : Prop :=
  (a = none ∧ len = 0 ∧ cap = 0) ∨ ∃ x, a = some x ∧ len ≤ cap ∧ cap ≤ maxLen ∧ ∀ i, i < cap → w.cell? (x.add i) = some (.bool (B i))
def YesV (w : World) (e : Ending) (w' : World) : Prop := e = .returned (.bool true) ∧ Below w.heap.size w w'
theorem cellW {w W : World} {p : Addr} {v : Value} (h : w.cell? p = some v) (hb : Below w.heap.size w W) : W.cell? p = some v := (hb.cell (block_lt_of_cell h)).trans h
def lo0 (zs : List Int) : Int := zs.foldl min 1099511627776
def hi0 (zs : List Int) : Int := zs.foldl max (-1099511627776)
theorem lo0_lows (zs : List Int) (hne : zs ≠ []) (h : ∀ z ∈ zs, z ≤ 1099511627776) : lo0 zs = lows zs zs.length := by
  cases zs with
  | nil => exact absurd rfl hne
  | cons z zs =>
    unfold lo0 lows
    have hz := h z (List.mem_cons_self ..)
    rw [List.take_of_length_le (Nat.le_refl _)]
    simp only [List.foldl_cons, List.headD_cons, Int.min_self]
    rw [show min 1099511627776 z = z by omega]
theorem hi0_highs (zs : List Int) (hne : zs ≠ []) (h : ∀ z ∈ zs, -1099511627776 ≤ z) : hi0 zs = highs zs zs.length := by
  cases zs with
  | nil => exact absurd rfl hne
  | cons z zs =>
    unfold hi0 highs
    have hz := h z (List.mem_cons_self ..)
    rw [List.take_of_length_le (Nat.le_refl _)]
    simp only [List.foldl_cons, List.headD_cons, Int.max_self]
    rw [show max (-1099511627776) z = z by omega]
set_option maxHeartbeats 1000000 in
theorem Try.statOf_nil (w : World) : Calls Try.prog 9 #[.slice none 0 0, .int .i64 1] w fun e w' => e = .returned (.tuple #[.agg (statCells 0 0 (0, 0) (0, 0)), .int .i64 0]) ∧ Below w.heap.size w w' := by
  have hsc := storeC
  have HA := Lib.hid ((Below.refl _ w).alloc (Nat.le_refl _) (.cells zero13 33))
  have ST : Hid (VS (w.alloc (.cells zero13 33)) w.heap.size zero13) := Lib.hid (alloc_here w _)
  have hz : (w.alloc (.cells zero13 33)).heap.size = w.heap.size + 1 := by simp
  go_enter Try.func9, Try.ntmps9
  go_wp2_with fail
  refine (Try.colcheck_nil _).mono ?_
  rintro e w1 ⟨rfl, rfl⟩
  go_wp2
  go_loopw [7, 20] (fun v t wr => v = .slice none 0 0 ∧ t = .int .i64 0 ∧ wr = w.alloc (.cells zero13 33)) (fun _ t _ => 0)
  case atStart => exact ⟨rfl, rfl, rfl⟩
  case round =>
    obtain ⟨rfl, rfl, rfl⟩ := hrel
    have HA2 := Lib.hid ((HA.out).alloc (by rw [hz]; omega) (.cells (statCells 0 0 (0, 0) (0, 0)) 33))
    have T4 := Lib.hid ((ST.out).below ((Below.refl _ (w.alloc (.cells zero13 33))).alloc (Nat.le_refl _) (.cells (statCells 0 0 (0, 0) (0, 0)) 33)))
    have S10 : Hid (VS ((w.alloc (.cells zero13 33)).alloc (.cells (statCells 0 0 (0, 0) (0, 0)) 33)) (w.heap.size + 1) (statCells 0 0 (0, 0) (0, 0))) := Lib.hid (by rw [← hz]; exact alloc_here _ _)
    have ST9 := Lib.hid ((T4.out).row (statCells 0 0 (0, 0) (0, 0)))
    have BEL9 := Lib.hid (Below.setRow (HA2.out) (Nat.le_refl _) (statCells 0 0 (0, 0) (0, 0)))
    clear hz
    go_upto_region 16 with fail
    go_wp2_with (first | (refine wpList_load_row _ rfl 33 (.tmp 10) rfl (w.heap.size + 1) 33 (statCells 0 0 (0, 0) (0, 0)) _ rfl (S10.out) (Try.size33 _ rfl) Try.st33 ?_) | (refine wpList_store_at _ rfl 33 (.tmp 4) (.tmp 55) rfl w.heap.size 33 0 (statCells 0 0 (0, 0) (0, 0)) zero13 (statCells 0 0 (0, 0) (0, 0)) rfl rfl (T4.out) (show 0 + 13 ≤ 13 by omega) rfl (Try.size33 _ rfl) (stat_one _ _ _ _) ?_))
    try simp only [Exit.inBlock, Exit.then]
    refine bodyPost_ret (results_cell_tmp rfl _ _ w.heap.size 33 (statCells 0 0 (0, 0) (0, 0)) _ rfl (ST9.out) (Try.size33 _ rfl) Try.st33) rfl ⟨rfl, BEL9.out⟩
end Go.Proofs
end

section
namespace Go.Proofs
open Go.RowKit
set_option maxRecDepth 100000
structure NRel (w : World) (os : List (Option Int)) (i : Nat) (v lo hi cnt : Value) (wr : World) : Prop where
  own : VO wr w.heap.size v i ((os.map qo).take i)
  bel : Below w.heap.size w wr
  e1 : lo = .int .i64 (lo0 (nums os i))
  e2 : hi = .int .i64 (hi0 (nums os i))
  e3 : cnt = .int .i64 ((i : Int) - (nums os i).length)
theorem own_next {w w2 : World} {os : List (Option Int)} {i : Nat} {v' : Value} (hi : i < os.length) (hown : w2.ownsRow w.heap.size 28 4 v' (i + 1) (flat ((os.map qo).take i) ++ vc (qo os[i]))) : VO w2 w.heap.size v' (i + 1) ((os.map qo).take (i + 1)) := by
  unfold VO
  rw [List.take_succ_eq_append_getElem (by rw [List.length_map]; exact hi), List.getElem_map, flat_snoc]
  exact hown
theorem NRel.none {w wr wb w2 : World} {os : List (Option Int)} {i : Nat} {v v' lo hi cnt : Value} (h : NRel w os i v lo hi cnt wr) (hi' : i < os.length) (ho : os[i] = none) (hb : Below wr.heap.size wr wb)
    (hown : w2.ownsRow w.heap.size 28 4 v' (i + 1) (flat ((os.map qo).take i) ++ vc (0, 0))) (hg : wb.grownBy w2 v.ownBlock) : NRel w os (i + 1) v' lo hi (.int .i64 ((i : Int) - (nums os i).length + 1)) w2 := by
  have e : nums os (i + 1) = nums os i := by rw [nums_succ os i hi', ho]; simp
  have hb2 := h.bel.trans (hb.mono h.bel.size)
  refine ⟨own_next hi' (by rw [ho]; exact hown), hb2.grown hg hb2.size (fun k hk => (ownB h.own k hk).1), by rw [e]; exact h.e1, by rw [e]; exact h.e2, ?_⟩
  rw [e]
  congr 1
  omega
theorem NRel.some {w wr wb w2 : World} {os : List (Option Int)} {i : Nat} {v v' lo hi cnt : Value} {z : Int} (h : NRel w os i v lo hi cnt wr) (hi' : i < os.length) (ho : os[i] = some z) (hb : Below wr.heap.size wr wb)
    (hown : w2.ownsRow w.heap.size 28 4 v' (i + 1) (flat ((os.map qo).take i) ++ vc (1, z))) (hg : wb.grownBy w2 v.ownBlock) : NRel w os (i + 1) v' (.int .i64 (if z < lo0 (nums os i) then z else lo0 (nums os i))) (.int .i64 (if hi0 (nums os i) < z then z else hi0 (nums os i))) cnt w2 := by
  have e : nums os (i + 1) = nums os i ++ [z] := by rw [nums_succ os i hi', ho]; rfl
  have hb2 := h.bel.trans (hb.mono h.bel.size)
  refine ⟨own_next hi' (by rw [ho]; exact hown), hb2.grown hg hb2.size (fun k hk => (ownB h.own k hk).1), ?_, ?_, ?_⟩
  · have h1 : (if z < lo0 (nums os i) then z else lo0 (nums os i)) = min (lo0 (nums os i)) z := by split <;> omega
    rw [e, h1]; unfold lo0; rw [List.foldl_append]; rfl
  · have h1 : (if hi0 (nums os i) < z then z else hi0 (nums os i)) = max (hi0 (nums os i)) z := by split <;> omega
    rw [e, h1]; unfold hi0; rw [List.foldl_append]; rfl
  · rw [e, h.e3, List.length_append]
    congr 1
    simp
    omega
theorem step_want {P : Program} {ops : Array Oper} {o : Oper} {a : Act} {w : World} {K : Act → World → Prop} {Q : Exit → Act → World → Prop} {E : Prop} (hw : Region.wanted o (yielded ops a.tmps) = true) (h : Oper.wp P o a w K Q) :
    if Region.wanted o (yielded ops a.tmps) = true then Oper.wp P o a w K Q else E := by
  rw [if_pos hw]; exact h
theorem VS.cells13 {w : World} {b : Nat} {x0 x1 x2 x3 x4 x5 x6 x7 x8 x9 x10 x11 x12 : Value} (h : VS w b #[x0, x1, x2, x3, x4, x5, x6, x7, x8, x9, x10, x11, x12]) : w.cell? ⟨b, 0, none⟩ = some x0 ∧ w.cell? ⟨b, 1, none⟩ = some x1 ∧ w.cell? ⟨b, 2, none⟩ = some x2 ∧ w.cell? ⟨b, 3, none⟩ = some x3 ∧ w.cell? ⟨b, 4, none⟩ = some x4 ∧ w.cell? ⟨b, 5, none⟩ = some x5 ∧ w.cell? ⟨b, 6, none⟩ = some x6 ∧ w.cell? ⟨b, 7, none⟩ = some x7 ∧ w.cell? ⟨b, 8, none⟩ = some x8 ∧ w.cell? ⟨b, 9, none⟩ = some x9 ∧ w.cell? ⟨b, 10, none⟩ = some x10 ∧ w.cell? ⟨b, 11, none⟩ = some x11 ∧ w.cell? ⟨b, 12, none⟩ = some x12 := by
  refine ⟨?_, ?_, ?_, ?_, ?_, ?_, ?_, ?_, ?_, ?_, ?_, ?_, ?_⟩ <;> (rw [h.c]; rfl)
def osOf (n : Nat) (b : Nat → Bool) (z : Nat → Int) : List (Option Int) := (List.range n).map (fun j => if b j then none else some (z j))
theorem NRel.drew {w wr : World} {os : List (Option Int)} {i : Nat} {v lo hi cnt : Value} (h : NRel w os i v lo hi cnt wr) : NRel w os i v lo hi cnt wr.drew := ⟨h.own, h.bel.drew, h.e1, h.e2, h.e3⟩
theorem osOf_len (n : Nat) (b : Nat → Bool) (z : Nat → Int) : (osOf n b z).length = n := by simp [osOf]
theorem osOf_get (n : Nat) (b : Nat → Bool) (z : Nat → Int) (i : Nat) (hi : i < (osOf n b z).length) : (osOf n b z)[i] = if b i then none else some (z i) := by simp [osOf]
theorem osOf_nums (n : Nat) (b : Nat → Bool) (z : Nat → Int) (i : Nat) (L H : Int) (hz : ∀ j, L ≤ z j ∧ z j ≤ H) : ∀ x ∈ nums (osOf n b z) i, L ≤ x ∧ x ≤ H := by
  intro x hx
  unfold nums osOf at hx
  obtain ⟨o, ho, he⟩ := List.mem_filterMap.1 hx
  have hm := List.mem_of_mem_take ho
  obtain ⟨j, _, hj⟩ := List.mem_map.1 hm
  simp only [id] at he
  subst he
  by_cases hb : b j = true
  · rw [if_pos hb] at hj; cases hj
  · rw [if_neg hb] at hj
    cases hj
    exact hz j
set_option maxHeartbeats 4000000 in
theorem Try.numbers (w : World) (A B2 : Option Addr) (n c n2 c2 : Nat) (z : Nat → Int) (b : Nat → Bool) (v : Int) (hz : ∀ j, -2147483648 ≤ z j ∧ z j ≤ 2147483647) (hv : -2147483648 ≤ v ∧ v ≤ 2147483647) (h60 : n ≤ 60) (hnn : n ≤ n2) (hcc : n2 ≤ c2) (hcm : c2 ≤ maxLen)
    (hA : ∀ j, j < n → ∃ X, A = some X ∧ w.cell? (X.add j) = some (.int .i32 (z j))) (hB : ∀ j, j < n → ∃ X, B2 = some X ∧ w.cell? (X.add j) = some (.bool (b j))) :
    Calls Try.prog 3 #[.slice A n c, .slice B2 n2 c2, .int .i32 v] w (YesV w) := by
  have HA := Lib.hid hA
  have HB := Lib.hid hB
  have HZ := Lib.hid hz
  have d1 : decide (60 < (n : Int)) = false := by simp; omega
  have d1' : decide (60 < n) = false := by simp; omega
  have d2 : decide ((n2 : Int) < (n : Int)) = false := by simp; omega
  have d2' : decide (n2 < n) = false := by simp; omega
  obtain ⟨os, hos⟩ : ∃ os, osOf n b z = os := ⟨_, rfl⟩
  have hol : os.length = n := by rw [← hos]; exact osOf_len n b z
  have HOL := Lib.hid hol
  have HOS := Lib.hid hos
  have hsc := storeC
  obtain ⟨i0, hi, hz0, hz1, hz2⟩ := infoV
  have I1 := Lib.hid hi
  have I2 := Lib.hid hz0
  have I3 := Lib.hid hz1
  have I4 := Lib.hid hz2
  clear hA hB hz hi hz0 hz1 hz2 hos hol
  go_enter Try.func3, Try.ntmps3
  go_wp2_with fail
  refine (Try.known7 _).mono ?_
  rintro e w1 ⟨rfl, hb1⟩
  have H0 : Hid (NRel w os 0 (.slice none 0 0) (.int .i64 1099511627776) (.int .i64 (-1099511627776)) (.int .i64 0) w1) := Lib.hid ⟨World.ownsRow_nil _ _ _ _, hb1, rfl, rfl, rfl⟩
  clear hb1
  go_wp2
  go_loopw [7, 8, 9, 10, 11] (fun v lo hi cnt t wr => ∃ i : Nat, i ≤ n ∧ t = .int .i64 i ∧ NRel w os i v lo hi cnt wr) (fun _ _ _ _ t _ => n - (intOf t).toNat)
  case atStart => exact ⟨0, Nat.zero_le _, rfl, H0.out⟩
  case round =>
    obtain ⟨i, hi, rfl, hr⟩ := hrel
    have HR := Lib.hid hr
    obtain rfl := hr.e1
    obtain rfl := hr.e2
    obtain rfl := hr.e3
    clear hr
    by_cases hlt : i < n
    · have hD : decide ((i : Int) < n) = true := by simpa using hlt
      obtain ⟨X, hX, e1⟩ := (HA.out) i hlt
      obtain ⟨Y, hY, e2⟩ := (HB.out) i hlt
      subst hX
      subst hY
      have f1 := cellW e1 (HR.out).bel
      have f2 := cellW e2 (HR.out).bel
      have hio : i < os.length := by rw [HOL.out]; exact hlt
      have ho : os[i]'hio = if b i then none else some (z i) := by have := HOS.out; subst this; exact osOf_get n b z i hio
      have hzi := (HZ.out) i
      have hrow := (HR.out).own
      have hnle := nums_le os i
      have hw64 : wrap64 ((i : Int) - (nums os i).length + 1) = (i : Int) - (nums os i).length + 1 := by unfold wrap64; omega
      have E1 := Lib.hid e1
      clear e1 e2
      by_cases hbi : b i = true
      · rw [hbi] at f2 ho
        simp only [if_true] at ho
        have HO := Lib.hid ho
        have hB2 := (Below.refl _ wr).alloc (Nat.le_refl _) (.cells #[.int .i64 0, .int .i64 0, .string ⟨#[]⟩, .complex .f64 0 0] 28)
        have hwa := own_below hrow hB2
        have hall := (vh_alloc wr (0, 0)).all
        have HB2 := Lib.hid hB2
        clear ho hB2 hrow
        go_wp2_with (at_builtin; refine wpList_append_own _ rfl (.tmp 36) (.tmp 38) 25 rfl w.heap.size 28 i0 (.agg #[.int .i64 0, .int .i64 0, .string ⟨#[]⟩, .complex .f64 0 0]) 4 48 Try.underlying25 I1.out I2.out I3.out I4.out rfl (by decide) _ _ _ rfl hwa _ _ _ (vc (0, 0)) rfl rfl hall (vc_one _) ?c1 ?c2 ?c3 ?c4)
        case c1 => unfold maxLen; omega
        case c2 => omega
        case c3 => have := (HR.out).bel.size; simp; omega
        case c4 =>
          intro v' w2 hown1 hg hne
          have HN := Lib.hid ((HR.out).none hio HO.out HB2.out hown1 hg)
          clear hown1 hg hne hwa hall f1 f2
          go_wp2_with fail
          exact ⟨⟨i + 1, hlt, rfl, HN.out⟩, by simp [intOf]; omega⟩
      · have hbf : b i = false := by simpa using hbi
        rw [hbf] at f2 ho
        simp only [if_false, Bool.false_eq_true] at ho
        have HO := Lib.hid ho
        have hcv : IntKind.i64.wrap (z i) = z i := by rw [IntKind.wrap_i64]; omega
        have hcv' : wrap64 (z i) = z i := by unfold wrap64; omega
        clear ho hbi
        generalize z i = zi at f1 HO hcv hcv' hzi E1
        go_wp2_with fail
        refine (Try.nn zi wr).mono ?_
        rintro e w2 ⟨rfl, hb2⟩
        unfold vN
        have hB2 := hb2.alloc hb2.size (.cells #[.int .i64 1, .int .i64 (zi), .string ⟨#[]⟩, .complex .f64 0 0] 28)
        have hwa := own_below hrow hB2
        have hall := (vh_alloc w2 (1, zi)).all
        have HB2 := Lib.hid hB2
        have g1 := cellW f1 hb2
        clear hB2 hrow hb2 f1 f2
        go_wp2_with (at_builtin; refine wpList_append_own _ rfl (.tmp 42) (.tmp 49) 25 rfl w.heap.size 28 i0 (.agg #[.int .i64 0, .int .i64 0, .string ⟨#[]⟩, .complex .f64 0 0]) 4 48 Try.underlying25 I1.out I2.out I3.out I4.out rfl (by decide) _ _ _ rfl hwa _ _ _ (vc (1, zi)) rfl rfl hall (vc_one _) ?c1 ?c2 ?c3 ?c4)
        case c1 => unfold maxLen; omega
        case c2 => omega
        case c3 => have := (HR.out).bel.size; have h2 := (HB2.out).size; simp at h2 ⊢; omega
        case c4 =>
          intro v' w3 hown1 hg hne
          have HN := Lib.hid ((HR.out).some hio HO.out HB2.out hown1 hg)
          have g1 : w3.cell? (X.add i) = some (.int .i32 zi) := cellW E1.out (HN.out).bel
          clear hown1 hg hne hwa hall
          go_upto_region 14 with fail
          refine wp_region_noPanic ?_
          refine wp_region_held_drew (S := (fun W => W.cell? (X.add i) = some (.int .i32 zi))) (by kernel_rfl) ?_ (fun hHeld => ?_)
          · exact g1
          refine wpAnyH_take (i := 0) (oi := { dst := some 51, op := Op.move (Operand.tmp 8), type := 2, pos := "deep.go:26", after := #[], guard := none }) (v := ?_) rfl (by kernel_rfl) (by kernel_rfl) (by kernel_rfl) (fun _ _ _ h => h) (Or.inl ⟨by rfl, ?_⟩) (by assumption) ?_
          rotate_left
          · (intro w hSw; (try dsimp only at hSw); go_simp; try with_reducible rfl)
          try simp only [Act.put, List.setIfInBounds_toArray, List.set_cons_zero, List.set_cons_succ]
          refine wpAnyH_take (i := 1) (oi := { dst := some 52, op := Op.move (Operand.tmp 0), type := 22, pos := "deep.go:26", after := #[], guard := none }) (v := ?_) rfl (by kernel_rfl) (by kernel_rfl) (by kernel_rfl) (fun _ _ _ h => h) (Or.inl ⟨by rfl, ?_⟩) (by assumption) ?_
          rotate_left
          · (intro w hSw; (try dsimp only at hSw); go_simp; try with_reducible rfl)
          try simp only [Act.put, List.setIfInBounds_toArray, List.set_cons_zero, List.set_cons_succ]
          refine wpAnyH_take (i := 2) (oi := { dst := some 53, op := Op.move (Operand.tmp 11), type := 3, pos := "deep.go:26", after := #[], guard := none }) (v := ?_) rfl (by kernel_rfl) (by kernel_rfl) (by kernel_rfl) (fun _ _ _ h => h) (Or.inl ⟨by rfl, ?_⟩) (by assumption) ?_
          rotate_left
          · (intro w hSw; (try dsimp only at hSw); go_simp; try with_reducible rfl)
          try simp only [Act.put, List.setIfInBounds_toArray, List.set_cons_zero, List.set_cons_succ]
          refine wpAnyH_take (i := 3) (oi := { dst := some 54, op := Op.indexAddr 22 (Operand.tmp 52) (Operand.tmp 53), type := 0, pos := "deep.go:26", after := #[{ on := 1, ground := Ground.data }, { on := 2, ground := Ground.data }], guard := none }) (v := ?_) rfl (by kernel_rfl) (by kernel_rfl) (by kernel_rfl) (fun _ _ _ h => h) (Or.inl ⟨by rfl, ?_⟩) (by assumption) ?_
          rotate_left
          · (intro w hSw; (try dsimp only at hSw); go_simp; try with_reducible rfl)
          try simp only [Act.put, List.setIfInBounds_toArray, List.set_cons_zero, List.set_cons_succ]
          refine wpAnyH_take (i := 4) (oi := { dst := some 55, op := Op.load 21 (Operand.tmp 54), type := 21, pos := "deep.go:26", after := #[{ on := 3, ground := Ground.data }], guard := none }) (v := ?_) rfl (by kernel_rfl) (by kernel_rfl) (by kernel_rfl) (fun _ _ _ h => h) (Or.inl ⟨by rfl, ?_⟩) (by assumption) ?_
          rotate_left
          · (intro w hSw; (try dsimp only at hSw); go_simp; try with_reducible rfl)
          try simp only [Act.put, List.setIfInBounds_toArray, List.set_cons_zero, List.set_cons_succ]
          refine wpAnyH_take (i := 5) (oi := { dst := some 56, op := Op.convert 21 2 (Operand.tmp 55), type := 2, pos := "deep.go:26", after := #[{ on := 4, ground := Ground.data }], guard := none }) (v := ?_) rfl (by kernel_rfl) (by kernel_rfl) (by kernel_rfl) (fun _ _ _ h => h) (Or.inl ⟨by rfl, ?_⟩) (by assumption) ?_
          rotate_left
          · (intro w hSw; (try dsimp only at hSw); go_simp; try with_reducible rfl)
          try simp only [Act.put, List.setIfInBounds_toArray, List.set_cons_zero, List.set_cons_succ]
          refine wpAnyH_take (i := 6) (oi := { dst := some 57, op := Op.call { callee := Callee.builtin Builtin.min, args := #[Operand.tmp 51, Operand.tmp 56], argTypes := #[2, 2] }, type := 2, pos := "deep.go:26", after := #[{ on := 0, ground := Ground.data }, { on := 5, ground := Ground.data }], guard := none }) (v := ?_) rfl (by kernel_rfl) (by kernel_rfl) (by kernel_rfl) (fun _ _ _ h => h) (Or.inl ⟨by rfl, ?_⟩) (by assumption) ?_
          rotate_left
          · (intro w hSw; (try dsimp only at hSw); go_simp; try with_reducible rfl)
          try simp only [Act.put, List.setIfInBounds_toArray, List.set_cons_zero, List.set_cons_succ]
          refine wpAnyH_take (i := 7) (oi := { dst := some 58, op := Op.move (Operand.tmp 9), type := 2, pos := "deep.go:26", after := #[], guard := none }) (v := ?_) rfl (by kernel_rfl) (by kernel_rfl) (by kernel_rfl) (fun _ _ _ h => h) (Or.inl ⟨by rfl, ?_⟩) (by assumption) ?_
          rotate_left
          · (intro w hSw; (try dsimp only at hSw); go_simp; try with_reducible rfl)
          try simp only [Act.put, List.setIfInBounds_toArray, List.set_cons_zero, List.set_cons_succ]
          refine wpAnyH_take (i := 8) (oi := { dst := some 59, op := Op.move (Operand.tmp 0), type := 22, pos := "deep.go:26", after := #[], guard := none }) (v := ?_) rfl (by kernel_rfl) (by kernel_rfl) (by kernel_rfl) (fun _ _ _ h => h) (Or.inl ⟨by rfl, ?_⟩) (by assumption) ?_
          rotate_left
          · (intro w hSw; (try dsimp only at hSw); go_simp; try with_reducible rfl)
          try simp only [Act.put, List.setIfInBounds_toArray, List.set_cons_zero, List.set_cons_succ]
          refine wpAnyH_take (i := 9) (oi := { dst := some 60, op := Op.move (Operand.tmp 11), type := 3, pos := "deep.go:26", after := #[], guard := none }) (v := ?_) rfl (by kernel_rfl) (by kernel_rfl) (by kernel_rfl) (fun _ _ _ h => h) (Or.inl ⟨by rfl, ?_⟩) (by assumption) ?_
          rotate_left
          · (intro w hSw; (try dsimp only at hSw); go_simp; try with_reducible rfl)
          try simp only [Act.put, List.setIfInBounds_toArray, List.set_cons_zero, List.set_cons_succ]
          refine wpAnyH_take (i := 10) (oi := { dst := some 61, op := Op.indexAddr 22 (Operand.tmp 59) (Operand.tmp 60), type := 0, pos := "deep.go:26", after := #[{ on := 8, ground := Ground.data }, { on := 9, ground := Ground.data }], guard := none }) (v := ?_) rfl (by kernel_rfl) (by kernel_rfl) (by kernel_rfl) (fun _ _ _ h => h) (Or.inl ⟨by rfl, ?_⟩) (by assumption) ?_
          rotate_left
          · (intro w hSw; (try dsimp only at hSw); go_simp; try with_reducible rfl)
          try simp only [Act.put, List.setIfInBounds_toArray, List.set_cons_zero, List.set_cons_succ]
          refine wpAnyH_take (i := 11) (oi := { dst := some 62, op := Op.load 21 (Operand.tmp 61), type := 21, pos := "deep.go:26", after := #[{ on := 10, ground := Ground.data }], guard := none }) (v := ?_) rfl (by kernel_rfl) (by kernel_rfl) (by kernel_rfl) (fun _ _ _ h => h) (Or.inl ⟨by rfl, ?_⟩) (by assumption) ?_
          rotate_left
          · (intro w hSw; (try dsimp only at hSw); go_simp; try with_reducible rfl)
          try simp only [Act.put, List.setIfInBounds_toArray, List.set_cons_zero, List.set_cons_succ]
          refine wpAnyH_take (i := 12) (oi := { dst := some 63, op := Op.convert 21 2 (Operand.tmp 62), type := 2, pos := "deep.go:26", after := #[{ on := 11, ground := Ground.data }], guard := none }) (v := ?_) rfl (by kernel_rfl) (by kernel_rfl) (by kernel_rfl) (fun _ _ _ h => h) (Or.inl ⟨by rfl, ?_⟩) (by assumption) ?_
          rotate_left
          · (intro w hSw; (try dsimp only at hSw); go_simp; try with_reducible rfl)
          try simp only [Act.put, List.setIfInBounds_toArray, List.set_cons_zero, List.set_cons_succ]
          refine wpAnyH_take (i := 13) (oi := { dst := some 64, op := Op.call { callee := Callee.builtin Builtin.max, args := #[Operand.tmp 58, Operand.tmp 63], argTypes := #[2, 2] }, type := 2, pos := "deep.go:26", after := #[{ on := 7, ground := Ground.data }, { on := 12, ground := Ground.data }], guard := none }) (v := ?_) rfl (by kernel_rfl) (by kernel_rfl) (by kernel_rfl) (fun _ _ _ h => h) (Or.inl ⟨by rfl, ?_⟩) (by assumption) ?_
          rotate_left
          · (intro w hSw; (try dsimp only at hSw); go_simp; try with_reducible rfl)
          try simp only [Act.put, List.setIfInBounds_toArray, List.set_cons_zero, List.set_cons_succ]
          refine wpAnyH_take (i := 14) (oi := { dst := some 8, op := Op.assign (Operand.tmp 57), type := 2, pos := "deep.go:26", after := #[{ on := 6, ground := Ground.data }, { on := 0, ground := Ground.phase }, { on := 1, ground := Ground.phase }, { on := 2, ground := Ground.phase }, { on := 3, ground := Ground.phase }, { on := 4, ground := Ground.phase }, { on := 5, ground := Ground.phase }, { on := 6, ground := Ground.phase }, { on := 7, ground := Ground.textOnly Departure.lateStores }, { on := 8, ground := Ground.textOnly Departure.lateStores }, { on := 9, ground := Ground.textOnly Departure.lateStores }, { on := 10, ground := Ground.textOnly Departure.lateStores }, { on := 11, ground := Ground.textOnly Departure.lateStores }, { on := 12, ground := Ground.textOnly Departure.lateStores }, { on := 13, ground := Ground.textOnly Departure.lateStoresUnsure }], guard := none }) (v := ?_) rfl (by kernel_rfl) (by kernel_rfl) (by kernel_rfl) (fun _ _ _ h => h) (Or.inl ⟨by rfl, ?_⟩) (by assumption) ?_
          rotate_left
          · (intro w hSw; (try dsimp only at hSw); go_simp; try with_reducible rfl)
          try simp only [Act.put, List.setIfInBounds_toArray, List.set_cons_zero, List.set_cons_succ]
          refine wpAnyH_take (i := 15) (oi := { dst := some 9, op := Op.assign (Operand.tmp 64), type := 2, pos := "deep.go:26", after := #[{ on := 13, ground := Ground.data }, { on := 14, ground := Ground.chain }, { on := 0, ground := Ground.phase }, { on := 1, ground := Ground.phase }, { on := 2, ground := Ground.phase }, { on := 3, ground := Ground.phase }, { on := 4, ground := Ground.phase }, { on := 5, ground := Ground.phase }, { on := 6, ground := Ground.phase }, { on := 7, ground := Ground.phase }, { on := 8, ground := Ground.phase }, { on := 9, ground := Ground.phase }, { on := 10, ground := Ground.phase }, { on := 11, ground := Ground.phase }, { on := 12, ground := Ground.phase }, { on := 13, ground := Ground.phase }, { on := 14, ground := Ground.phase }], guard := none }) (v := ?_) rfl (by kernel_rfl) (by kernel_rfl) (by kernel_rfl) (fun _ _ _ h => h) (Or.inl ⟨by rfl, ?_⟩) (by assumption) ?_
          rotate_left
          · (intro w hSw; (try dsimp only at hSw); go_simp; try with_reducible rfl)
          try simp only [Act.put, List.setIfInBounds_toArray, List.set_cons_zero, List.set_cons_succ]
          refine wpAnyH_done (by kernel_rfl) ?_ _
          refine NoPanic.normal ?_
          go_wp2_with fail
          exact ⟨⟨i + 1, hlt, rfl, (HN.out).drew⟩, by simp [intOf]; omega⟩
    · obtain rfl : i = n := by omega
      have hD : decide ((i : Int) < i) = false := by simp
      obtain ⟨ow, bel, q1, q2, q3⟩ := HR.out
      have BEL := Lib.hid bel
      clear bel q1 q2 q3 HR H0
      have hln : (os.map qo).take i = os.map qo := List.take_of_length_le (by rw [List.length_map, HOL.out]; exact Nat.le_refl _)
      rw [hln] at ow
      clear hln
      have hnle := nums_le os i
      have hnz : ∀ x ∈ nums os i, -2147483648 ≤ x ∧ x ≤ 2147483647 := by rw [← HOS.out]; exact osOf_nums i b z i _ _ HZ.out
      have HLO := Lib.hid (fun hne => lo0_lows (nums os i) hne (fun x hx => by have := hnz x hx; omega))
      have HHI := Lib.hid (fun hne => hi0_highs (nums os i) hne (fun x hx => by have := hnz x hx; omega))
      have HST : Hid (Calls Try.prog 9 #[u7, .int .i64 1] wr fun e w' => e = .returned (.tuple #[.agg (statCells i (i - (nums os i).length) (endsOf lows (nums os i)) (endsOf highs (nums os i))), .int .i64 0]) ∧ Below wr.heap.size wr w') := Lib.hid (by
        rcases ow.at with ⟨rfl, rfl⟩ | ⟨g2, cap2, rfl, k1, k2⟩
        · have h0 : nums os 0 = [] := rfl
          rw [h0]
          exact Try.statOf_nil wr
        · have := Try.statOf k2 HOL.out (by omega)
          unfold statA at this
          rw [HOL.out] at this
          exact this)
      clear ow hnz
      generalize nums os i = zs at hnle HLO HHI HST ⊢
      go_wp2_with fail
      refine (HST.out).mono ?_
      rintro e w1 ⟨rfl, hb1⟩
      have BEL1 := Lib.hid ((BEL.out).trans (hb1.mono (BEL.out).size))
      clear hb1 HST BEL
      by_cases hzs : zs = []
      · subst hzs
        have hE : statCells i (i - ([] : List Int).length) (endsOf lows []) (endsOf highs []) = #[.int .i64 1, .int .i64 i, .int .i64 (i), .int .i64 0, .int .i64 (0), .string ⟨#[]⟩, .complex .f64 0 0, .int .i64 0, .int .i64 (0), .string ⟨#[]⟩, .complex .f64 0 0, .complex .f64 0 0, .complex .f64 0 0] := by simp [statCells, endsOf]
        rw [hE]
        clear hE HLO HHI hnle
        go_upto_region 16 with fail
        have hS := Lib.hid (alloc_here w1 (.cells #[.int .i64 1, .int .i64 i, .int .i64 (i), .int .i64 0, .int .i64 (0), .string ⟨#[]⟩, .complex .f64 0 0, .int .i64 0, .int .i64 (0), .string ⟨#[]⟩, .complex .f64 0 0, .complex .f64 0 0, .complex .f64 0 0] 33))
        have BA := Lib.hid ((BEL1.out).alloc (BEL1.out).size (.cells #[.int .i64 1, .int .i64 i, .int .i64 (i), .int .i64 0, .int .i64 (0), .string ⟨#[]⟩, .complex .f64 0 0, .int .i64 0, .int .i64 (0), .string ⟨#[]⟩, .complex .f64 0 0, .complex .f64 0 0, .complex .f64 0 0] 33))
        go_wp2_with fail
        refine (Try.has0 i i (0, 0) (0, 0) _).mono ?_
        rintro e w2 ⟨rfl, hb2⟩
        have S2 : Hid (VS w2 w1.heap.size #[.int .i64 1, .int .i64 i, .int .i64 (i), .int .i64 0, .int .i64 (0), .string ⟨#[]⟩, .complex .f64 0 0, .int .i64 0, .int .i64 (0), .string ⟨#[]⟩, .complex .f64 0 0, .complex .f64 0 0, .complex .f64 0 0]) := Lib.hid (VS.below (w := w1.alloc (.cells #[.int .i64 1, .int .i64 i, .int .i64 (i), .int .i64 0, .int .i64 (0), .string ⟨#[]⟩, .complex .f64 0 0, .int .i64 0, .int .i64 (0), .string ⟨#[]⟩, .complex .f64 0 0, .complex .f64 0 0, .complex .f64 0 0] 33)) hS.out hb2)
        have BEL2 := Lib.hid ((BA.out).trans (hb2.mono (BA.out).size))
        clear hb2 hS BA BEL1
        go_upto_region 19 with fail
        have hcv : IntKind.i64.wrap v = v := by rw [IntKind.wrap_i64]; omega
        have hcv' : wrap64 v = v := by unfold wrap64; omega
        have heq := eqlV
        have hgd := eqG
        refine wp_region_noPanic ?_
        refine wp_region_held_drew (S := (fun W => W.cell? ⟨w1.heap.size, 0, none⟩ = some (.int .i64 1) ∧ W.cell? ⟨w1.heap.size, 1, none⟩ = some (.int .i64 i) ∧ W.cell? ⟨w1.heap.size, 2, none⟩ = some (.int .i64 (i)) ∧ W.cell? ⟨w1.heap.size, 3, none⟩ = some (.int .i64 0) ∧ W.cell? ⟨w1.heap.size, 4, none⟩ = some (.int .i64 (0)) ∧ W.cell? ⟨w1.heap.size, 5, none⟩ = some (.string ⟨#[]⟩) ∧ W.cell? ⟨w1.heap.size, 6, none⟩ = some (.complex .f64 0 0) ∧ W.cell? ⟨w1.heap.size, 7, none⟩ = some (.int .i64 0) ∧ W.cell? ⟨w1.heap.size, 8, none⟩ = some (.int .i64 (0)) ∧ W.cell? ⟨w1.heap.size, 9, none⟩ = some (.string ⟨#[]⟩) ∧ W.cell? ⟨w1.heap.size, 10, none⟩ = some (.complex .f64 0 0) ∧ W.cell? ⟨w1.heap.size, 11, none⟩ = some (.complex .f64 0 0) ∧ W.cell? ⟨w1.heap.size, 12, none⟩ = some (.complex .f64 0 0))) (by kernel_rfl) ?_ (fun hHeld => ?_)
        · exact (VS.cells13 (w := w2) S2.out)
        refine wpAnyH_take (i := 0) (oi := { dst := some 97, op := Op.fieldAddr 33 (Operand.tmp 12) 3, type := 0, pos := "deep.go:33", after := #[], guard := none }) (v := ?_) rfl (by kernel_rfl) (by kernel_rfl) (by kernel_rfl) (fun _ _ _ h => h) (Or.inl ⟨by rfl, ?_⟩) (by assumption) ?_
        rotate_left
        · (intro w hSw; (try dsimp only at hSw); go_simp; try with_reducible rfl)
        try simp only [Act.put, List.setIfInBounds_toArray, List.set_cons_zero, List.set_cons_succ]
        refine wpAnyH_take (i := 1) (oi := { dst := some 98, op := Op.load 28 (Operand.tmp 97), type := 28, pos := "deep.go:33", after := #[{ on := 0, ground := Ground.data }], guard := none }) (v := ?_) rfl (by kernel_rfl) (by kernel_rfl) (by kernel_rfl) (fun _ _ _ h => h) (Or.inl ⟨by rfl, ?_⟩) (by assumption) ?_
        rotate_left
        · (intro w hSw; (try dsimp only at hSw); go_simp; try with_reducible rfl)
        try simp only [Act.put, List.setIfInBounds_toArray, List.set_cons_zero, List.set_cons_succ]
        refine wpAnyH_take (i := 2) (oi := { dst := some 99, op := Op.build 28 #[], type := 28, pos := "deep.go:33", after := #[], guard := none }) (v := ?_) rfl (by kernel_rfl) (by kernel_rfl) (by kernel_rfl) (fun _ _ _ h => h) (Or.inl ⟨by rfl, ?_⟩) (by assumption) ?_
        rotate_left
        · (intro w hSw; (try dsimp only at hSw); go_simp; try with_reducible rfl)
        try simp only [Act.put, List.setIfInBounds_toArray, List.set_cons_zero, List.set_cons_succ]
        refine wpAnyH_take (i := 3) (oi := { dst := some 100, op := Op.binOp BinOp.eql 28 (Operand.tmp 98) (Operand.tmp 99) 28, type := 4, pos := "deep.go:33", after := #[{ on := 1, ground := Ground.data }, { on := 2, ground := Ground.data }], guard := none }) (v := ?_) rfl (by kernel_rfl) (by kernel_rfl) (by kernel_rfl) (fun _ _ _ h => h) (Or.inl ⟨by rfl, ?_⟩) (by assumption) ?_
        rotate_left
        · (intro w hSw; (try dsimp only at hSw); go_simp; try with_reducible rfl)
        try simp only [Act.put, List.setIfInBounds_toArray, List.set_cons_zero, List.set_cons_succ]
        refine wpAnyH_take (i := 4) (oi := { dst := some 101, op := Op.move (Operand.tmp 100), type := 4, pos := "deep.go:33", after := #[{ on := 3, ground := Ground.data }], guard := none }) (v := ?_) rfl (by kernel_rfl) (by kernel_rfl) (by kernel_rfl) (fun _ _ _ h => h) (Or.inl ⟨by rfl, ?_⟩) (by assumption) ?_
        rotate_left
        · (intro w hSw; (try dsimp only at hSw); go_simp; try with_reducible rfl)
        try simp only [Act.put, List.setIfInBounds_toArray, List.set_cons_zero, List.set_cons_succ]
        refine wpAnyH_take (i := 5) (oi := { dst := some 102, op := Op.fieldAddr 33 (Operand.tmp 12) 4, type := 0, pos := "deep.go:33", after := #[{ on := 4, ground := Ground.guard }], guard := some (4, true) }) (v := ?_) rfl (by kernel_rfl) (by kernel_rfl) (by kernel_rfl) (fun _ _ _ h => h) (Or.inl ⟨by rfl, ?_⟩) (by assumption) ?_
        rotate_left
        · (intro w hSw; (try dsimp only at hSw); go_simp; try with_reducible rfl)
        try simp only [Act.put, List.setIfInBounds_toArray, List.set_cons_zero, List.set_cons_succ]
        refine wpAnyH_take (i := 6) (oi := { dst := some 103, op := Op.load 28 (Operand.tmp 102), type := 28, pos := "deep.go:33", after := #[{ on := 5, ground := Ground.data }, { on := 4, ground := Ground.guard }], guard := some (4, true) }) (v := ?_) rfl (by kernel_rfl) (by kernel_rfl) (by kernel_rfl) (fun _ _ _ h => h) (Or.inl ⟨by rfl, ?_⟩) (by assumption) ?_
        rotate_left
        · (intro w hSw; (try dsimp only at hSw); go_simp; try with_reducible rfl)
        try simp only [Act.put, List.setIfInBounds_toArray, List.set_cons_zero, List.set_cons_succ]
        refine wpAnyH_take (i := 7) (oi := { dst := some 104, op := Op.build 28 #[], type := 28, pos := "deep.go:33", after := #[{ on := 4, ground := Ground.guard }], guard := some (4, true) }) (v := ?_) rfl (by kernel_rfl) (by kernel_rfl) (by kernel_rfl) (fun _ _ _ h => h) (Or.inl ⟨by rfl, ?_⟩) (by assumption) ?_
        rotate_left
        · (intro w hSw; (try dsimp only at hSw); go_simp; try with_reducible rfl)
        try simp only [Act.put, List.setIfInBounds_toArray, List.set_cons_zero, List.set_cons_succ]
        refine wpAnyH_take (i := 8) (oi := { dst := some 105, op := Op.binOp BinOp.eql 28 (Operand.tmp 103) (Operand.tmp 104) 28, type := 4, pos := "deep.go:33", after := #[{ on := 6, ground := Ground.data }, { on := 7, ground := Ground.data }, { on := 4, ground := Ground.guard }], guard := some (4, true) }) (v := ?_) rfl (by kernel_rfl) (by kernel_rfl) (by kernel_rfl) (fun _ _ _ h => h) (Or.inl ⟨by rfl, ?_⟩) (by assumption) ?_
        rotate_left
        · (intro w hSw; (try dsimp only at hSw); go_simp; try with_reducible rfl)
        try simp only [Act.put, List.setIfInBounds_toArray, List.set_cons_zero, List.set_cons_succ]
        refine wpAnyH_take (i := 9) (oi := { dst := some 106, op := Op.pick (Operand.tmp 101) (Operand.tmp 105) (Operand.const (Value.bool false)), type := 4, pos := "deep.go:33", after := #[{ on := 4, ground := Ground.data }, { on := 8, ground := Ground.data }], guard := none }) (v := ?_) rfl (by kernel_rfl) (by kernel_rfl) (by kernel_rfl) (fun _ _ _ h => h) (Or.inl ⟨by rfl, ?_⟩) (by assumption) ?_
        rotate_left
        · (intro w hSw; (try dsimp only at hSw); go_simp; try with_reducible rfl)
        try simp only [Act.put, List.setIfInBounds_toArray, List.set_cons_zero, List.set_cons_succ]
        refine wpAnyH_take (i := 10) (oi := { dst := some 107, op := Op.move (Operand.tmp 106), type := 4, pos := "deep.go:33", after := #[{ on := 9, ground := Ground.data }, { on := 4, ground := Ground.chain }], guard := none }) (v := ?_) rfl (by kernel_rfl) (by kernel_rfl) (by kernel_rfl) (fun _ _ _ h => h) (Or.inl ⟨by rfl, ?_⟩) (by assumption) ?_
        rotate_left
        · (intro w hSw; (try dsimp only at hSw); go_simp; try with_reducible rfl)
        try simp only [Act.put, List.setIfInBounds_toArray, List.set_cons_zero, List.set_cons_succ]
        refine wpAnyH_take (i := 11) (oi := { dst := some 108, op := Op.load 33 (Operand.tmp 12), type := 33, pos := "deep.go:33", after := #[{ on := 10, ground := Ground.guard }], guard := some (10, true) }) (v := ?_) rfl (by kernel_rfl) (by kernel_rfl) (by kernel_rfl) (fun _ _ _ h => h) (Or.inl ⟨by rfl, ?_⟩) (by assumption) ?_
        rotate_left
        · (intro w hSw; (try dsimp only at hSw); go_simp; try with_reducible rfl)
        try simp only [Act.put, List.setIfInBounds_toArray, List.set_cons_zero, List.set_cons_succ]
        refine wpAnyH_take (i := 12) (oi := { dst := some 109, op := Op.move (Operand.tmp 2), type := 21, pos := "deep.go:33", after := #[{ on := 10, ground := Ground.guard }], guard := some (10, true) }) (v := ?_) rfl (by kernel_rfl) (by kernel_rfl) (by kernel_rfl) (fun _ _ _ h => h) (Or.inl ⟨by rfl, ?_⟩) (by assumption) ?_
        rotate_left
        · (intro w hSw; (try dsimp only at hSw); go_simp; try with_reducible rfl)
        try simp only [Act.put, List.setIfInBounds_toArray, List.set_cons_zero, List.set_cons_succ]
        refine wpAnyH_take (i := 13) (oi := { dst := some 110, op := Op.convert 21 2 (Operand.tmp 109), type := 2, pos := "deep.go:33", after := #[{ on := 12, ground := Ground.data }, { on := 10, ground := Ground.guard }], guard := some (10, true) }) (v := ?_) rfl (by kernel_rfl) (by kernel_rfl) (by kernel_rfl) (fun _ _ _ h => h) (Or.inl ⟨by rfl, ?_⟩) (by assumption) ?_
        rotate_left
        · (intro w hSw; (try dsimp only at hSw); go_simp; try with_reducible rfl)
        try simp only [Act.put, List.setIfInBounds_toArray, List.set_cons_zero, List.set_cons_succ]
        refine wpAnyH_ready (rs := [14]) (by kernel_rfl) (by simp) ?_
        refine AllReadyH.cons (o := { dst := some 111, op := Op.call { callee := Callee.value (Operand.func 8), args := #[Operand.tmp 110], argTypes := #[2] }, type := 28, pos := "deep.go:33", after := #[{ on := 13, ground := Ground.data }, { on := 10, ground := Ground.chain }, { on := 10, ground := Ground.guard }], guard := some (10, true) }) rfl (fun K hK => ?_) AllReadyH.nil
        refine step_want (by rfl) ?_
        go_simp
        refine (Try.nn (v) _).mono ?_
        rintro e w3 ⟨rfl, hb⟩
        unfold vN
        dsimp only
        have S3 : Hid (VS w3 w1.heap.size #[.int .i64 1, .int .i64 i, .int .i64 (i), .int .i64 0, .int .i64 (0), .string ⟨#[]⟩, .complex .f64 0 0, .int .i64 0, .int .i64 (0), .string ⟨#[]⟩, .complex .f64 0 0, .complex .f64 0 0, .complex .f64 0 0]) := Lib.hid (VS.below (w := w2) (S2.out) ⟨hb.os, hb.tape, hb.output, hb.size, hb.block⟩)
        have BEL3 : Hid (Below w.heap.size w w3) := Lib.hid ((BEL2.out).trans (Below.mono (show Below w2.heap.size w2 w3 from ⟨hb.os, hb.tape, hb.output, hb.size, hb.block⟩) (BEL2.out).size))
        clear hb
        refine hK.out _ _ ?_ (fun hHeld => ?_)
        · exact (S3.out).cells13
        clear hK K
        try simp only [Act.put, List.setIfInBounds_toArray, List.set_cons_zero, List.set_cons_succ]
        refine wpAnyH_ready (rs := [15]) (by kernel_rfl) (by simp) ?_
        refine AllReadyH.cons (o := { dst := some 112, op := Op.call { callee := Callee.value (Operand.func 10), args := #[Operand.tmp 108, Operand.tmp 111], argTypes := #[33, 28] }, type := 4, pos := "deep.go:33", after := #[{ on := 11, ground := Ground.data }, { on := 14, ground := Ground.data }, { on := 14, ground := Ground.chain }, { on := 10, ground := Ground.guard }], guard := some (10, true) }) rfl (fun K hK => ?_) AllReadyH.nil
        refine step_want (by rfl) ?_
        go_simp
        refine (Try.hasE i (0, 0) (0, 0) v w3).mono ?_
        rintro e w4 ⟨rfl, hb⟩
        dsimp only
        have S4 : Hid (VS w4 w1.heap.size #[.int .i64 1, .int .i64 i, .int .i64 (i), .int .i64 0, .int .i64 (0), .string ⟨#[]⟩, .complex .f64 0 0, .int .i64 0, .int .i64 (0), .string ⟨#[]⟩, .complex .f64 0 0, .complex .f64 0 0, .complex .f64 0 0]) := Lib.hid (VS.below (S3.out) hb)
        have BEL4 := Lib.hid ((BEL3.out).trans (hb.mono (BEL3.out).size))
        clear hb
        refine hK.out _ _ ?_ (fun hHeld => ?_)
        · exact (S4.out).cells13
        clear hK K
        try simp only [Act.put, List.setIfInBounds_toArray, List.set_cons_zero, List.set_cons_succ]
        refine wpAnyH_take (i := 16) (oi := { dst := some 113, op := Op.unOp UnOp.not 4 (Operand.tmp 112), type := 4, pos := "deep.go:33", after := #[{ on := 15, ground := Ground.data }, { on := 10, ground := Ground.guard }], guard := some (10, true) }) (v := ?_) rfl (by kernel_rfl) (by kernel_rfl) (by kernel_rfl) (fun _ _ _ h => h) (Or.inl ⟨by rfl, ?_⟩) (by assumption) ?_
        rotate_left
        · (intro w hSw; (try dsimp only at hSw); go_simp; try with_reducible rfl)
        try simp only [Act.put, List.setIfInBounds_toArray, List.set_cons_zero, List.set_cons_succ]
        refine wpAnyH_take (i := 17) (oi := { dst := some 114, op := Op.pick (Operand.tmp 107) (Operand.tmp 113) (Operand.const (Value.bool false)), type := 4, pos := "deep.go:33", after := #[{ on := 10, ground := Ground.data }, { on := 16, ground := Ground.data }], guard := none }) (v := ?_) rfl (by kernel_rfl) (by kernel_rfl) (by kernel_rfl) (fun _ _ _ h => h) (Or.inl ⟨by rfl, ?_⟩) (by assumption) ?_
        rotate_left
        · (intro w hSw; (try dsimp only at hSw); go_simp; try with_reducible rfl)
        try simp only [Act.put, List.setIfInBounds_toArray, List.set_cons_zero, List.set_cons_succ]
        refine wpAnyH_take (i := 18) (oi := { dst := some 6, op := Op.assign (Operand.tmp 114), type := 4, pos := "deep.go:33", after := #[{ on := 17, ground := Ground.data }, { on := 15, ground := Ground.chain }, { on := 0, ground := Ground.phase }, { on := 1, ground := Ground.phase }, { on := 2, ground := Ground.phase }, { on := 3, ground := Ground.phase }, { on := 4, ground := Ground.phase }, { on := 5, ground := Ground.phase }, { on := 6, ground := Ground.phase }, { on := 7, ground := Ground.phase }, { on := 8, ground := Ground.phase }, { on := 9, ground := Ground.phase }, { on := 10, ground := Ground.phase }, { on := 11, ground := Ground.phase }, { on := 12, ground := Ground.phase }, { on := 13, ground := Ground.phase }, { on := 14, ground := Ground.phase }, { on := 15, ground := Ground.phase }, { on := 16, ground := Ground.phase }, { on := 17, ground := Ground.phase }], guard := none }) (v := ?_) rfl (by kernel_rfl) (by kernel_rfl) (by kernel_rfl) (fun _ _ _ h => h) (Or.inl ⟨by rfl, ?_⟩) (by assumption) ?_
        rotate_left
        · (intro w hSw; (try dsimp only at hSw); go_simp; try with_reducible rfl)
        try simp only [Act.put, List.setIfInBounds_toArray, List.set_cons_zero, List.set_cons_succ]
        refine wpAnyH_done (by kernel_rfl) ?_ _
        refine NoPanic.normal ?_
        go_wp2
        go_ret
        exact ⟨rfl, BEL4.out⟩
      · have hzl : 0 < zs.length := List.length_pos_iff.2 hzs
        have hE : statCells i (i - zs.length) (endsOf lows zs) (endsOf highs zs) = #[.int .i64 1, .int .i64 i, .int .i64 ((i : Int) - zs.length), .int .i64 1, .int .i64 (lo0 zs), .string ⟨#[]⟩, .complex .f64 0 0, .int .i64 1, .int .i64 (hi0 zs), .string ⟨#[]⟩, .complex .f64 0 0, .complex .f64 0 0, .complex .f64 0 0] := by
          unfold endsOf
          rw [if_neg hzs, if_neg hzs, ← HLO.out hzs, ← HHI.out hzs]
          rfl
        rw [hE]
        have hne : (((i : Int) - (zs.length : Int)) == (i : Int)) = false := by simp; omega
        have hne2 : decide ((i : Int) - (zs.length : Int) = (i : Int)) = false := by simp; omega
        have hnlt : ((i : Int) - (zs.length : Int)) ≠ (i : Int) := by omega
        have HNLT := Lib.hid (Ne.symm hnlt)
        clear hE HLO HHI hnle hnlt hzs hzl
        generalize lo0 zs = L
        generalize hi0 zs = G
        generalize zs.length = m at hne hne2 HNLT ⊢
        go_upto_region 16 with fail
        have hS := Lib.hid (alloc_here w1 (.cells #[.int .i64 1, .int .i64 i, .int .i64 ((i : Int) - m), .int .i64 1, .int .i64 (L), .string ⟨#[]⟩, .complex .f64 0 0, .int .i64 1, .int .i64 (G), .string ⟨#[]⟩, .complex .f64 0 0, .complex .f64 0 0, .complex .f64 0 0] 33))
        have BA := Lib.hid ((BEL1.out).alloc (BEL1.out).size (.cells #[.int .i64 1, .int .i64 i, .int .i64 ((i : Int) - m), .int .i64 1, .int .i64 (L), .string ⟨#[]⟩, .complex .f64 0 0, .int .i64 1, .int .i64 (G), .string ⟨#[]⟩, .complex .f64 0 0, .complex .f64 0 0, .complex .f64 0 0] 33))
        go_wp2_with fail
        refine (Try.has0 i ((i : Int) - m) (1, L) (1, G) _).mono ?_
        rintro e w2 ⟨rfl, hb2⟩
        have S2 : Hid (VS w2 w1.heap.size #[.int .i64 1, .int .i64 i, .int .i64 ((i : Int) - m), .int .i64 1, .int .i64 (L), .string ⟨#[]⟩, .complex .f64 0 0, .int .i64 1, .int .i64 (G), .string ⟨#[]⟩, .complex .f64 0 0, .complex .f64 0 0, .complex .f64 0 0]) := Lib.hid (VS.below (w := w1.alloc (.cells #[.int .i64 1, .int .i64 i, .int .i64 ((i : Int) - m), .int .i64 1, .int .i64 (L), .string ⟨#[]⟩, .complex .f64 0 0, .int .i64 1, .int .i64 (G), .string ⟨#[]⟩, .complex .f64 0 0, .complex .f64 0 0, .complex .f64 0 0] 33)) hS.out hb2)
        have BEL2 := Lib.hid ((BA.out).trans (hb2.mono (BA.out).size))
        clear hb2 hS BA BEL1
        go_upto_region 20 with fail
        have hcv : IntKind.i64.wrap v = v := by rw [IntKind.wrap_i64]; omega
        have hcv' : wrap64 v = v := by unfold wrap64; omega
        have heq := eqlV
        have hgd := eqG
        by_cases hL : L ≤ v
        · have dl : decide (L ≤ v) = true := by simpa using hL
          refine wp_region_noPanic ?_
          refine wp_region_held_drew (S := (fun W => W.cell? ⟨w1.heap.size, 0, none⟩ = some (.int .i64 1) ∧ W.cell? ⟨w1.heap.size, 1, none⟩ = some (.int .i64 i) ∧ W.cell? ⟨w1.heap.size, 2, none⟩ = some (.int .i64 ((i : Int) - m)) ∧ W.cell? ⟨w1.heap.size, 3, none⟩ = some (.int .i64 1) ∧ W.cell? ⟨w1.heap.size, 4, none⟩ = some (.int .i64 (L)) ∧ W.cell? ⟨w1.heap.size, 5, none⟩ = some (.string ⟨#[]⟩) ∧ W.cell? ⟨w1.heap.size, 6, none⟩ = some (.complex .f64 0 0) ∧ W.cell? ⟨w1.heap.size, 7, none⟩ = some (.int .i64 1) ∧ W.cell? ⟨w1.heap.size, 8, none⟩ = some (.int .i64 (G)) ∧ W.cell? ⟨w1.heap.size, 9, none⟩ = some (.string ⟨#[]⟩) ∧ W.cell? ⟨w1.heap.size, 10, none⟩ = some (.complex .f64 0 0) ∧ W.cell? ⟨w1.heap.size, 11, none⟩ = some (.complex .f64 0 0) ∧ W.cell? ⟨w1.heap.size, 12, none⟩ = some (.complex .f64 0 0))) (by kernel_rfl) ?_ (fun hHeld => ?_)
          · exact (VS.cells13 (w := w2) S2.out)
          refine wpAnyH_take (i := 0) (oi := { dst := some 115, op := Op.fieldAddr 33 (Operand.tmp 12) 3, type := 0, pos := "deep.go:35", after := #[], guard := none }) (v := ?_) rfl (by kernel_rfl) (by kernel_rfl) (by kernel_rfl) (fun _ _ _ h => h) (Or.inl ⟨by rfl, ?_⟩) (by assumption) ?_
          rotate_left
          · (intro w hSw; (try dsimp only at hSw); go_simp; try with_reducible rfl)
          try simp only [Act.put, List.setIfInBounds_toArray, List.set_cons_zero, List.set_cons_succ]
          refine wpAnyH_take (i := 1) (oi := { dst := some 116, op := Op.load 28 (Operand.tmp 115), type := 28, pos := "deep.go:35", after := #[{ on := 0, ground := Ground.data }], guard := none }) (v := ?_) rfl (by kernel_rfl) (by kernel_rfl) (by kernel_rfl) (fun _ _ _ h => h) (Or.inl ⟨by rfl, ?_⟩) (by assumption) ?_
          rotate_left
          · (intro w hSw; (try dsimp only at hSw); go_simp; try with_reducible rfl)
          try simp only [Act.put, List.setIfInBounds_toArray, List.set_cons_zero, List.set_cons_succ]
          refine wpAnyH_take (i := 2) (oi := { dst := some 117, op := Op.move (Operand.tmp 8), type := 2, pos := "deep.go:35", after := #[], guard := none }) (v := ?_) rfl (by kernel_rfl) (by kernel_rfl) (by kernel_rfl) (fun _ _ _ h => h) (Or.inl ⟨by rfl, ?_⟩) (by assumption) ?_
          rotate_left
          · (intro w hSw; (try dsimp only at hSw); go_simp; try with_reducible rfl)
          try simp only [Act.put, List.setIfInBounds_toArray, List.set_cons_zero, List.set_cons_succ]
          refine wpAnyH_ready (rs := [3]) (by kernel_rfl) (by simp) ?_
          refine AllReadyH.cons (o := { dst := some 118, op := Op.call { callee := Callee.value (Operand.func 8), args := #[Operand.tmp 117], argTypes := #[2] }, type := 28, pos := "deep.go:35", after := #[{ on := 2, ground := Ground.data }], guard := none }) rfl (fun K hK => ?_) AllReadyH.nil
          go_simp
          refine (Try.nn (L) _).mono ?_
          rintro e w3 ⟨rfl, hb⟩
          unfold vN
          dsimp only
          have S3 : Hid (VS w3 w1.heap.size #[.int .i64 1, .int .i64 i, .int .i64 ((i : Int) - m), .int .i64 1, .int .i64 (L), .string ⟨#[]⟩, .complex .f64 0 0, .int .i64 1, .int .i64 (G), .string ⟨#[]⟩, .complex .f64 0 0, .complex .f64 0 0, .complex .f64 0 0]) := Lib.hid (VS.below (w := w2) (S2.out) ⟨hb.os, hb.tape, hb.output, hb.size, hb.block⟩)
          have BEL3 : Hid (Below w.heap.size w w3) := Lib.hid ((BEL2.out).trans (Below.mono (show Below w2.heap.size w2 w3 from ⟨hb.os, hb.tape, hb.output, hb.size, hb.block⟩) (BEL2.out).size))
          clear hb
          refine hK.out _ _ ?_ (fun hHeld => ?_)
          · exact (S3.out).cells13
          clear hK K
          try simp only [Act.put, List.setIfInBounds_toArray, List.set_cons_zero, List.set_cons_succ]
          refine wpAnyH_take (i := 4) (oi := { dst := some 119, op := Op.binOp BinOp.eql 28 (Operand.tmp 116) (Operand.tmp 118) 28, type := 4, pos := "deep.go:35", after := #[{ on := 1, ground := Ground.data }, { on := 3, ground := Ground.data }], guard := none }) (v := ?_) rfl (by kernel_rfl) (by kernel_rfl) (by kernel_rfl) (fun _ _ _ h => h) (Or.inl ⟨by rfl, ?_⟩) (by assumption) ?_
          rotate_left
          · (intro w hSw; (try dsimp only at hSw); go_simp; try with_reducible rfl)
          try simp only [Act.put, List.setIfInBounds_toArray, List.set_cons_zero, List.set_cons_succ]
          refine wpAnyH_take (i := 5) (oi := { dst := some 120, op := Op.move (Operand.tmp 119), type := 4, pos := "deep.go:35", after := #[{ on := 4, ground := Ground.data }, { on := 3, ground := Ground.chain }], guard := none }) (v := ?_) rfl (by kernel_rfl) (by kernel_rfl) (by kernel_rfl) (fun _ _ _ h => h) (Or.inl ⟨by rfl, ?_⟩) (by assumption) ?_
          rotate_left
          · (intro w hSw; (try dsimp only at hSw); go_simp; try with_reducible rfl)
          try simp only [Act.put, List.setIfInBounds_toArray, List.set_cons_zero, List.set_cons_succ]
          refine wpAnyH_take (i := 6) (oi := { dst := some 121, op := Op.fieldAddr 33 (Operand.tmp 12) 4, type := 0, pos := "deep.go:35", after := #[{ on := 5, ground := Ground.guard }], guard := some (5, true) }) (v := ?_) rfl (by kernel_rfl) (by kernel_rfl) (by kernel_rfl) (fun _ _ _ h => h) (Or.inl ⟨by rfl, ?_⟩) (by assumption) ?_
          rotate_left
          · (intro w hSw; (try dsimp only at hSw); go_simp; try with_reducible rfl)
          try simp only [Act.put, List.setIfInBounds_toArray, List.set_cons_zero, List.set_cons_succ]
          refine wpAnyH_take (i := 7) (oi := { dst := some 122, op := Op.load 28 (Operand.tmp 121), type := 28, pos := "deep.go:35", after := #[{ on := 6, ground := Ground.data }, { on := 5, ground := Ground.guard }], guard := some (5, true) }) (v := ?_) rfl (by kernel_rfl) (by kernel_rfl) (by kernel_rfl) (fun _ _ _ h => h) (Or.inl ⟨by rfl, ?_⟩) (by assumption) ?_
          rotate_left
          · (intro w hSw; (try dsimp only at hSw); go_simp; try with_reducible rfl)
          try simp only [Act.put, List.setIfInBounds_toArray, List.set_cons_zero, List.set_cons_succ]
          refine wpAnyH_take (i := 8) (oi := { dst := some 123, op := Op.move (Operand.tmp 9), type := 2, pos := "deep.go:35", after := #[{ on := 5, ground := Ground.guard }], guard := some (5, true) }) (v := ?_) rfl (by kernel_rfl) (by kernel_rfl) (by kernel_rfl) (fun _ _ _ h => h) (Or.inl ⟨by rfl, ?_⟩) (by assumption) ?_
          rotate_left
          · (intro w hSw; (try dsimp only at hSw); go_simp; try with_reducible rfl)
          try simp only [Act.put, List.setIfInBounds_toArray, List.set_cons_zero, List.set_cons_succ]
          refine wpAnyH_ready (rs := [9]) (by kernel_rfl) (by simp) ?_
          refine AllReadyH.cons (o := { dst := some 124, op := Op.call { callee := Callee.value (Operand.func 8), args := #[Operand.tmp 123], argTypes := #[2] }, type := 28, pos := "deep.go:35", after := #[{ on := 8, ground := Ground.data }, { on := 5, ground := Ground.chain }, { on := 5, ground := Ground.guard }], guard := some (5, true) }) rfl (fun K hK => ?_) AllReadyH.nil
          refine step_want (by rfl) ?_
          go_simp
          refine (Try.nn (G) _).mono ?_
          rintro e w4 ⟨rfl, hb⟩
          unfold vN
          dsimp only
          have S4 : Hid (VS w4 w1.heap.size #[.int .i64 1, .int .i64 i, .int .i64 ((i : Int) - m), .int .i64 1, .int .i64 (L), .string ⟨#[]⟩, .complex .f64 0 0, .int .i64 1, .int .i64 (G), .string ⟨#[]⟩, .complex .f64 0 0, .complex .f64 0 0, .complex .f64 0 0]) := Lib.hid (VS.below (w := w3) (S3.out) ⟨hb.os, hb.tape, hb.output, hb.size, hb.block⟩)
          have BEL4 : Hid (Below w.heap.size w w4) := Lib.hid ((BEL3.out).trans (Below.mono (show Below w3.heap.size w3 w4 from ⟨hb.os, hb.tape, hb.output, hb.size, hb.block⟩) (BEL3.out).size))
          clear hb
          refine hK.out _ _ ?_ (fun hHeld => ?_)
          · exact (S4.out).cells13
          clear hK K
          try simp only [Act.put, List.setIfInBounds_toArray, List.set_cons_zero, List.set_cons_succ]
          refine wpAnyH_take (i := 10) (oi := { dst := some 125, op := Op.binOp BinOp.eql 28 (Operand.tmp 122) (Operand.tmp 124) 28, type := 4, pos := "deep.go:35", after := #[{ on := 7, ground := Ground.data }, { on := 9, ground := Ground.data }, { on := 5, ground := Ground.guard }], guard := some (5, true) }) (v := ?_) rfl (by kernel_rfl) (by kernel_rfl) (by kernel_rfl) (fun _ _ _ h => h) (Or.inl ⟨by rfl, ?_⟩) (by assumption) ?_
          rotate_left
          · (intro w hSw; (try dsimp only at hSw); go_simp; try with_reducible rfl)
          try simp only [Act.put, List.setIfInBounds_toArray, List.set_cons_zero, List.set_cons_succ]
          refine wpAnyH_take (i := 11) (oi := { dst := some 126, op := Op.pick (Operand.tmp 120) (Operand.tmp 125) (Operand.const (Value.bool false)), type := 4, pos := "deep.go:35", after := #[{ on := 5, ground := Ground.data }, { on := 10, ground := Ground.data }], guard := none }) (v := ?_) rfl (by kernel_rfl) (by kernel_rfl) (by kernel_rfl) (fun _ _ _ h => h) (Or.inl ⟨by rfl, ?_⟩) (by assumption) ?_
          rotate_left
          · (intro w hSw; (try dsimp only at hSw); go_simp; try with_reducible rfl)
          try simp only [Act.put, List.setIfInBounds_toArray, List.set_cons_zero, List.set_cons_succ]
          refine wpAnyH_take (i := 12) (oi := { dst := some 127, op := Op.move (Operand.tmp 126), type := 4, pos := "deep.go:35", after := #[{ on := 11, ground := Ground.data }, { on := 9, ground := Ground.chain }], guard := none }) (v := ?_) rfl (by kernel_rfl) (by kernel_rfl) (by kernel_rfl) (fun _ _ _ h => h) (Or.inl ⟨by rfl, ?_⟩) (by assumption) ?_
          rotate_left
          · (intro w hSw; (try dsimp only at hSw); go_simp; try with_reducible rfl)
          try simp only [Act.put, List.setIfInBounds_toArray, List.set_cons_zero, List.set_cons_succ]
          refine wpAnyH_take (i := 13) (oi := { dst := some 128, op := Op.load 33 (Operand.tmp 12), type := 33, pos := "deep.go:35", after := #[{ on := 12, ground := Ground.guard }], guard := some (12, true) }) (v := ?_) rfl (by kernel_rfl) (by kernel_rfl) (by kernel_rfl) (fun _ _ _ h => h) (Or.inl ⟨by rfl, ?_⟩) (by assumption) ?_
          rotate_left
          · (intro w hSw; (try dsimp only at hSw); go_simp; try with_reducible rfl)
          try simp only [Act.put, List.setIfInBounds_toArray, List.set_cons_zero, List.set_cons_succ]
          refine wpAnyH_take (i := 14) (oi := { dst := some 129, op := Op.move (Operand.tmp 2), type := 21, pos := "deep.go:35", after := #[{ on := 12, ground := Ground.guard }], guard := some (12, true) }) (v := ?_) rfl (by kernel_rfl) (by kernel_rfl) (by kernel_rfl) (fun _ _ _ h => h) (Or.inl ⟨by rfl, ?_⟩) (by assumption) ?_
          rotate_left
          · (intro w hSw; (try dsimp only at hSw); go_simp; try with_reducible rfl)
          try simp only [Act.put, List.setIfInBounds_toArray, List.set_cons_zero, List.set_cons_succ]
          refine wpAnyH_take (i := 15) (oi := { dst := some 130, op := Op.convert 21 2 (Operand.tmp 129), type := 2, pos := "deep.go:35", after := #[{ on := 14, ground := Ground.data }, { on := 12, ground := Ground.guard }], guard := some (12, true) }) (v := ?_) rfl (by kernel_rfl) (by kernel_rfl) (by kernel_rfl) (fun _ _ _ h => h) (Or.inl ⟨by rfl, ?_⟩) (by assumption) ?_
          rotate_left
          · (intro w hSw; (try dsimp only at hSw); go_simp; try with_reducible rfl)
          try simp only [Act.put, List.setIfInBounds_toArray, List.set_cons_zero, List.set_cons_succ]
          refine wpAnyH_take (i := 18) (oi := { dst := some 133, op := Op.move (Operand.tmp 2), type := 21, pos := "deep.go:35", after := #[{ on := 12, ground := Ground.guard }], guard := some (12, true) }) (v := ?_) rfl (by kernel_rfl) (by kernel_rfl) (by kernel_rfl) (fun _ _ _ h => h) (Or.inl ⟨by rfl, ?_⟩) (by assumption) ?_
          rotate_left
          · (intro w hSw; (try dsimp only at hSw); go_simp; try with_reducible rfl)
          try simp only [Act.put, List.setIfInBounds_toArray, List.set_cons_zero, List.set_cons_succ]
          refine wpAnyH_take (i := 19) (oi := { dst := some 134, op := Op.convert 21 2 (Operand.tmp 133), type := 2, pos := "deep.go:35", after := #[{ on := 18, ground := Ground.data }, { on := 12, ground := Ground.guard }], guard := some (12, true) }) (v := ?_) rfl (by kernel_rfl) (by kernel_rfl) (by kernel_rfl) (fun _ _ _ h => h) (Or.inl ⟨by rfl, ?_⟩) (by assumption) ?_
          rotate_left
          · (intro w hSw; (try dsimp only at hSw); go_simp; try with_reducible rfl)
          try simp only [Act.put, List.setIfInBounds_toArray, List.set_cons_zero, List.set_cons_succ]
          refine wpAnyH_take (i := 20) (oi := { dst := some 135, op := Op.move (Operand.tmp 8), type := 2, pos := "deep.go:35", after := #[{ on := 12, ground := Ground.guard }], guard := some (12, true) }) (v := ?_) rfl (by kernel_rfl) (by kernel_rfl) (by kernel_rfl) (fun _ _ _ h => h) (Or.inl ⟨by rfl, ?_⟩) (by assumption) ?_
          rotate_left
          · (intro w hSw; (try dsimp only at hSw); go_simp; try with_reducible rfl)
          try simp only [Act.put, List.setIfInBounds_toArray, List.set_cons_zero, List.set_cons_succ]
          refine wpAnyH_take (i := 21) (oi := { dst := some 136, op := Op.binOp BinOp.geq 2 (Operand.tmp 134) (Operand.tmp 135) 2, type := 4, pos := "deep.go:35", after := #[{ on := 19, ground := Ground.data }, { on := 20, ground := Ground.data }, { on := 12, ground := Ground.guard }], guard := some (12, true) }) (v := ?_) rfl (by kernel_rfl) (by kernel_rfl) (by kernel_rfl) (fun _ _ _ h => h) (Or.inl ⟨by rfl, ?_⟩) (by assumption) ?_
          rotate_left
          · (intro w hSw; (try dsimp only at hSw); go_simp; try with_reducible rfl)
          try simp only [Act.put, List.setIfInBounds_toArray, List.set_cons_zero, List.set_cons_succ]
          refine wpAnyH_ready (rs := [16]) (by kernel_rfl) (by simp) ?_
          refine AllReadyH.cons (o := { dst := some 131, op := Op.call { callee := Callee.value (Operand.func 8), args := #[Operand.tmp 130], argTypes := #[2] }, type := 28, pos := "deep.go:35", after := #[{ on := 15, ground := Ground.data }, { on := 12, ground := Ground.chain }, { on := 12, ground := Ground.guard }], guard := some (12, true) }) rfl (fun K hK => ?_) AllReadyH.nil
          refine step_want (by rfl) ?_
          go_simp
          refine (Try.nn (v) _).mono ?_
          rintro e w5 ⟨rfl, hb⟩
          unfold vN
          dsimp only
          have S5 : Hid (VS w5 w1.heap.size #[.int .i64 1, .int .i64 i, .int .i64 ((i : Int) - m), .int .i64 1, .int .i64 (L), .string ⟨#[]⟩, .complex .f64 0 0, .int .i64 1, .int .i64 (G), .string ⟨#[]⟩, .complex .f64 0 0, .complex .f64 0 0, .complex .f64 0 0]) := Lib.hid (VS.below (w := w4) (S4.out) ⟨hb.os, hb.tape, hb.output, hb.size, hb.block⟩)
          have BEL5 : Hid (Below w.heap.size w w5) := Lib.hid ((BEL4.out).trans (Below.mono (show Below w4.heap.size w4 w5 from ⟨hb.os, hb.tape, hb.output, hb.size, hb.block⟩) (BEL4.out).size))
          clear hb
          refine hK.out _ _ ?_ (fun hHeld => ?_)
          · exact (S5.out).cells13
          clear hK K
          try simp only [Act.put, List.setIfInBounds_toArray, List.set_cons_zero, List.set_cons_succ]
          refine wpAnyH_ready (rs := [17]) (by kernel_rfl) (by simp) ?_
          refine AllReadyH.cons (o := { dst := some 132, op := Op.call { callee := Callee.value (Operand.func 10), args := #[Operand.tmp 128, Operand.tmp 131], argTypes := #[33, 28] }, type := 4, pos := "deep.go:35", after := #[{ on := 13, ground := Ground.data }, { on := 16, ground := Ground.data }, { on := 16, ground := Ground.chain }, { on := 12, ground := Ground.guard }], guard := some (12, true) }) rfl (fun K hK => ?_) AllReadyH.nil
          refine step_want (by rfl) ?_
          go_simp
          refine (Try.hasN i ((i : Int) - m) (HNLT.out) L G v w5).mono ?_
          rintro e w6 ⟨rfl, hb⟩
          dsimp only
          have S6 : Hid (VS w6 w1.heap.size #[.int .i64 1, .int .i64 i, .int .i64 ((i : Int) - m), .int .i64 1, .int .i64 (L), .string ⟨#[]⟩, .complex .f64 0 0, .int .i64 1, .int .i64 (G), .string ⟨#[]⟩, .complex .f64 0 0, .complex .f64 0 0, .complex .f64 0 0]) := Lib.hid (VS.below (S5.out) hb)
          have BEL6 := Lib.hid ((BEL5.out).trans (hb.mono (BEL5.out).size))
          clear hb
          refine hK.out _ _ ?_ (fun hHeld => ?_)
          · exact (S6.out).cells13
          clear hK K
          try simp only [Act.put, List.setIfInBounds_toArray, List.set_cons_zero, List.set_cons_succ]
          refine wpAnyH_take (i := 22) (oi := { dst := some 137, op := Op.move (Operand.tmp 136), type := 4, pos := "deep.go:35", after := #[{ on := 21, ground := Ground.data }, { on := 17, ground := Ground.chain }, { on := 12, ground := Ground.guard }], guard := some (12, true) }) (v := ?_) rfl (by kernel_rfl) (by kernel_rfl) (by kernel_rfl) (fun _ _ _ h => h) (Or.inl ⟨by rfl, ?_⟩) (by assumption) ?_
          rotate_left
          · (intro w hSw; (try dsimp only at hSw); go_simp; try with_reducible rfl)
          try simp only [Act.put, List.setIfInBounds_toArray, List.set_cons_zero, List.set_cons_succ]
          refine wpAnyH_take (i := 23) (oi := { dst := some 138, op := Op.move (Operand.tmp 2), type := 21, pos := "deep.go:35", after := #[{ on := 22, ground := Ground.guard }], guard := some (22, true) }) (v := ?_) rfl (by kernel_rfl) (by kernel_rfl) (by kernel_rfl) (fun _ _ _ h => h) (Or.inl ⟨by rfl, ?_⟩) (by assumption) ?_
          rotate_left
          · (intro w hSw; (try dsimp only at hSw); go_simp; try with_reducible rfl)
          try simp only [Act.put, List.setIfInBounds_toArray, List.set_cons_zero, List.set_cons_succ]
          refine wpAnyH_take (i := 24) (oi := { dst := some 139, op := Op.convert 21 2 (Operand.tmp 138), type := 2, pos := "deep.go:35", after := #[{ on := 23, ground := Ground.data }, { on := 22, ground := Ground.guard }], guard := some (22, true) }) (v := ?_) rfl (by kernel_rfl) (by kernel_rfl) (by kernel_rfl) (fun _ _ _ h => h) (Or.inl ⟨by rfl, ?_⟩) (by assumption) ?_
          rotate_left
          · (intro w hSw; (try dsimp only at hSw); go_simp; try with_reducible rfl)
          try simp only [Act.put, List.setIfInBounds_toArray, List.set_cons_zero, List.set_cons_succ]
          refine wpAnyH_take (i := 25) (oi := { dst := some 140, op := Op.move (Operand.tmp 9), type := 2, pos := "deep.go:35", after := #[{ on := 22, ground := Ground.guard }], guard := some (22, true) }) (v := ?_) rfl (by kernel_rfl) (by kernel_rfl) (by kernel_rfl) (fun _ _ _ h => h) (Or.inl ⟨by rfl, ?_⟩) (by assumption) ?_
          rotate_left
          · (intro w hSw; (try dsimp only at hSw); go_simp; try with_reducible rfl)
          try simp only [Act.put, List.setIfInBounds_toArray, List.set_cons_zero, List.set_cons_succ]
          refine wpAnyH_take (i := 26) (oi := { dst := some 141, op := Op.binOp BinOp.leq 2 (Operand.tmp 139) (Operand.tmp 140) 2, type := 4, pos := "deep.go:35", after := #[{ on := 24, ground := Ground.data }, { on := 25, ground := Ground.data }, { on := 22, ground := Ground.guard }], guard := some (22, true) }) (v := ?_) rfl (by kernel_rfl) (by kernel_rfl) (by kernel_rfl) (fun _ _ _ h => h) (Or.inl ⟨by rfl, ?_⟩) (by assumption) ?_
          rotate_left
          · (intro w hSw; (try dsimp only at hSw); go_simp; try with_reducible rfl)
          try simp only [Act.put, List.setIfInBounds_toArray, List.set_cons_zero, List.set_cons_succ]
          refine wpAnyH_take (i := 27) (oi := { dst := some 142, op := Op.pick (Operand.tmp 137) (Operand.tmp 141) (Operand.const (Value.bool false)), type := 4, pos := "deep.go:35", after := #[{ on := 22, ground := Ground.data }, { on := 26, ground := Ground.data }, { on := 12, ground := Ground.guard }], guard := some (12, true) }) (v := ?_) rfl (by kernel_rfl) (by kernel_rfl) (by kernel_rfl) (fun _ _ _ h => h) (Or.inl ⟨by rfl, ?_⟩) (by assumption) ?_
          rotate_left
          · (intro w hSw; (try dsimp only at hSw); go_simp; try with_reducible rfl)
          try simp only [Act.put, List.setIfInBounds_toArray, List.set_cons_zero, List.set_cons_succ]
          refine wpAnyH_take (i := 28) (oi := { dst := some 143, op := Op.binOp BinOp.eql 4 (Operand.tmp 132) (Operand.tmp 142) 4, type := 4, pos := "deep.go:35", after := #[{ on := 17, ground := Ground.data }, { on := 27, ground := Ground.data }, { on := 12, ground := Ground.guard }], guard := some (12, true) }) (v := ?_) rfl (by kernel_rfl) (by kernel_rfl) (by kernel_rfl) (fun _ _ _ h => h) (Or.inl ⟨by rfl, ?_⟩) (by assumption) ?_
          rotate_left
          · (intro w hSw; (try dsimp only at hSw); go_simp; try with_reducible rfl)
          try simp only [Act.put, List.setIfInBounds_toArray, List.set_cons_zero, List.set_cons_succ]
          refine wpAnyH_take (i := 29) (oi := { dst := some 144, op := Op.pick (Operand.tmp 127) (Operand.tmp 143) (Operand.const (Value.bool false)), type := 4, pos := "deep.go:35", after := #[{ on := 12, ground := Ground.data }, { on := 28, ground := Ground.data }], guard := none }) (v := ?_) rfl (by kernel_rfl) (by kernel_rfl) (by kernel_rfl) (fun _ _ _ h => h) (Or.inl ⟨by rfl, ?_⟩) (by assumption) ?_
          rotate_left
          · (intro w hSw; (try dsimp only at hSw); go_simp; try with_reducible rfl)
          try simp only [Act.put, List.setIfInBounds_toArray, List.set_cons_zero, List.set_cons_succ]
          refine wpAnyH_take (i := 30) (oi := { dst := some 6, op := Op.assign (Operand.tmp 144), type := 4, pos := "deep.go:35", after := #[{ on := 29, ground := Ground.data }, { on := 22, ground := Ground.chain }, { on := 0, ground := Ground.phase }, { on := 1, ground := Ground.phase }, { on := 2, ground := Ground.phase }, { on := 3, ground := Ground.phase }, { on := 4, ground := Ground.phase }, { on := 5, ground := Ground.phase }, { on := 6, ground := Ground.phase }, { on := 7, ground := Ground.phase }, { on := 8, ground := Ground.phase }, { on := 9, ground := Ground.phase }, { on := 10, ground := Ground.phase }, { on := 11, ground := Ground.phase }, { on := 12, ground := Ground.phase }, { on := 13, ground := Ground.phase }, { on := 14, ground := Ground.phase }, { on := 15, ground := Ground.phase }, { on := 16, ground := Ground.phase }, { on := 17, ground := Ground.phase }, { on := 18, ground := Ground.phase }, { on := 19, ground := Ground.phase }, { on := 20, ground := Ground.phase }, { on := 21, ground := Ground.phase }, { on := 22, ground := Ground.phase }, { on := 23, ground := Ground.phase }, { on := 24, ground := Ground.phase }, { on := 25, ground := Ground.phase }, { on := 26, ground := Ground.phase }, { on := 27, ground := Ground.phase }, { on := 28, ground := Ground.phase }, { on := 29, ground := Ground.phase }], guard := none }) (v := ?_) rfl (by kernel_rfl) (by kernel_rfl) (by kernel_rfl) (fun _ _ _ h => h) (Or.inl ⟨by rfl, ?_⟩) (by assumption) ?_
          rotate_left
          · (intro w hSw; (try dsimp only at hSw); go_simp; try with_reducible rfl)
          try simp only [Act.put, List.setIfInBounds_toArray, List.set_cons_zero, List.set_cons_succ]
          refine wpAnyH_done (by kernel_rfl) ?_ _
          refine NoPanic.normal ?_
          go_wp2
          go_ret
          exact ⟨rfl, BEL6.out⟩
        · have dl : decide (L ≤ v) = false := by simpa using hL
          refine wp_region_noPanic ?_
          refine wp_region_held_drew (S := (fun W => W.cell? ⟨w1.heap.size, 0, none⟩ = some (.int .i64 1) ∧ W.cell? ⟨w1.heap.size, 1, none⟩ = some (.int .i64 i) ∧ W.cell? ⟨w1.heap.size, 2, none⟩ = some (.int .i64 ((i : Int) - m)) ∧ W.cell? ⟨w1.heap.size, 3, none⟩ = some (.int .i64 1) ∧ W.cell? ⟨w1.heap.size, 4, none⟩ = some (.int .i64 (L)) ∧ W.cell? ⟨w1.heap.size, 5, none⟩ = some (.string ⟨#[]⟩) ∧ W.cell? ⟨w1.heap.size, 6, none⟩ = some (.complex .f64 0 0) ∧ W.cell? ⟨w1.heap.size, 7, none⟩ = some (.int .i64 1) ∧ W.cell? ⟨w1.heap.size, 8, none⟩ = some (.int .i64 (G)) ∧ W.cell? ⟨w1.heap.size, 9, none⟩ = some (.string ⟨#[]⟩) ∧ W.cell? ⟨w1.heap.size, 10, none⟩ = some (.complex .f64 0 0) ∧ W.cell? ⟨w1.heap.size, 11, none⟩ = some (.complex .f64 0 0) ∧ W.cell? ⟨w1.heap.size, 12, none⟩ = some (.complex .f64 0 0))) (by kernel_rfl) ?_ (fun hHeld => ?_)
          · exact (VS.cells13 (w := w2) S2.out)
          refine wpAnyH_take (i := 0) (oi := { dst := some 115, op := Op.fieldAddr 33 (Operand.tmp 12) 3, type := 0, pos := "deep.go:35", after := #[], guard := none }) (v := ?_) rfl (by kernel_rfl) (by kernel_rfl) (by kernel_rfl) (fun _ _ _ h => h) (Or.inl ⟨by rfl, ?_⟩) (by assumption) ?_
          rotate_left
          · (intro w hSw; (try dsimp only at hSw); go_simp; try with_reducible rfl)
          try simp only [Act.put, List.setIfInBounds_toArray, List.set_cons_zero, List.set_cons_succ]
          refine wpAnyH_take (i := 1) (oi := { dst := some 116, op := Op.load 28 (Operand.tmp 115), type := 28, pos := "deep.go:35", after := #[{ on := 0, ground := Ground.data }], guard := none }) (v := ?_) rfl (by kernel_rfl) (by kernel_rfl) (by kernel_rfl) (fun _ _ _ h => h) (Or.inl ⟨by rfl, ?_⟩) (by assumption) ?_
          rotate_left
          · (intro w hSw; (try dsimp only at hSw); go_simp; try with_reducible rfl)
          try simp only [Act.put, List.setIfInBounds_toArray, List.set_cons_zero, List.set_cons_succ]
          refine wpAnyH_take (i := 2) (oi := { dst := some 117, op := Op.move (Operand.tmp 8), type := 2, pos := "deep.go:35", after := #[], guard := none }) (v := ?_) rfl (by kernel_rfl) (by kernel_rfl) (by kernel_rfl) (fun _ _ _ h => h) (Or.inl ⟨by rfl, ?_⟩) (by assumption) ?_
          rotate_left
          · (intro w hSw; (try dsimp only at hSw); go_simp; try with_reducible rfl)
          try simp only [Act.put, List.setIfInBounds_toArray, List.set_cons_zero, List.set_cons_succ]
          refine wpAnyH_ready (rs := [3]) (by kernel_rfl) (by simp) ?_
          refine AllReadyH.cons (o := { dst := some 118, op := Op.call { callee := Callee.value (Operand.func 8), args := #[Operand.tmp 117], argTypes := #[2] }, type := 28, pos := "deep.go:35", after := #[{ on := 2, ground := Ground.data }], guard := none }) rfl (fun K hK => ?_) AllReadyH.nil
          go_simp
          refine (Try.nn (L) _).mono ?_
          rintro e w3 ⟨rfl, hb⟩
          unfold vN
          dsimp only
          have S3 : Hid (VS w3 w1.heap.size #[.int .i64 1, .int .i64 i, .int .i64 ((i : Int) - m), .int .i64 1, .int .i64 (L), .string ⟨#[]⟩, .complex .f64 0 0, .int .i64 1, .int .i64 (G), .string ⟨#[]⟩, .complex .f64 0 0, .complex .f64 0 0, .complex .f64 0 0]) := Lib.hid (VS.below (w := w2) (S2.out) ⟨hb.os, hb.tape, hb.output, hb.size, hb.block⟩)
          have BEL3 : Hid (Below w.heap.size w w3) := Lib.hid ((BEL2.out).trans (Below.mono (show Below w2.heap.size w2 w3 from ⟨hb.os, hb.tape, hb.output, hb.size, hb.block⟩) (BEL2.out).size))
          clear hb
          refine hK.out _ _ ?_ (fun hHeld => ?_)
          · exact (S3.out).cells13
          clear hK K
          try simp only [Act.put, List.setIfInBounds_toArray, List.set_cons_zero, List.set_cons_succ]
          refine wpAnyH_take (i := 4) (oi := { dst := some 119, op := Op.binOp BinOp.eql 28 (Operand.tmp 116) (Operand.tmp 118) 28, type := 4, pos := "deep.go:35", after := #[{ on := 1, ground := Ground.data }, { on := 3, ground := Ground.data }], guard := none }) (v := ?_) rfl (by kernel_rfl) (by kernel_rfl) (by kernel_rfl) (fun _ _ _ h => h) (Or.inl ⟨by rfl, ?_⟩) (by assumption) ?_
          rotate_left
          · (intro w hSw; (try dsimp only at hSw); go_simp; try with_reducible rfl)
          try simp only [Act.put, List.setIfInBounds_toArray, List.set_cons_zero, List.set_cons_succ]
          refine wpAnyH_take (i := 5) (oi := { dst := some 120, op := Op.move (Operand.tmp 119), type := 4, pos := "deep.go:35", after := #[{ on := 4, ground := Ground.data }, { on := 3, ground := Ground.chain }], guard := none }) (v := ?_) rfl (by kernel_rfl) (by kernel_rfl) (by kernel_rfl) (fun _ _ _ h => h) (Or.inl ⟨by rfl, ?_⟩) (by assumption) ?_
          rotate_left
          · (intro w hSw; (try dsimp only at hSw); go_simp; try with_reducible rfl)
          try simp only [Act.put, List.setIfInBounds_toArray, List.set_cons_zero, List.set_cons_succ]
          refine wpAnyH_take (i := 6) (oi := { dst := some 121, op := Op.fieldAddr 33 (Operand.tmp 12) 4, type := 0, pos := "deep.go:35", after := #[{ on := 5, ground := Ground.guard }], guard := some (5, true) }) (v := ?_) rfl (by kernel_rfl) (by kernel_rfl) (by kernel_rfl) (fun _ _ _ h => h) (Or.inl ⟨by rfl, ?_⟩) (by assumption) ?_
          rotate_left
          · (intro w hSw; (try dsimp only at hSw); go_simp; try with_reducible rfl)
          try simp only [Act.put, List.setIfInBounds_toArray, List.set_cons_zero, List.set_cons_succ]
          refine wpAnyH_take (i := 7) (oi := { dst := some 122, op := Op.load 28 (Operand.tmp 121), type := 28, pos := "deep.go:35", after := #[{ on := 6, ground := Ground.data }, { on := 5, ground := Ground.guard }], guard := some (5, true) }) (v := ?_) rfl (by kernel_rfl) (by kernel_rfl) (by kernel_rfl) (fun _ _ _ h => h) (Or.inl ⟨by rfl, ?_⟩) (by assumption) ?_
          rotate_left
          · (intro w hSw; (try dsimp only at hSw); go_simp; try with_reducible rfl)
          try simp only [Act.put, List.setIfInBounds_toArray, List.set_cons_zero, List.set_cons_succ]
          refine wpAnyH_take (i := 8) (oi := { dst := some 123, op := Op.move (Operand.tmp 9), type := 2, pos := "deep.go:35", after := #[{ on := 5, ground := Ground.guard }], guard := some (5, true) }) (v := ?_) rfl (by kernel_rfl) (by kernel_rfl) (by kernel_rfl) (fun _ _ _ h => h) (Or.inl ⟨by rfl, ?_⟩) (by assumption) ?_
          rotate_left
          · (intro w hSw; (try dsimp only at hSw); go_simp; try with_reducible rfl)
          try simp only [Act.put, List.setIfInBounds_toArray, List.set_cons_zero, List.set_cons_succ]
          refine wpAnyH_ready (rs := [9]) (by kernel_rfl) (by simp) ?_
          refine AllReadyH.cons (o := { dst := some 124, op := Op.call { callee := Callee.value (Operand.func 8), args := #[Operand.tmp 123], argTypes := #[2] }, type := 28, pos := "deep.go:35", after := #[{ on := 8, ground := Ground.data }, { on := 5, ground := Ground.chain }, { on := 5, ground := Ground.guard }], guard := some (5, true) }) rfl (fun K hK => ?_) AllReadyH.nil
          refine step_want (by rfl) ?_
          go_simp
          refine (Try.nn (G) _).mono ?_
          rintro e w4 ⟨rfl, hb⟩
          unfold vN
          dsimp only
          have S4 : Hid (VS w4 w1.heap.size #[.int .i64 1, .int .i64 i, .int .i64 ((i : Int) - m), .int .i64 1, .int .i64 (L), .string ⟨#[]⟩, .complex .f64 0 0, .int .i64 1, .int .i64 (G), .string ⟨#[]⟩, .complex .f64 0 0, .complex .f64 0 0, .complex .f64 0 0]) := Lib.hid (VS.below (w := w3) (S3.out) ⟨hb.os, hb.tape, hb.output, hb.size, hb.block⟩)
          have BEL4 : Hid (Below w.heap.size w w4) := Lib.hid ((BEL3.out).trans (Below.mono (show Below w3.heap.size w3 w4 from ⟨hb.os, hb.tape, hb.output, hb.size, hb.block⟩) (BEL3.out).size))
          clear hb
          refine hK.out _ _ ?_ (fun hHeld => ?_)
          · exact (S4.out).cells13
          clear hK K
          try simp only [Act.put, List.setIfInBounds_toArray, List.set_cons_zero, List.set_cons_succ]
          refine wpAnyH_take (i := 10) (oi := { dst := some 125, op := Op.binOp BinOp.eql 28 (Operand.tmp 122) (Operand.tmp 124) 28, type := 4, pos := "deep.go:35", after := #[{ on := 7, ground := Ground.data }, { on := 9, ground := Ground.data }, { on := 5, ground := Ground.guard }], guard := some (5, true) }) (v := ?_) rfl (by kernel_rfl) (by kernel_rfl) (by kernel_rfl) (fun _ _ _ h => h) (Or.inl ⟨by rfl, ?_⟩) (by assumption) ?_
          rotate_left
          · (intro w hSw; (try dsimp only at hSw); go_simp; try with_reducible rfl)
          try simp only [Act.put, List.setIfInBounds_toArray, List.set_cons_zero, List.set_cons_succ]
          refine wpAnyH_take (i := 11) (oi := { dst := some 126, op := Op.pick (Operand.tmp 120) (Operand.tmp 125) (Operand.const (Value.bool false)), type := 4, pos := "deep.go:35", after := #[{ on := 5, ground := Ground.data }, { on := 10, ground := Ground.data }], guard := none }) (v := ?_) rfl (by kernel_rfl) (by kernel_rfl) (by kernel_rfl) (fun _ _ _ h => h) (Or.inl ⟨by rfl, ?_⟩) (by assumption) ?_
          rotate_left
          · (intro w hSw; (try dsimp only at hSw); go_simp; try with_reducible rfl)
          try simp only [Act.put, List.setIfInBounds_toArray, List.set_cons_zero, List.set_cons_succ]
          refine wpAnyH_take (i := 12) (oi := { dst := some 127, op := Op.move (Operand.tmp 126), type := 4, pos := "deep.go:35", after := #[{ on := 11, ground := Ground.data }, { on := 9, ground := Ground.chain }], guard := none }) (v := ?_) rfl (by kernel_rfl) (by kernel_rfl) (by kernel_rfl) (fun _ _ _ h => h) (Or.inl ⟨by rfl, ?_⟩) (by assumption) ?_
          rotate_left
          · (intro w hSw; (try dsimp only at hSw); go_simp; try with_reducible rfl)
          try simp only [Act.put, List.setIfInBounds_toArray, List.set_cons_zero, List.set_cons_succ]
          refine wpAnyH_take (i := 13) (oi := { dst := some 128, op := Op.load 33 (Operand.tmp 12), type := 33, pos := "deep.go:35", after := #[{ on := 12, ground := Ground.guard }], guard := some (12, true) }) (v := ?_) rfl (by kernel_rfl) (by kernel_rfl) (by kernel_rfl) (fun _ _ _ h => h) (Or.inl ⟨by rfl, ?_⟩) (by assumption) ?_
          rotate_left
          · (intro w hSw; (try dsimp only at hSw); go_simp; try with_reducible rfl)
          try simp only [Act.put, List.setIfInBounds_toArray, List.set_cons_zero, List.set_cons_succ]
          refine wpAnyH_take (i := 14) (oi := { dst := some 129, op := Op.move (Operand.tmp 2), type := 21, pos := "deep.go:35", after := #[{ on := 12, ground := Ground.guard }], guard := some (12, true) }) (v := ?_) rfl (by kernel_rfl) (by kernel_rfl) (by kernel_rfl) (fun _ _ _ h => h) (Or.inl ⟨by rfl, ?_⟩) (by assumption) ?_
          rotate_left
          · (intro w hSw; (try dsimp only at hSw); go_simp; try with_reducible rfl)
          try simp only [Act.put, List.setIfInBounds_toArray, List.set_cons_zero, List.set_cons_succ]
          refine wpAnyH_take (i := 15) (oi := { dst := some 130, op := Op.convert 21 2 (Operand.tmp 129), type := 2, pos := "deep.go:35", after := #[{ on := 14, ground := Ground.data }, { on := 12, ground := Ground.guard }], guard := some (12, true) }) (v := ?_) rfl (by kernel_rfl) (by kernel_rfl) (by kernel_rfl) (fun _ _ _ h => h) (Or.inl ⟨by rfl, ?_⟩) (by assumption) ?_
          rotate_left
          · (intro w hSw; (try dsimp only at hSw); go_simp; try with_reducible rfl)
          try simp only [Act.put, List.setIfInBounds_toArray, List.set_cons_zero, List.set_cons_succ]
          refine wpAnyH_take (i := 18) (oi := { dst := some 133, op := Op.move (Operand.tmp 2), type := 21, pos := "deep.go:35", after := #[{ on := 12, ground := Ground.guard }], guard := some (12, true) }) (v := ?_) rfl (by kernel_rfl) (by kernel_rfl) (by kernel_rfl) (fun _ _ _ h => h) (Or.inl ⟨by rfl, ?_⟩) (by assumption) ?_
          rotate_left
          · (intro w hSw; (try dsimp only at hSw); go_simp; try with_reducible rfl)
          try simp only [Act.put, List.setIfInBounds_toArray, List.set_cons_zero, List.set_cons_succ]
          refine wpAnyH_take (i := 19) (oi := { dst := some 134, op := Op.convert 21 2 (Operand.tmp 133), type := 2, pos := "deep.go:35", after := #[{ on := 18, ground := Ground.data }, { on := 12, ground := Ground.guard }], guard := some (12, true) }) (v := ?_) rfl (by kernel_rfl) (by kernel_rfl) (by kernel_rfl) (fun _ _ _ h => h) (Or.inl ⟨by rfl, ?_⟩) (by assumption) ?_
          rotate_left
          · (intro w hSw; (try dsimp only at hSw); go_simp; try with_reducible rfl)
          try simp only [Act.put, List.setIfInBounds_toArray, List.set_cons_zero, List.set_cons_succ]
          refine wpAnyH_take (i := 20) (oi := { dst := some 135, op := Op.move (Operand.tmp 8), type := 2, pos := "deep.go:35", after := #[{ on := 12, ground := Ground.guard }], guard := some (12, true) }) (v := ?_) rfl (by kernel_rfl) (by kernel_rfl) (by kernel_rfl) (fun _ _ _ h => h) (Or.inl ⟨by rfl, ?_⟩) (by assumption) ?_
          rotate_left
          · (intro w hSw; (try dsimp only at hSw); go_simp; try with_reducible rfl)
          try simp only [Act.put, List.setIfInBounds_toArray, List.set_cons_zero, List.set_cons_succ]
          refine wpAnyH_take (i := 21) (oi := { dst := some 136, op := Op.binOp BinOp.geq 2 (Operand.tmp 134) (Operand.tmp 135) 2, type := 4, pos := "deep.go:35", after := #[{ on := 19, ground := Ground.data }, { on := 20, ground := Ground.data }, { on := 12, ground := Ground.guard }], guard := some (12, true) }) (v := ?_) rfl (by kernel_rfl) (by kernel_rfl) (by kernel_rfl) (fun _ _ _ h => h) (Or.inl ⟨by rfl, ?_⟩) (by assumption) ?_
          rotate_left
          · (intro w hSw; (try dsimp only at hSw); go_simp; try with_reducible rfl)
          try simp only [Act.put, List.setIfInBounds_toArray, List.set_cons_zero, List.set_cons_succ]
          refine wpAnyH_ready (rs := [16]) (by kernel_rfl) (by simp) ?_
          refine AllReadyH.cons (o := { dst := some 131, op := Op.call { callee := Callee.value (Operand.func 8), args := #[Operand.tmp 130], argTypes := #[2] }, type := 28, pos := "deep.go:35", after := #[{ on := 15, ground := Ground.data }, { on := 12, ground := Ground.chain }, { on := 12, ground := Ground.guard }], guard := some (12, true) }) rfl (fun K hK => ?_) AllReadyH.nil
          refine step_want (by rfl) ?_
          go_simp
          refine (Try.nn (v) _).mono ?_
          rintro e w5 ⟨rfl, hb⟩
          unfold vN
          dsimp only
          have S5 : Hid (VS w5 w1.heap.size #[.int .i64 1, .int .i64 i, .int .i64 ((i : Int) - m), .int .i64 1, .int .i64 (L), .string ⟨#[]⟩, .complex .f64 0 0, .int .i64 1, .int .i64 (G), .string ⟨#[]⟩, .complex .f64 0 0, .complex .f64 0 0, .complex .f64 0 0]) := Lib.hid (VS.below (w := w4) (S4.out) ⟨hb.os, hb.tape, hb.output, hb.size, hb.block⟩)
          have BEL5 : Hid (Below w.heap.size w w5) := Lib.hid ((BEL4.out).trans (Below.mono (show Below w4.heap.size w4 w5 from ⟨hb.os, hb.tape, hb.output, hb.size, hb.block⟩) (BEL4.out).size))
          clear hb
          refine hK.out _ _ ?_ (fun hHeld => ?_)
          · exact (S5.out).cells13
          clear hK K
          try simp only [Act.put, List.setIfInBounds_toArray, List.set_cons_zero, List.set_cons_succ]
          refine wpAnyH_ready (rs := [17]) (by kernel_rfl) (by simp) ?_
          refine AllReadyH.cons (o := { dst := some 132, op := Op.call { callee := Callee.value (Operand.func 10), args := #[Operand.tmp 128, Operand.tmp 131], argTypes := #[33, 28] }, type := 4, pos := "deep.go:35", after := #[{ on := 13, ground := Ground.data }, { on := 16, ground := Ground.data }, { on := 16, ground := Ground.chain }, { on := 12, ground := Ground.guard }], guard := some (12, true) }) rfl (fun K hK => ?_) AllReadyH.nil
          refine step_want (by rfl) ?_
          go_simp
          refine (Try.hasN i ((i : Int) - m) (HNLT.out) L G v w5).mono ?_
          rintro e w6 ⟨rfl, hb⟩
          dsimp only
          have S6 : Hid (VS w6 w1.heap.size #[.int .i64 1, .int .i64 i, .int .i64 ((i : Int) - m), .int .i64 1, .int .i64 (L), .string ⟨#[]⟩, .complex .f64 0 0, .int .i64 1, .int .i64 (G), .string ⟨#[]⟩, .complex .f64 0 0, .complex .f64 0 0, .complex .f64 0 0]) := Lib.hid (VS.below (S5.out) hb)
          have BEL6 := Lib.hid ((BEL5.out).trans (hb.mono (BEL5.out).size))
          clear hb
          refine hK.out _ _ ?_ (fun hHeld => ?_)
          · exact (S6.out).cells13
          clear hK K
          try simp only [Act.put, List.setIfInBounds_toArray, List.set_cons_zero, List.set_cons_succ]
          refine wpAnyH_take (i := 22) (oi := { dst := some 137, op := Op.move (Operand.tmp 136), type := 4, pos := "deep.go:35", after := #[{ on := 21, ground := Ground.data }, { on := 17, ground := Ground.chain }, { on := 12, ground := Ground.guard }], guard := some (12, true) }) (v := ?_) rfl (by kernel_rfl) (by kernel_rfl) (by kernel_rfl) (fun _ _ _ h => h) (Or.inl ⟨by rfl, ?_⟩) (by assumption) ?_
          rotate_left
          · (intro w hSw; (try dsimp only at hSw); go_simp; try with_reducible rfl)
          try simp only [Act.put, List.setIfInBounds_toArray, List.set_cons_zero, List.set_cons_succ]
          refine wpAnyH_take (i := 23) (oi := { dst := some 138, op := Op.move (Operand.tmp 2), type := 21, pos := "deep.go:35", after := #[{ on := 22, ground := Ground.guard }], guard := some (22, true) }) (v := undef) rfl (by kernel_rfl) (by kernel_rfl) (by kernel_rfl) (fun _ _ _ h => h) (Or.inr ⟨by rfl, rfl⟩) (by assumption) ?_
          try simp only [Act.put, List.setIfInBounds_toArray, List.set_cons_zero, List.set_cons_succ]
          refine wpAnyH_take (i := 24) (oi := { dst := some 139, op := Op.convert 21 2 (Operand.tmp 138), type := 2, pos := "deep.go:35", after := #[{ on := 23, ground := Ground.data }, { on := 22, ground := Ground.guard }], guard := some (22, true) }) (v := undef) rfl (by kernel_rfl) (by kernel_rfl) (by kernel_rfl) (fun _ _ _ h => h) (Or.inr ⟨by rfl, rfl⟩) (by assumption) ?_
          try simp only [Act.put, List.setIfInBounds_toArray, List.set_cons_zero, List.set_cons_succ]
          refine wpAnyH_take (i := 25) (oi := { dst := some 140, op := Op.move (Operand.tmp 9), type := 2, pos := "deep.go:35", after := #[{ on := 22, ground := Ground.guard }], guard := some (22, true) }) (v := undef) rfl (by kernel_rfl) (by kernel_rfl) (by kernel_rfl) (fun _ _ _ h => h) (Or.inr ⟨by rfl, rfl⟩) (by assumption) ?_
          try simp only [Act.put, List.setIfInBounds_toArray, List.set_cons_zero, List.set_cons_succ]
          refine wpAnyH_take (i := 26) (oi := { dst := some 141, op := Op.binOp BinOp.leq 2 (Operand.tmp 139) (Operand.tmp 140) 2, type := 4, pos := "deep.go:35", after := #[{ on := 24, ground := Ground.data }, { on := 25, ground := Ground.data }, { on := 22, ground := Ground.guard }], guard := some (22, true) }) (v := undef) rfl (by kernel_rfl) (by kernel_rfl) (by kernel_rfl) (fun _ _ _ h => h) (Or.inr ⟨by rfl, rfl⟩) (by assumption) ?_
          try simp only [Act.put, List.setIfInBounds_toArray, List.set_cons_zero, List.set_cons_succ]
          refine wpAnyH_take (i := 27) (oi := { dst := some 142, op := Op.pick (Operand.tmp 137) (Operand.tmp 141) (Operand.const (Value.bool false)), type := 4, pos := "deep.go:35", after := #[{ on := 22, ground := Ground.data }, { on := 26, ground := Ground.data }, { on := 12, ground := Ground.guard }], guard := some (12, true) }) (v := ?_) rfl (by kernel_rfl) (by kernel_rfl) (by kernel_rfl) (fun _ _ _ h => h) (Or.inl ⟨by rfl, ?_⟩) (by assumption) ?_
          rotate_left
          · (intro w hSw; (try dsimp only at hSw); go_simp; try with_reducible rfl)
          try simp only [Act.put, List.setIfInBounds_toArray, List.set_cons_zero, List.set_cons_succ]
          refine wpAnyH_take (i := 28) (oi := { dst := some 143, op := Op.binOp BinOp.eql 4 (Operand.tmp 132) (Operand.tmp 142) 4, type := 4, pos := "deep.go:35", after := #[{ on := 17, ground := Ground.data }, { on := 27, ground := Ground.data }, { on := 12, ground := Ground.guard }], guard := some (12, true) }) (v := ?_) rfl (by kernel_rfl) (by kernel_rfl) (by kernel_rfl) (fun _ _ _ h => h) (Or.inl ⟨by rfl, ?_⟩) (by assumption) ?_
          rotate_left
          · (intro w hSw; (try dsimp only at hSw); go_simp; try with_reducible rfl)
          try simp only [Act.put, List.setIfInBounds_toArray, List.set_cons_zero, List.set_cons_succ]
          refine wpAnyH_take (i := 29) (oi := { dst := some 144, op := Op.pick (Operand.tmp 127) (Operand.tmp 143) (Operand.const (Value.bool false)), type := 4, pos := "deep.go:35", after := #[{ on := 12, ground := Ground.data }, { on := 28, ground := Ground.data }], guard := none }) (v := ?_) rfl (by kernel_rfl) (by kernel_rfl) (by kernel_rfl) (fun _ _ _ h => h) (Or.inl ⟨by rfl, ?_⟩) (by assumption) ?_
          rotate_left
          · (intro w hSw; (try dsimp only at hSw); go_simp; try with_reducible rfl)
          try simp only [Act.put, List.setIfInBounds_toArray, List.set_cons_zero, List.set_cons_succ]
          refine wpAnyH_take (i := 30) (oi := { dst := some 6, op := Op.assign (Operand.tmp 144), type := 4, pos := "deep.go:35", after := #[{ on := 29, ground := Ground.data }, { on := 22, ground := Ground.chain }, { on := 0, ground := Ground.phase }, { on := 1, ground := Ground.phase }, { on := 2, ground := Ground.phase }, { on := 3, ground := Ground.phase }, { on := 4, ground := Ground.phase }, { on := 5, ground := Ground.phase }, { on := 6, ground := Ground.phase }, { on := 7, ground := Ground.phase }, { on := 8, ground := Ground.phase }, { on := 9, ground := Ground.phase }, { on := 10, ground := Ground.phase }, { on := 11, ground := Ground.phase }, { on := 12, ground := Ground.phase }, { on := 13, ground := Ground.phase }, { on := 14, ground := Ground.phase }, { on := 15, ground := Ground.phase }, { on := 16, ground := Ground.phase }, { on := 17, ground := Ground.phase }, { on := 18, ground := Ground.phase }, { on := 19, ground := Ground.phase }, { on := 20, ground := Ground.phase }, { on := 21, ground := Ground.phase }, { on := 22, ground := Ground.phase }, { on := 23, ground := Ground.phase }, { on := 24, ground := Ground.phase }, { on := 25, ground := Ground.phase }, { on := 26, ground := Ground.phase }, { on := 27, ground := Ground.phase }, { on := 28, ground := Ground.phase }, { on := 29, ground := Ground.phase }], guard := none }) (v := ?_) rfl (by kernel_rfl) (by kernel_rfl) (by kernel_rfl) (fun _ _ _ h => h) (Or.inl ⟨by rfl, ?_⟩) (by assumption) ?_
          rotate_left
          · (intro w hSw; (try dsimp only at hSw); go_simp; try with_reducible rfl)
          try simp only [Act.put, List.setIfInBounds_toArray, List.set_cons_zero, List.set_cons_succ]
          refine wpAnyH_done (by kernel_rfl) ?_ _
          refine NoPanic.normal ?_
          go_wp2
          go_ret
          exact ⟨rfl, BEL6.out⟩
end Go.Proofs
end

section
namespace Go.Proofs
open Go.RowKit
set_option maxRecDepth 100000
theorem Try.numbers_cut (w : World) (A B2 : Option Addr) (n c n2 c2 : Nat) (v : Value) (h : 60 < n ∨ n2 < n) : Calls Try.prog 3 #[.slice A n c, .slice B2 n2 c2, v] w (YesV w) := by
  by_cases h1 : 60 < n
  · have hd : decide (60 < (n : Int)) = true := by simp; omega
    have hd' : decide (60 < n) = true := by simp; omega
    clear h
    go_enter Try.func3, Try.ntmps3
    go_wp2_with fail
    refine (Try.known7 _).mono ?_
    rintro e w1 ⟨rfl, hb1⟩
    have HB := Lib.hid hb1
    clear hb1
    go_wp2_with fail
    go_ret
    exact ⟨rfl, HB.out⟩
  · have hd : decide (60 < (n : Int)) = false := by simp; omega
    have hd' : decide (60 < n) = false := by simp; omega
    have hd2 : decide ((n2 : Int) < (n : Int)) = true := by simp; omega
    have hd2' : decide (n2 < n) = true := by simp; omega
    clear h
    go_enter Try.func3, Try.ntmps3
    go_wp2_with fail
    refine (Try.known7 _).mono ?_
    rintro e w1 ⟨rfl, hb1⟩
    have HB := Lib.hid hb1
    clear hb1
    go_wp2_with fail
    go_ret
    exact ⟨rfl, HB.out⟩
theorem wf_i32 {n : Int} (h : (Lit.int .i32 n).wf = true) : -2147483648 ≤ n ∧ n ≤ 2147483647 := by
  simp [Lit.wf, IntKind.min, IntKind.max, IntKind.bits, IntKind.signed] at h
  omega
theorem Try.numbers_all (w : World) (A : Option Addr) (n c : Nat) (zs : List Int) (B2 : Option Addr) (n2 c2 : Nat) (b : Nat → Bool) (v : Int) (w0 : IsRow .i32 w A n c zs) (w1 : IsBits w B2 n2 c2 b) (w2 : (Lit.int .i32 v).wf = true) :
    Calls Try.prog 3 #[.slice A n c, .slice B2 n2 c2, .int .i32 v] w (YesV w) := by
  by_cases h : 60 < n ∨ n2 < n
  · exact Try.numbers_cut w A B2 n c n2 c2 _ h
  · have hcc : n2 ≤ c2 ∧ c2 ≤ maxLen := by
      rcases w1 with ⟨_, rfl, rfl⟩ | ⟨x, _, p, q, _⟩
      · exact ⟨Nat.le_refl _, by decide⟩
      · exact ⟨p, q⟩
    refine Try.numbers w A B2 n c n2 c2 (fun j => if j < n then zs.getD j 0 else 0) b v (fun j => ?_) (wf_i32 w2) (by omega) (by omega) hcc.1 hcc.2 (fun j hj => ?_) (fun j hj => ?_)
    · skip
      split
      · rcases w0 with ⟨_, rfl, _⟩ | ⟨x, _, p, q, hl, _, hw⟩
        · omega
        · have hj : j < zs.length := by omega
          have := wf_i32 (hw (zs.getD j 0) (by rw [List.getD_eq_getElem?_getD, List.getElem?_eq_getElem hj]; exact List.getElem_mem _))
          exact this
      · omega
    · skip
      rw [if_pos hj]
      rcases w0 with ⟨_, rfl, _⟩ | ⟨x, rfl, p, q, hl, hc, hw⟩
      · omega
      · exact ⟨x, rfl, hc j (by omega)⟩
    · rcases w1 with ⟨_, rfl, _⟩ | ⟨x, rfl, p, q, hc⟩
      · omega
      · exact ⟨x, rfl, hc j (by omega)⟩
end Go.Proofs
end
