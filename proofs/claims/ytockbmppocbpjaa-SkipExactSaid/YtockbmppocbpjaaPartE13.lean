/-
  Texts of a proof over the translated program: proved evaluators and walks, part 13 of 13.
-/
import Derived.Test.YtockbmppocbpjaaPartE12
import Derived.Below
import Derived.Deep.CutBlock
import Derived.Deep.Grids
import Derived.Deep.RegionHeld3
import Derived.Deep.RegionWith
import Derived.Great.BuildSlice
import Derived.Handy
import Derived.IntWalk
import Derived.Laws.Cells
import Derived.Laws.CopyRow
import Derived.Laws.IdiomStrings
import Derived.Laws.StructEq
import Derived.Lib.Hide
import Derived.LoopTactic
import Derived.MapKept
import Derived.Orders
import Derived.Outline
import Derived.OwnWalk
import Derived.Scope
import Derived.ScopeJumps
import Derived.Test.YtockbmppocbpjaaProg
import Derived.WalkKit
import Derived.WalkMore
import Derived.WalkSpells
set_option linter.unusedVariables false
set_option linter.unusedSimpArgs false
set_option linter.unusedSectionVars false
set_option linter.unnecessarySimpa false
section
namespace Go.Proofs
open Go.RowKit
set_option maxRecDepth 100000
def IsRow (k : IntKind) (w : World) (a : Option Addr) (len cap : Nat) (zs : List Int) : Prop :=
  (a = none ∧ len = 0 ∧ cap = 0 ∧ zs = []) ∨
  ∃ x, a = some x ∧ len ≤ cap ∧ cap ≤ maxLen ∧ zs.length = cap ∧ (∀ i, i < zs.length → w.cell? (x.add i) = some (.int k (zs.getD i 0))) ∧ ∀ n ∈ zs, (Lit.int k n).wf = true
def IsBits (w : World) (a : Option Addr) (len cap : Nat) (B : Nat → Bool) : Prop :=
  (a = none ∧ len = 0 ∧ cap = 0) ∨ ∃ x, a = some x ∧ len ≤ cap ∧ cap ≤ maxLen ∧ ∀ i, i < cap → w.cell? (x.add i) = some (.bool (B i))
def YesV (w : World) (e : Ending) (w' : World) : Prop := e = .returned (.bool true) ∧ Below w.heap.size w w'
def lo0 (zs : List Int) : Int := zs.foldl min 1099511627776
def hi0 (zs : List Int) : Int := zs.foldl max (-1099511627776)
end Go.Proofs
end

section
namespace Go.Proofs
open Go.RowKit
set_option maxRecDepth 100000
theorem seqQ_succ (fr : Int) (i : Nat) : seqQ fr (i + 1) = seqQ fr i ++ [(1, fr + (i : Int))] := by
  unfold seqQ
  rw [List.range_succ, List.map_append]
  rfl
theorem seqQ_len (fr : Int) (i : Nat) : (seqQ fr i).length = i := by simp [seqQ]
structure ERel (w : World) (fr : Int) (i : Nat) (v : Value) (wr : World) : Prop where
  own : VO wr w.heap.size v i (seqQ fr i)
  bel : Below w.heap.size w wr
theorem ERel.next {w wr wb w2 : World} {fr : Int} {i : Nat} {v v' : Value} (h : ERel w fr i v wr) (hb : Below wr.heap.size wr wb) (hown : w2.ownsRow w.heap.size 28 4 v' (i + 1) (flat (seqQ fr i) ++ vc (1, fr + (i : Int)))) (hg : wb.grownBy w2 v.ownBlock) : ERel w fr (i + 1) v' w2 := by
  have hb2 := h.bel.trans (hb.mono h.bel.size)
  refine ⟨?_, hb2.grown hg hb2.size (fun k hk => (ownB h.own k hk).1)⟩
  unfold VO
  rw [seqQ_succ, flat_snoc]
  exact hown
structure EFacts (oo v fr H rows nl : Int) (m : Nat) (vals : List (Int × Int)) : Prop where
  num : ∀ q ∈ vals, NumV q
  len : vals.length = m
  m64 : m ≤ 64
  ex : obits oo v (witsOf nl fr H v) = obits oo v vals
  ne : rows ≠ nl
  one : 1 ≤ rows
theorem efacts (oo v fr : Int) (k : Nat) (nb : Bool) (hk : 1 ≤ k) (hk40 : k ≤ 40) : EFacts oo v fr (fr + k - 1) ((k + (if nb then 1 else 0) : Nat) : Int) (if nb then 1 else 0) (k + (if nb then 1 else 0)) (valsOf fr k nb) := by
  refine ⟨?_, ?_, ?_, exact_bits oo v fr k nb hk, ?_, ?_⟩
  · intro q hq
    unfold valsOf seqQ at hq
    rw [List.mem_append] at hq
    rcases hq with hq | hq
    · obtain ⟨i, _, rfl⟩ := List.mem_map.1 hq
      exact .inl rfl
    · cases nb
      · simp at hq
      · simp at hq; subst hq; exact .inr rfl
  · unfold valsOf
    rw [List.length_append, seqQ_len]
    cases nb <;> rfl
  · cases nb <;> simp <;> omega
  · cases nb <;> simp <;> omega
  · cases nb <;> simp <;> omega
set_option maxHeartbeats 8000000 in
theorem Try.exact (w : World) (fr : Int) (hfr : -128 ≤ fr ∧ fr ≤ 127) (s : Nat) (v : Int) (hv : -128 ≤ v ∧ v ≤ 127) (o : Nat) (nb : Bool) :
    Calls Try.prog 5 #[.int .i8 fr, .int .u8 s, .int .i8 v, .int .u8 o, .bool nb] w (YesV w) := by
  have x1 : (s : Int) % 40 = ((s % 40 : Nat) : Int) := by omega
  obtain ⟨q, hq⟩ : ∃ q, s % 40 = q := ⟨_, rfl⟩
  rw [hq] at x1
  obtain ⟨k, hk⟩ : ∃ k, 1 + q = k := ⟨_, rfl⟩
  have u1 : (1 : Int) + (q : Int) = (k : Int) := by omega
  have x2 : (o : Int) % 6 = ((o % 6 : Nat) : Int) := by omega
  obtain ⟨q2, hq2⟩ : ∃ q, o % 6 = q := ⟨_, rfl⟩
  rw [hq2] at x2
  obtain ⟨oo, hoo⟩ : ∃ oo : Int, (1 : Int) + (q2 : Int) = oo := ⟨_, rfl⟩
  have hk1 : 1 ≤ k := by omega
  have hk40 : k ≤ 40 := by omega
  have HOO := Lib.hid (show 1 ≤ oo ∧ oo ≤ 6 by omega)
  have hcf : IntKind.i64.wrap fr = fr := by rw [IntKind.wrap_i64]; omega
  have hcf' : wrap64 fr = fr := by unfold wrap64; omega
  have hcv : IntKind.i64.wrap v = v := by rw [IntKind.wrap_i64]; omega
  have hcv' : wrap64 v = v := by unfold wrap64; omega
  have HK := Lib.hid (efacts oo v fr k nb hk1 hk40)
  have HS := Lib.hid (seq_stat fr k nb hk1)
  have HFR := Lib.hid hfr
  have hsc := storeC
  obtain ⟨i0, hi, hz0, hz1, hz2⟩ := infoV
  have I1 := Lib.hid hi
  have I2 := Lib.hid hz0
  have I3 := Lib.hid hz1
  have I4 := Lib.hid hz2
  clear hi hz0 hz1 hz2 hq hq2 hk hfr hv
  go_enter Try.func5, Try.ntmps5
  go_wp2_with fail
  refine (Try.known14 _).mono ?_
  rintro e w1 ⟨rfl, hb1⟩
  have H0 : Hid (ERel w fr 0 (.slice none 0 0) w1) := Lib.hid ⟨World.ownsRow_nil _ _ _ _, hb1⟩
  clear hb1
  go_wp2
  clear x1 u1
  go_loopw [12, 13] (fun c t wr => ∃ i : Nat, i ≤ k ∧ t = .int .i64 i ∧ ERel w fr i c wr) (fun _ t _ => k - (intOf t).toNat)
  case atStart => exact ⟨0, Nat.zero_le _, rfl, H0.out⟩
  case round =>
    obtain ⟨i, hi, rfl, hr⟩ := hrel
    have HR := Lib.hid hr
    clear hr
    by_cases hlt : i < k
    · have hD : decide ((i : Int) < k) = true := by simpa using hlt
      have hw64 : wrap64 (fr + (i : Int)) = fr + (i : Int) := by have := HFR.out; unfold wrap64; omega
      have hw64' : IntKind.i64.wrap (fr + (i : Int)) = fr + (i : Int) := by have := HFR.out; rw [IntKind.wrap_i64]; omega
      have hrow := (HR.out).own
      go_wp2_with fail
      refine (Try.nn (fr + (i : Int)) wr).mono ?_
      rintro e w2 ⟨rfl, hb2⟩
      unfold vN
      have hB2 := hb2.alloc hb2.size (.cells #[.int .i64 1, .int .i64 (fr + (i : Int)), .string ⟨#[]⟩, .complex .f64 0 0] 28)
      have hwa := own_below hrow hB2
      have hall := (vh_alloc w2 (1, fr + (i : Int))).all
      have HB2 := Lib.hid hB2
      clear hB2 hrow hb2 hw64 hw64'
      go_wp2_with (at_builtin; refine wpList_append_own _ rfl (.tmp 31) (.tmp 37) 25 rfl w.heap.size 28 i0 (.agg #[.int .i64 0, .int .i64 0, .string ⟨#[]⟩, .complex .f64 0 0]) 4 48 Try.underlying25 I1.out I2.out I3.out I4.out rfl (by decide) _ _ _ rfl hwa _ _ _ (vc (1, fr + (i : Int))) rfl rfl hall (vc_one _) ?a1 ?a2 ?a3 ?a4)
      case a1 => unfold maxLen; omega
      case a2 => omega
      case a3 => have := (HR.out).bel.size; have h2 := (HB2.out).size; simp at h2 ⊢; omega
      case a4 =>
        intro v' w3 hown1 hg hne
        have HN := Lib.hid ((HR.out).next HB2.out hown1 hg)
        clear hown1 hg hne hwa hall
        go_wp2_with fail
        go_roundw
        case rel => first | exact ⟨i + 1, hlt, rfl, HN.out⟩ | ((repeat apply Exists.intro); exact ⟨⟨i + 1, hlt, rfl, HN.out⟩, rfl⟩)
        case measure => simp [intOf]; omega
    · obtain rfl : i = k := by omega
      have hD : decide ((i : Int) < i) = false := by simp
      clear H0
      cases nb with
      | false =>
        have hown : VO wr w.heap.size u12 (i + (if false = true then 1 else 0)) (valsOf fr i false) := by
          have := (HR.out).own
          unfold valsOf
          simpa using this
        have HOWN := Lib.hid hown
        have BEL := Lib.hid (HR.out).bel
        clear hown HR
        obtain ⟨rows, nl, H, m, os, HK2, HS2, hlen, hown⟩ : ∃ (rows nl H : Int) (m : Nat) (os : List (Option Int)), EFacts oo v fr H rows nl m (os.map qo) ∧ statA os = statCells rows nl (1, fr) (1, H) ∧ os.length = m ∧ VO wr w.heap.size u12 m (os.map qo) := by
          refine ⟨((i + 0 : Nat) : Int), 0, fr + i - 1, i + 0, osS fr i false, ?_, ?_, ?_, ?_⟩
          · rw [osS_map]; exact HK.out
          · exact HS.out
          · exact osS_len fr i false
          · rw [osS_map]; exact HOWN.out
        clear HOWN HK HS
        obtain ⟨g, cap, rfl, hg1, hat⟩ : ∃ g cap, u12 = .slice (some ⟨g, 0, none⟩) m cap ∧ w.heap.size ≤ g ∧ VAt wr g m cap (os.map qo) := by
          rcases hown.at with ⟨_, hm0⟩ | hq
          · exfalso
            have := HK2.one
            have h2 := HK2.ne
            have h3 := HK2.len
            rw [List.length_map, hlen] at h3
            subst hm0
            have := List.eq_nil_of_length_eq_zero hlen
            subst this
            have hw := congrArg (fun (c : Array Value) => c[1]?) HS2
            simp [statA, statCells] at hw
            omega
          · exact hq
        have HK := Lib.hid HK2
        have HS := Lib.hid HS2
        have HAT := Lib.hid hat
        have HLEN := Lib.hid hlen
        clear HK2 HS2 hat hlen hown
        go_wp2_with fail
        refine (Try.statOf HAT.out HLEN.out (HK.out).m64).mono ?_
        rintro e w4 ⟨rfl, hb4⟩
        rw [HS.out]
        unfold statCells
        have HAT4 := Lib.hid ((HAT.out).below hb4)
        have BEL4 := Lib.hid ((BEL.out).trans (hb4.mono (BEL.out).size))
        clear hb4 HAT BEL HS
        have hS := Lib.hid (alloc_here w4 (.cells #[.int .i64 1, .int .i64 rows, .int .i64 nl, .int .i64 1, .int .i64 fr, .string ⟨#[]⟩, .complex .f64 0 0, .int .i64 1, .int .i64 H, .string ⟨#[]⟩, .complex .f64 0 0, .complex .f64 0 0, .complex .f64 0 0] 33))
        have BA := Lib.hid ((BEL4.out).alloc (BEL4.out).size (.cells #[.int .i64 1, .int .i64 rows, .int .i64 nl, .int .i64 1, .int .i64 fr, .string ⟨#[]⟩, .complex .f64 0 0, .int .i64 1, .int .i64 H, .string ⟨#[]⟩, .complex .f64 0 0, .complex .f64 0 0, .complex .f64 0 0] 33))
        have HAT5 := Lib.hid ((HAT4.out).below ((Below.refl _ w4).alloc (Nat.le_refl _) (.cells #[.int .i64 1, .int .i64 rows, .int .i64 nl, .int .i64 1, .int .i64 fr, .string ⟨#[]⟩, .complex .f64 0 0, .int .i64 1, .int .i64 H, .string ⟨#[]⟩, .complex .f64 0 0, .complex .f64 0 0, .complex .f64 0 0] 33)))
        go_wp2_with fail
        refine (Try.cmpP oo 0 v _).mono ?_
        rintro e w6 ⟨rfl, hb6⟩
        unfold predA
        have SB : Hid (VS w6 w4.heap.size #[.int .i64 1, .int .i64 rows, .int .i64 nl, .int .i64 1, .int .i64 fr, .string ⟨#[]⟩, .complex .f64 0 0, .int .i64 1, .int .i64 H, .string ⟨#[]⟩, .complex .f64 0 0, .complex .f64 0 0, .complex .f64 0 0]) := Lib.hid (VS.below (w := w4.alloc (.cells #[.int .i64 1, .int .i64 rows, .int .i64 nl, .int .i64 1, .int .i64 fr, .string ⟨#[]⟩, .complex .f64 0 0, .int .i64 1, .int .i64 H, .string ⟨#[]⟩, .complex .f64 0 0, .complex .f64 0 0, .complex .f64 0 0] 33)) hS.out hb6)
        have HAT6 := Lib.hid ((HAT5.out).below hb6)
        have BEL6 := Lib.hid ((BA.out).trans (hb6.mono (BA.out).size))
        have hA7 := (Below.refl _ w6).alloc (Nat.le_refl _) (.cells #[.int .i64 oo, .int .i64 0, .int .i64 1, .int .i64 v, .string ⟨#[]⟩, .complex .f64 0 0, .complex .f64 0 0, .complex .f64 0 0, .slice none 0 0] 42)
        have PB7 : Hid (VP (w6.alloc (.cells #[.int .i64 oo, .int .i64 0, .int .i64 1, .int .i64 v, .string ⟨#[]⟩, .complex .f64 0 0, .complex .f64 0 0, .complex .f64 0 0, .slice none 0 0] 42)) w6.heap.size #[.int .i64 oo, .int .i64 0, .int .i64 1, .int .i64 v, .string ⟨#[]⟩, .complex .f64 0 0, .complex .f64 0 0, .complex .f64 0 0, .slice none 0 0]) := Lib.hid (alloc_here w6 _)
        have SB7 := Lib.hid ((SB.out).below hA7)
        have HAT7 := Lib.hid ((HAT6.out).below hA7)
        have BEL7 := Lib.hid ((BEL6.out).trans (hA7.mono (BEL6.out).size))
        clear hb6 hS BA HAT5 HAT4 BEL4 SB HAT6 BEL6 hA7
        go_wp2
        obtain ⟨w7, hw7⟩ : ∃ w7, w6.alloc (.cells #[.int .i64 oo, .int .i64 0, .int .i64 1, .int .i64 v, .string ⟨#[]⟩, .complex .f64 0 0, .complex .f64 0 0, .complex .f64 0 0, .slice none 0 0] 42) = w7 := ⟨_, rfl⟩
        rw [hw7] at PB7 SB7 HAT7 BEL7 ⊢
        have hcm := (HAT7.out).cm
        have hnc := (HAT7.out).nc
        unfold maxLen at hcm
        clear hw7
        obtain ⟨vals, hvals⟩ : ∃ vals, os.map qo = vals := ⟨_, rfl⟩
        rw [hvals] at HK HAT7
        clear hvals HLEN
        go_loopw [17, 18] (fun c t wr => ∃ j : Nat, j ≤ m ∧ t = .int .i64 j ∧ c = .int .i64 (obits oo v (vals.take j)) ∧ Below w7.heap.size w7 wr) (fun _ t _ => m - (intOf t).toNat)
        case atStart => exact ⟨0, Nat.zero_le _, rfl, rfl, Below.refl _ _⟩
        case round =>
          obtain ⟨j, hj, rfl, rfl, hb⟩ := hrel
          have HB := Lib.hid hb
          clear hb
          by_cases hlt2 : j < m
          · have hD2 : decide ((j : Int) < m) = true := by simpa using hlt2
            have hjw : j < vals.length := by have := (HK.out).len; omega
            obtain ⟨e1, e2, e3, e4⟩ := ((HAT7.out).below HB.out).at4 j hjw
            have HQ := Lib.hid ((HK.out).num vals[j] (List.getElem_mem _))
            have hst : obits oo v (vals.take (j + 1)) = obits oo v (vals.take j ++ [vals[j]]) := by rw [List.take_succ_eq_append_getElem hjw]
            have HST := Lib.hid hst
            clear hst
            generalize vals[j]'hjw = q at e1 e2 HQ HST
            go_upto_region 17 with fail
            have hPB := (PB7.out).below HB.out
            have hltg := ((HAT7.out).below HB.out).lt
            have K0 : Hid ((fun W => W.cell? ⟨g, j * 4, none⟩ = some (.int .i64 q.1) ∧ W.cell? ⟨g, j * 4 + 1, none⟩ = some (.int .i64 q.2) ∧ W.cell? ⟨g, j * 4 + 2, none⟩ = some (.string ⟨#[]⟩) ∧ W.cell? ⟨g, j * 4 + 3, none⟩ = some (.complex .f64 0 0) ∧ W.cell? ⟨w6.heap.size, 0, none⟩ = some (.int .i64 oo) ∧ W.cell? ⟨w6.heap.size, 1, none⟩ = some (.int .i64 0) ∧ W.cell? ⟨w6.heap.size, 2, none⟩ = some (.int .i64 1) ∧ W.cell? ⟨w6.heap.size, 3, none⟩ = some (.int .i64 v) ∧ W.cell? ⟨w6.heap.size, 4, none⟩ = some (.string ⟨#[]⟩) ∧ W.cell? ⟨w6.heap.size, 5, none⟩ = some (.complex .f64 0 0) ∧ W.cell? ⟨w6.heap.size, 6, none⟩ = some (.complex .f64 0 0) ∧ W.cell? ⟨w6.heap.size, 7, none⟩ = some (.complex .f64 0 0) ∧ W.cell? ⟨w6.heap.size, 8, none⟩ = some (.slice none 0 0)) wr) := Lib.hid ⟨e1, e2, e3, e4, hPB.c 0, hPB.c 1, hPB.c 2, hPB.c 3, hPB.c 4, hPB.c 5, hPB.c 6, hPB.c 7, hPB.c 8⟩
            have KB : Hid (∀ w', Below wr.heap.size wr w' → (fun W => W.cell? ⟨g, j * 4, none⟩ = some (.int .i64 q.1) ∧ W.cell? ⟨g, j * 4 + 1, none⟩ = some (.int .i64 q.2) ∧ W.cell? ⟨g, j * 4 + 2, none⟩ = some (.string ⟨#[]⟩) ∧ W.cell? ⟨g, j * 4 + 3, none⟩ = some (.complex .f64 0 0) ∧ W.cell? ⟨w6.heap.size, 0, none⟩ = some (.int .i64 oo) ∧ W.cell? ⟨w6.heap.size, 1, none⟩ = some (.int .i64 0) ∧ W.cell? ⟨w6.heap.size, 2, none⟩ = some (.int .i64 1) ∧ W.cell? ⟨w6.heap.size, 3, none⟩ = some (.int .i64 v) ∧ W.cell? ⟨w6.heap.size, 4, none⟩ = some (.string ⟨#[]⟩) ∧ W.cell? ⟨w6.heap.size, 5, none⟩ = some (.complex .f64 0 0) ∧ W.cell? ⟨w6.heap.size, 6, none⟩ = some (.complex .f64 0 0) ∧ W.cell? ⟨w6.heap.size, 7, none⟩ = some (.complex .f64 0 0) ∧ W.cell? ⟨w6.heap.size, 8, none⟩ = some (.slice none 0 0)) w') := Lib.hid (fun w' hb => ⟨(hb.cell (p := ⟨g, j * 4, none⟩) hltg).trans e1, (hb.cell (p := ⟨g, j * 4 + 1, none⟩) hltg).trans e2, (hb.cell (p := ⟨g, j * 4 + 2, none⟩) hltg).trans e3, (hb.cell (p := ⟨g, j * 4 + 3, none⟩) hltg).trans e4, (hPB.below hb).c 0, (hPB.below hb).c 1, (hPB.below hb).c 2, (hPB.below hb).c 3, (hPB.below hb).c 4, (hPB.below hb).c 5, (hPB.below hb).c 6, (hPB.below hb).c 7, (hPB.below hb).c 8⟩)
            clear hPB hltg
            refine wp_region_noPanic ?_
            refine wp_region_held_drew (S := (fun W => W.cell? ⟨g, j * 4, none⟩ = some (.int .i64 q.1) ∧ W.cell? ⟨g, j * 4 + 1, none⟩ = some (.int .i64 q.2) ∧ W.cell? ⟨g, j * 4 + 2, none⟩ = some (.string ⟨#[]⟩) ∧ W.cell? ⟨g, j * 4 + 3, none⟩ = some (.complex .f64 0 0) ∧ W.cell? ⟨w6.heap.size, 0, none⟩ = some (.int .i64 oo) ∧ W.cell? ⟨w6.heap.size, 1, none⟩ = some (.int .i64 0) ∧ W.cell? ⟨w6.heap.size, 2, none⟩ = some (.int .i64 1) ∧ W.cell? ⟨w6.heap.size, 3, none⟩ = some (.int .i64 v) ∧ W.cell? ⟨w6.heap.size, 4, none⟩ = some (.string ⟨#[]⟩) ∧ W.cell? ⟨w6.heap.size, 5, none⟩ = some (.complex .f64 0 0) ∧ W.cell? ⟨w6.heap.size, 6, none⟩ = some (.complex .f64 0 0) ∧ W.cell? ⟨w6.heap.size, 7, none⟩ = some (.complex .f64 0 0) ∧ W.cell? ⟨w6.heap.size, 8, none⟩ = some (.slice none 0 0))) (by kernel_rfl) ?_ (fun hHeld => ?_)
            · exact K0.out
            refine wpAnyH_take (i := 0) (oi := { dst := some 62, op := Op.load 42 (Operand.tmp 16), type := 42, pos := "more.go:29", after := #[], guard := none }) (v := ?_) rfl (by kernel_rfl) (by kernel_rfl) (by kernel_rfl) (fun _ _ _ h => h) (Or.inl ⟨by rfl, ?_⟩) (by assumption) ?_
            rotate_left
            · (intro w hSw; (try dsimp only at hSw); go_simp; try with_reducible rfl)
            try simp only [Act.put, List.setIfInBounds_toArray, List.set_cons_zero, List.set_cons_succ]
            refine wpAnyH_take (i := 1) (oi := { dst := some 63, op := Op.move (Operand.tmp 12), type := 25, pos := "more.go:29", after := #[], guard := none }) (v := ?_) rfl (by kernel_rfl) (by kernel_rfl) (by kernel_rfl) (fun _ _ _ h => h) (Or.inl ⟨by rfl, ?_⟩) (by assumption) ?_
            rotate_left
            · (intro w hSw; (try dsimp only at hSw); go_simp; try with_reducible rfl)
            try simp only [Act.put, List.setIfInBounds_toArray, List.set_cons_zero, List.set_cons_succ]
            refine wpAnyH_take (i := 2) (oi := { dst := some 64, op := Op.move (Operand.tmp 18), type := 3, pos := "more.go:29", after := #[], guard := none }) (v := ?_) rfl (by kernel_rfl) (by kernel_rfl) (by kernel_rfl) (fun _ _ _ h => h) (Or.inl ⟨by rfl, ?_⟩) (by assumption) ?_
            rotate_left
            · (intro w hSw; (try dsimp only at hSw); go_simp; try with_reducible rfl)
            try simp only [Act.put, List.setIfInBounds_toArray, List.set_cons_zero, List.set_cons_succ]
            refine wpAnyH_take (i := 3) (oi := { dst := some 65, op := Op.indexAddr 25 (Operand.tmp 63) (Operand.tmp 64), type := 0, pos := "more.go:29", after := #[{ on := 1, ground := Ground.data }, { on := 2, ground := Ground.data }], guard := none }) (v := ?_) rfl (by kernel_rfl) (by kernel_rfl) (by kernel_rfl) (fun _ _ _ h => h) (Or.inl ⟨by rfl, ?_⟩) (by assumption) ?_
            rotate_left
            · (intro w hSw; (try dsimp only at hSw); go_simp; try with_reducible rfl)
            try simp only [Act.put, List.setIfInBounds_toArray, List.set_cons_zero, List.set_cons_succ]
            refine wpAnyH_take (i := 4) (oi := { dst := some 66, op := Op.load 28 (Operand.tmp 65), type := 28, pos := "more.go:29", after := #[{ on := 3, ground := Ground.data }], guard := none }) (v := ?_) rfl (by kernel_rfl) (by kernel_rfl) (by kernel_rfl) (fun _ _ _ h => h) (Or.inl ⟨by rfl, ?_⟩) (by assumption) ?_
            rotate_left
            · (intro w hSw; (try dsimp only at hSw); go_simp; try with_reducible rfl)
            try simp only [Act.put, List.setIfInBounds_toArray, List.set_cons_zero, List.set_cons_succ]
            refine wpAnyH_ready (rs := [5]) (by kernel_rfl) (by simp) ?_
            refine AllReadyH.cons (o := { dst := some 67, op := Op.buildSlice 25 1 #[(0, Operand.tmp 66)], type := 25, pos := "more.go:29", after := #[{ on := 4, ground := Ground.data }], guard := none }) rfl (fun K hK => ?_) AllReadyH.nil
            go_simp
            refine hK.out _ _ ?_ (fun hHeld => ?_)
            · exact (KB.out) _ ((Below.refl _ wr).drew.alloc (Nat.le_refl _) (.cells #[.int .i64 q.1, .int .i64 q.2, .string ⟨#[]⟩, .complex .f64 0 0] 28))
            clear hK K
            try simp only [Act.put, List.setIfInBounds_toArray, List.set_cons_zero, List.set_cons_succ]
            refine wpAnyH_ready (rs := [6]) (by kernel_rfl) (by simp) ?_
            refine AllReadyH.cons (o := { dst := some 68, op := Op.call { callee := Callee.value (Operand.func 13), args := #[Operand.tmp 62, Operand.tmp 67], argTypes := #[42, 25] }, type := 3, pos := "more.go:29", after := #[{ on := 0, ground := Ground.data }, { on := 5, ground := Ground.data }], guard := none }) rfl (fun K hK => ?_) AllReadyH.nil
            go_simp
            have hvh := vh_alloc wr.drew q
            have hp := Try.evalP (n := v) HOO.out (VAt.one hvh) HQ.out
            refine hp.mono ?_
            clear hp hvh
            rintro e w8 ⟨rfl, hb8⟩
            dsimp only
            have hAq := (Below.refl _ wr).drew.alloc (Nat.le_refl _) (.cells #[.int .i64 q.1, .int .i64 q.2, .string ⟨#[]⟩, .complex .f64 0 0] 28)
            have HB8w := Lib.hid (hAq.trans (Below.mono hb8 hAq.size))
            have HB8 := Lib.hid ((HB.out).trans ((HB8w.out).mono (HB.out).size))
            clear hb8 hAq
            refine hK.out _ _ ?_ (fun hHeld => ?_)
            · exact (KB.out) _ HB8w.out
            clear hK K
            try simp only [Act.put, List.setIfInBounds_toArray, List.set_cons_zero, List.set_cons_succ]
            refine wpAnyH_take (i := 7) (oi := { dst := some 19, op := Op.assign (Operand.tmp 68), type := 3, pos := "more.go:29", after := #[{ on := 6, ground := Ground.data }, { on := 6, ground := Ground.chain }, { on := 0, ground := Ground.phase }, { on := 1, ground := Ground.phase }, { on := 2, ground := Ground.phase }, { on := 3, ground := Ground.phase }, { on := 4, ground := Ground.phase }, { on := 5, ground := Ground.phase }, { on := 6, ground := Ground.phase }], guard := none }) (v := ?_) rfl (by kernel_rfl) (by kernel_rfl) (by kernel_rfl) (fun _ _ _ h => h) (Or.inl ⟨by rfl, ?_⟩) (by assumption) ?_
            rotate_left
            · (intro w hSw; (try dsimp only at hSw); go_simp; try with_reducible rfl)
            try simp only [Act.put, List.setIfInBounds_toArray, List.set_cons_zero, List.set_cons_succ]
            refine wpAnyH_done (by kernel_rfl) ?_ _
            refine NoPanic.normal ?_
            clear KB K0 e1 e2 e3 e4
            have hoT := orT
            have hoF := orF
            have hoU := orU
            have hb3 := obits_snoc oo v (vals.take j) q
            rw [← HST.out] at hb3
            have HB3 := Lib.hid hb3
            clear hb3
            rcases trv_three oo v q with ht | ht | ht
            · rw [ht]
              have hb4 := (HB3.out).1 ht
              have HB4 := Lib.hid hb4
              clear hb4
              unfold obits
              go_wp2_with fail
              first
                | exact ⟨⟨j + 1, hlt2, rfl, by rw [HB4.out], HB8.out⟩, by simp [intOf]; omega⟩
                | (go_roundw
                   case rel => first | exact ⟨j + 1, hlt2, rfl, by rw [HB4.out], HB8.out⟩ | ((repeat apply Exists.intro); exact ⟨⟨j + 1, hlt2, rfl, by rw [HB4.out], HB8.out⟩, rfl⟩)
                   case measure => simp [intOf]; omega)
            · rw [ht]
              have hb4 := (HB3.out).2.1 ht
              have HB4 := Lib.hid hb4
              clear hb4
              unfold obits
              go_wp2_with fail
              first
                | exact ⟨⟨j + 1, hlt2, rfl, by rw [HB4.out], HB8.out⟩, by simp [intOf]; omega⟩
                | (go_roundw
                   case rel => first | exact ⟨j + 1, hlt2, rfl, by rw [HB4.out], HB8.out⟩ | ((repeat apply Exists.intro); exact ⟨⟨j + 1, hlt2, rfl, by rw [HB4.out], HB8.out⟩, rfl⟩)
                   case measure => simp [intOf]; omega)
            · rw [ht]
              have hb4 := (HB3.out).2.2 ht
              have HB4 := Lib.hid hb4
              clear hb4
              unfold obits
              go_wp2_with fail
              first
                | exact ⟨⟨j + 1, hlt2, rfl, by rw [HB4.out], HB8.out⟩, by simp [intOf]; omega⟩
                | (go_roundw
                   case rel => first | exact ⟨j + 1, hlt2, rfl, by rw [HB4.out], HB8.out⟩ | ((repeat apply Exists.intro); exact ⟨⟨j + 1, hlt2, rfl, by rw [HB4.out], HB8.out⟩, rfl⟩)
                   case measure => simp [intOf]; omega)
          · obtain rfl : j = m := by omega
            have hD2 : decide ((j : Int) < j) = false := by simp
            have ht : vals.take j = vals := by rw [← (HK.out).len]; exact List.take_length
            rw [ht]
            have hPB := (PB7.out).below HB.out
            have hSB := (SB7.out).below HB.out
            have p0 : wr.cell? ⟨w6.heap.size, 0, none⟩ = some (.int .i64 oo) := hPB.c 0
            have p1 : wr.cell? ⟨w6.heap.size, 1, none⟩ = some (.int .i64 0) := hPB.c 1
            have p2 : wr.cell? ⟨w6.heap.size, 2, none⟩ = some (.int .i64 1) := hPB.c 2
            have p3 : wr.cell? ⟨w6.heap.size, 3, none⟩ = some (.int .i64 v) := hPB.c 3
            have p4 : wr.cell? ⟨w6.heap.size, 4, none⟩ = some (.string ⟨#[]⟩) := hPB.c 4
            have p5 : wr.cell? ⟨w6.heap.size, 5, none⟩ = some (.complex .f64 0 0) := hPB.c 5
            have p6 : wr.cell? ⟨w6.heap.size, 6, none⟩ = some (.complex .f64 0 0) := hPB.c 6
            have p7 : wr.cell? ⟨w6.heap.size, 7, none⟩ = some (.complex .f64 0 0) := hPB.c 7
            have p8 : wr.cell? ⟨w6.heap.size, 8, none⟩ = some (.slice none 0 0) := hPB.c 8
            have s0 : wr.cell? ⟨w4.heap.size, 0, none⟩ = some (.int .i64 1) := hSB.c 0
            have s1 : wr.cell? ⟨w4.heap.size, 1, none⟩ = some (.int .i64 rows) := hSB.c 1
            have s2 : wr.cell? ⟨w4.heap.size, 2, none⟩ = some (.int .i64 nl) := hSB.c 2
            have s3 : wr.cell? ⟨w4.heap.size, 3, none⟩ = some (.int .i64 1) := hSB.c 3
            have s4 : wr.cell? ⟨w4.heap.size, 4, none⟩ = some (.int .i64 fr) := hSB.c 4
            have s5 : wr.cell? ⟨w4.heap.size, 5, none⟩ = some (.string ⟨#[]⟩) := hSB.c 5
            have s6 : wr.cell? ⟨w4.heap.size, 6, none⟩ = some (.complex .f64 0 0) := hSB.c 6
            have s7 : wr.cell? ⟨w4.heap.size, 7, none⟩ = some (.int .i64 1) := hSB.c 7
            have s8 : wr.cell? ⟨w4.heap.size, 8, none⟩ = some (.int .i64 H) := hSB.c 8
            have s9 : wr.cell? ⟨w4.heap.size, 9, none⟩ = some (.string ⟨#[]⟩) := hSB.c 9
            have s10 : wr.cell? ⟨w4.heap.size, 10, none⟩ = some (.complex .f64 0 0) := hSB.c 10
            have s11 : wr.cell? ⟨w4.heap.size, 11, none⟩ = some (.complex .f64 0 0) := hSB.c 11
            have s12 : wr.cell? ⟨w4.heap.size, 12, none⟩ = some (.complex .f64 0 0) := hSB.c 12
            have hp1 := hPB.lt
            have hp2 := hSB.lt
            have HEX := Lib.hid (HK.out).ex
            have HNE := Lib.hid (HK.out).ne
            have HON := Lib.hid (HK.out).one
            have hA := (Below.refl _ wr).alloc (Nat.le_refl _) (.cells #[.int .i64 1, .int .i64 rows, .int .i64 nl, .int .i64 1, .int .i64 fr, .string ⟨#[]⟩, .complex .f64 0 0, .int .i64 1, .int .i64 H, .string ⟨#[]⟩, .complex .f64 0 0, .complex .f64 0 0, .complex .f64 0 0] 33)
            have SX : Hid (VS (wr.alloc (.cells #[.int .i64 1, .int .i64 rows, .int .i64 nl, .int .i64 1, .int .i64 fr, .string ⟨#[]⟩, .complex .f64 0 0, .int .i64 1, .int .i64 H, .string ⟨#[]⟩, .complex .f64 0 0, .complex .f64 0 0, .complex .f64 0 0] 33)) wr.heap.size #[.int .i64 1, .int .i64 rows, .int .i64 nl, .int .i64 1, .int .i64 fr, .string ⟨#[]⟩, .complex .f64 0 0, .int .i64 1, .int .i64 H, .string ⟨#[]⟩, .complex .f64 0 0, .complex .f64 0 0, .complex .f64 0 0]) := Lib.hid (alloc_here wr _)
            have BX := Lib.hid ((BEL7.out).trans (((HB.out).trans (hA.mono (HB.out).size)).mono (BEL7.out).size))
            clear hPB hSB hA
            go_wp2_with fail
            have hp := Try.mayP (n := v) HOO.out SX.out HNE.out HON.out (cap := 1)
            refine hp.mono ?_
            clear hp
            rw [HEX.out]
            rintro e w9 ⟨rfl, hb9⟩
            have B9 := Lib.hid ((BX.out).trans (hb9.mono (BX.out).size))
            clear hb9
            go_wp2_with fail
            go_ret
            exact ⟨rfl, B9.out⟩
      | true =>
        have hrow := (HR.out).own
        have hB2 := (Below.refl _ wr).alloc (Nat.le_refl _) (.cells #[.int .i64 0, .int .i64 0, .string ⟨#[]⟩, .complex .f64 0 0] 28)
        have hwa := own_below hrow hB2
        have hall := (vh_alloc wr (0, 0)).all
        have HB2 := Lib.hid hB2
        clear hB2
        go_wp2_with (at_builtin; refine wpList_append_own _ rfl (.tmp 40) (.tmp 42) 25 rfl w.heap.size 28 i0 (.agg #[.int .i64 0, .int .i64 0, .string ⟨#[]⟩, .complex .f64 0 0]) 4 48 Try.underlying25 I1.out I2.out I3.out I4.out rfl (by decide) _ _ _ rfl hwa _ _ _ (vc (0, 0)) rfl rfl hall (vc_one _) ?b1 ?b2 ?b3 ?b4)
        case b1 => unfold maxLen; omega
        case b2 => omega
        case b3 => have := (HR.out).bel.size; have h2 := (HB2.out).size; simp at h2 ⊢; omega
        case b4 =>
          intro v' w3 hown1 hg hne
          have hown : VO w3 w.heap.size v' (i + (if true = true then 1 else 0)) (valsOf fr i true) := by
            unfold VO valsOf
            rw [if_pos rfl, if_pos rfl, flat_snoc]
            exact hown1
          have HOWN := Lib.hid hown
          have hb2 := (HR.out).bel.trans ((HB2.out).mono (HR.out).bel.size)
          have BEL := Lib.hid (hb2.grown hg hb2.size (fun k hk => (ownB hrow k hk).1))
          clear hown hown1 hg hne hwa hall hrow hb2 HB2 HR
          obtain ⟨rows, nl, H, m, os, HK2, HS2, hlen, hown⟩ : ∃ (rows nl H : Int) (m : Nat) (os : List (Option Int)), EFacts oo v fr H rows nl m (os.map qo) ∧ statA os = statCells rows nl (1, fr) (1, H) ∧ os.length = m ∧ VO w3 w.heap.size v' m (os.map qo) := by
            refine ⟨((i + 1 : Nat) : Int), 1, fr + i - 1, i + 1, osS fr i true, ?_, ?_, ?_, ?_⟩
            · rw [osS_map]; exact HK.out
            · exact HS.out
            · exact osS_len fr i true
            · rw [osS_map]; exact HOWN.out
          clear HOWN HK HS
          obtain ⟨g, cap, rfl, hg1, hat⟩ : ∃ g cap, v' = .slice (some ⟨g, 0, none⟩) m cap ∧ w.heap.size ≤ g ∧ VAt w3 g m cap (os.map qo) := by
            rcases hown.at with ⟨_, hm0⟩ | hq
            · exfalso
              have := HK2.one
              have h2 := HK2.ne
              have h3 := HK2.len
              rw [List.length_map, hlen] at h3
              subst hm0
              have := List.eq_nil_of_length_eq_zero hlen
              subst this
              have hw := congrArg (fun (c : Array Value) => c[1]?) HS2
              simp [statA, statCells] at hw
              omega
            · exact hq
          have HK := Lib.hid HK2
          have HS := Lib.hid HS2
          have HAT := Lib.hid hat
          have HLEN := Lib.hid hlen
          clear HK2 HS2 hat hlen hown
          go_wp2_with fail
          refine (Try.statOf HAT.out HLEN.out (HK.out).m64).mono ?_
          rintro e w4 ⟨rfl, hb4⟩
          rw [HS.out]
          unfold statCells
          have HAT4 := Lib.hid ((HAT.out).below hb4)
          have BEL4 := Lib.hid ((BEL.out).trans (hb4.mono (BEL.out).size))
          clear hb4 HAT BEL HS
          have hS := Lib.hid (alloc_here w4 (.cells #[.int .i64 1, .int .i64 rows, .int .i64 nl, .int .i64 1, .int .i64 fr, .string ⟨#[]⟩, .complex .f64 0 0, .int .i64 1, .int .i64 H, .string ⟨#[]⟩, .complex .f64 0 0, .complex .f64 0 0, .complex .f64 0 0] 33))
          have BA := Lib.hid ((BEL4.out).alloc (BEL4.out).size (.cells #[.int .i64 1, .int .i64 rows, .int .i64 nl, .int .i64 1, .int .i64 fr, .string ⟨#[]⟩, .complex .f64 0 0, .int .i64 1, .int .i64 H, .string ⟨#[]⟩, .complex .f64 0 0, .complex .f64 0 0, .complex .f64 0 0] 33))
          have HAT5 := Lib.hid ((HAT4.out).below ((Below.refl _ w4).alloc (Nat.le_refl _) (.cells #[.int .i64 1, .int .i64 rows, .int .i64 nl, .int .i64 1, .int .i64 fr, .string ⟨#[]⟩, .complex .f64 0 0, .int .i64 1, .int .i64 H, .string ⟨#[]⟩, .complex .f64 0 0, .complex .f64 0 0, .complex .f64 0 0] 33)))
          go_wp2_with fail
          refine (Try.cmpP oo 0 v _).mono ?_
          rintro e w6 ⟨rfl, hb6⟩
          unfold predA
          have SB : Hid (VS w6 w4.heap.size #[.int .i64 1, .int .i64 rows, .int .i64 nl, .int .i64 1, .int .i64 fr, .string ⟨#[]⟩, .complex .f64 0 0, .int .i64 1, .int .i64 H, .string ⟨#[]⟩, .complex .f64 0 0, .complex .f64 0 0, .complex .f64 0 0]) := Lib.hid (VS.below (w := w4.alloc (.cells #[.int .i64 1, .int .i64 rows, .int .i64 nl, .int .i64 1, .int .i64 fr, .string ⟨#[]⟩, .complex .f64 0 0, .int .i64 1, .int .i64 H, .string ⟨#[]⟩, .complex .f64 0 0, .complex .f64 0 0, .complex .f64 0 0] 33)) hS.out hb6)
          have HAT6 := Lib.hid ((HAT5.out).below hb6)
          have BEL6 := Lib.hid ((BA.out).trans (hb6.mono (BA.out).size))
          have hA7 := (Below.refl _ w6).alloc (Nat.le_refl _) (.cells #[.int .i64 oo, .int .i64 0, .int .i64 1, .int .i64 v, .string ⟨#[]⟩, .complex .f64 0 0, .complex .f64 0 0, .complex .f64 0 0, .slice none 0 0] 42)
          have PB7 : Hid (VP (w6.alloc (.cells #[.int .i64 oo, .int .i64 0, .int .i64 1, .int .i64 v, .string ⟨#[]⟩, .complex .f64 0 0, .complex .f64 0 0, .complex .f64 0 0, .slice none 0 0] 42)) w6.heap.size #[.int .i64 oo, .int .i64 0, .int .i64 1, .int .i64 v, .string ⟨#[]⟩, .complex .f64 0 0, .complex .f64 0 0, .complex .f64 0 0, .slice none 0 0]) := Lib.hid (alloc_here w6 _)
          have SB7 := Lib.hid ((SB.out).below hA7)
          have HAT7 := Lib.hid ((HAT6.out).below hA7)
          have BEL7 := Lib.hid ((BEL6.out).trans (hA7.mono (BEL6.out).size))
          clear hb6 hS BA HAT5 HAT4 BEL4 SB HAT6 BEL6 hA7
          go_wp2
          obtain ⟨w7, hw7⟩ : ∃ w7, w6.alloc (.cells #[.int .i64 oo, .int .i64 0, .int .i64 1, .int .i64 v, .string ⟨#[]⟩, .complex .f64 0 0, .complex .f64 0 0, .complex .f64 0 0, .slice none 0 0] 42) = w7 := ⟨_, rfl⟩
          rw [hw7] at PB7 SB7 HAT7 BEL7 ⊢
          have hcm := (HAT7.out).cm
          have hnc := (HAT7.out).nc
          unfold maxLen at hcm
          clear hw7
          obtain ⟨vals, hvals⟩ : ∃ vals, os.map qo = vals := ⟨_, rfl⟩
          rw [hvals] at HK HAT7
          clear hvals HLEN
          go_loopw [17, 18] (fun c t wr => ∃ j : Nat, j ≤ m ∧ t = .int .i64 j ∧ c = .int .i64 (obits oo v (vals.take j)) ∧ Below w7.heap.size w7 wr) (fun _ t _ => m - (intOf t).toNat)
          case atStart => exact ⟨0, Nat.zero_le _, rfl, rfl, Below.refl _ _⟩
          case round =>
            obtain ⟨j, hj, rfl, rfl, hb⟩ := hrel
            have HB := Lib.hid hb
            clear hb
            by_cases hlt2 : j < m
            · have hD2 : decide ((j : Int) < m) = true := by simpa using hlt2
              have hjw : j < vals.length := by have := (HK.out).len; omega
              obtain ⟨e1, e2, e3, e4⟩ := ((HAT7.out).below HB.out).at4 j hjw
              have HQ := Lib.hid ((HK.out).num vals[j] (List.getElem_mem _))
              have hst : obits oo v (vals.take (j + 1)) = obits oo v (vals.take j ++ [vals[j]]) := by rw [List.take_succ_eq_append_getElem hjw]
              have HST := Lib.hid hst
              clear hst
              generalize vals[j]'hjw = q at e1 e2 HQ HST
              go_upto_region 17 with fail
              have hPB := (PB7.out).below HB.out
              have hltg := ((HAT7.out).below HB.out).lt
              have K0 : Hid ((fun W => W.cell? ⟨g, j * 4, none⟩ = some (.int .i64 q.1) ∧ W.cell? ⟨g, j * 4 + 1, none⟩ = some (.int .i64 q.2) ∧ W.cell? ⟨g, j * 4 + 2, none⟩ = some (.string ⟨#[]⟩) ∧ W.cell? ⟨g, j * 4 + 3, none⟩ = some (.complex .f64 0 0) ∧ W.cell? ⟨w6.heap.size, 0, none⟩ = some (.int .i64 oo) ∧ W.cell? ⟨w6.heap.size, 1, none⟩ = some (.int .i64 0) ∧ W.cell? ⟨w6.heap.size, 2, none⟩ = some (.int .i64 1) ∧ W.cell? ⟨w6.heap.size, 3, none⟩ = some (.int .i64 v) ∧ W.cell? ⟨w6.heap.size, 4, none⟩ = some (.string ⟨#[]⟩) ∧ W.cell? ⟨w6.heap.size, 5, none⟩ = some (.complex .f64 0 0) ∧ W.cell? ⟨w6.heap.size, 6, none⟩ = some (.complex .f64 0 0) ∧ W.cell? ⟨w6.heap.size, 7, none⟩ = some (.complex .f64 0 0) ∧ W.cell? ⟨w6.heap.size, 8, none⟩ = some (.slice none 0 0)) wr) := Lib.hid ⟨e1, e2, e3, e4, hPB.c 0, hPB.c 1, hPB.c 2, hPB.c 3, hPB.c 4, hPB.c 5, hPB.c 6, hPB.c 7, hPB.c 8⟩
              have KB : Hid (∀ w', Below wr.heap.size wr w' → (fun W => W.cell? ⟨g, j * 4, none⟩ = some (.int .i64 q.1) ∧ W.cell? ⟨g, j * 4 + 1, none⟩ = some (.int .i64 q.2) ∧ W.cell? ⟨g, j * 4 + 2, none⟩ = some (.string ⟨#[]⟩) ∧ W.cell? ⟨g, j * 4 + 3, none⟩ = some (.complex .f64 0 0) ∧ W.cell? ⟨w6.heap.size, 0, none⟩ = some (.int .i64 oo) ∧ W.cell? ⟨w6.heap.size, 1, none⟩ = some (.int .i64 0) ∧ W.cell? ⟨w6.heap.size, 2, none⟩ = some (.int .i64 1) ∧ W.cell? ⟨w6.heap.size, 3, none⟩ = some (.int .i64 v) ∧ W.cell? ⟨w6.heap.size, 4, none⟩ = some (.string ⟨#[]⟩) ∧ W.cell? ⟨w6.heap.size, 5, none⟩ = some (.complex .f64 0 0) ∧ W.cell? ⟨w6.heap.size, 6, none⟩ = some (.complex .f64 0 0) ∧ W.cell? ⟨w6.heap.size, 7, none⟩ = some (.complex .f64 0 0) ∧ W.cell? ⟨w6.heap.size, 8, none⟩ = some (.slice none 0 0)) w') := Lib.hid (fun w' hb => ⟨(hb.cell (p := ⟨g, j * 4, none⟩) hltg).trans e1, (hb.cell (p := ⟨g, j * 4 + 1, none⟩) hltg).trans e2, (hb.cell (p := ⟨g, j * 4 + 2, none⟩) hltg).trans e3, (hb.cell (p := ⟨g, j * 4 + 3, none⟩) hltg).trans e4, (hPB.below hb).c 0, (hPB.below hb).c 1, (hPB.below hb).c 2, (hPB.below hb).c 3, (hPB.below hb).c 4, (hPB.below hb).c 5, (hPB.below hb).c 6, (hPB.below hb).c 7, (hPB.below hb).c 8⟩)
              clear hPB hltg
              refine wp_region_noPanic ?_
              refine wp_region_held_drew (S := (fun W => W.cell? ⟨g, j * 4, none⟩ = some (.int .i64 q.1) ∧ W.cell? ⟨g, j * 4 + 1, none⟩ = some (.int .i64 q.2) ∧ W.cell? ⟨g, j * 4 + 2, none⟩ = some (.string ⟨#[]⟩) ∧ W.cell? ⟨g, j * 4 + 3, none⟩ = some (.complex .f64 0 0) ∧ W.cell? ⟨w6.heap.size, 0, none⟩ = some (.int .i64 oo) ∧ W.cell? ⟨w6.heap.size, 1, none⟩ = some (.int .i64 0) ∧ W.cell? ⟨w6.heap.size, 2, none⟩ = some (.int .i64 1) ∧ W.cell? ⟨w6.heap.size, 3, none⟩ = some (.int .i64 v) ∧ W.cell? ⟨w6.heap.size, 4, none⟩ = some (.string ⟨#[]⟩) ∧ W.cell? ⟨w6.heap.size, 5, none⟩ = some (.complex .f64 0 0) ∧ W.cell? ⟨w6.heap.size, 6, none⟩ = some (.complex .f64 0 0) ∧ W.cell? ⟨w6.heap.size, 7, none⟩ = some (.complex .f64 0 0) ∧ W.cell? ⟨w6.heap.size, 8, none⟩ = some (.slice none 0 0))) (by kernel_rfl) ?_ (fun hHeld => ?_)
              · exact K0.out
              refine wpAnyH_take (i := 0) (oi := { dst := some 62, op := Op.load 42 (Operand.tmp 16), type := 42, pos := "more.go:29", after := #[], guard := none }) (v := ?_) rfl (by kernel_rfl) (by kernel_rfl) (by kernel_rfl) (fun _ _ _ h => h) (Or.inl ⟨by rfl, ?_⟩) (by assumption) ?_
              rotate_left
              · (intro w hSw; (try dsimp only at hSw); go_simp; try with_reducible rfl)
              try simp only [Act.put, List.setIfInBounds_toArray, List.set_cons_zero, List.set_cons_succ]
              refine wpAnyH_take (i := 1) (oi := { dst := some 63, op := Op.move (Operand.tmp 12), type := 25, pos := "more.go:29", after := #[], guard := none }) (v := ?_) rfl (by kernel_rfl) (by kernel_rfl) (by kernel_rfl) (fun _ _ _ h => h) (Or.inl ⟨by rfl, ?_⟩) (by assumption) ?_
              rotate_left
              · (intro w hSw; (try dsimp only at hSw); go_simp; try with_reducible rfl)
              try simp only [Act.put, List.setIfInBounds_toArray, List.set_cons_zero, List.set_cons_succ]
              refine wpAnyH_take (i := 2) (oi := { dst := some 64, op := Op.move (Operand.tmp 18), type := 3, pos := "more.go:29", after := #[], guard := none }) (v := ?_) rfl (by kernel_rfl) (by kernel_rfl) (by kernel_rfl) (fun _ _ _ h => h) (Or.inl ⟨by rfl, ?_⟩) (by assumption) ?_
              rotate_left
              · (intro w hSw; (try dsimp only at hSw); go_simp; try with_reducible rfl)
              try simp only [Act.put, List.setIfInBounds_toArray, List.set_cons_zero, List.set_cons_succ]
              refine wpAnyH_take (i := 3) (oi := { dst := some 65, op := Op.indexAddr 25 (Operand.tmp 63) (Operand.tmp 64), type := 0, pos := "more.go:29", after := #[{ on := 1, ground := Ground.data }, { on := 2, ground := Ground.data }], guard := none }) (v := ?_) rfl (by kernel_rfl) (by kernel_rfl) (by kernel_rfl) (fun _ _ _ h => h) (Or.inl ⟨by rfl, ?_⟩) (by assumption) ?_
              rotate_left
              · (intro w hSw; (try dsimp only at hSw); go_simp; try with_reducible rfl)
              try simp only [Act.put, List.setIfInBounds_toArray, List.set_cons_zero, List.set_cons_succ]
              refine wpAnyH_take (i := 4) (oi := { dst := some 66, op := Op.load 28 (Operand.tmp 65), type := 28, pos := "more.go:29", after := #[{ on := 3, ground := Ground.data }], guard := none }) (v := ?_) rfl (by kernel_rfl) (by kernel_rfl) (by kernel_rfl) (fun _ _ _ h => h) (Or.inl ⟨by rfl, ?_⟩) (by assumption) ?_
              rotate_left
              · (intro w hSw; (try dsimp only at hSw); go_simp; try with_reducible rfl)
              try simp only [Act.put, List.setIfInBounds_toArray, List.set_cons_zero, List.set_cons_succ]
              refine wpAnyH_ready (rs := [5]) (by kernel_rfl) (by simp) ?_
              refine AllReadyH.cons (o := { dst := some 67, op := Op.buildSlice 25 1 #[(0, Operand.tmp 66)], type := 25, pos := "more.go:29", after := #[{ on := 4, ground := Ground.data }], guard := none }) rfl (fun K hK => ?_) AllReadyH.nil
              go_simp
              refine hK.out _ _ ?_ (fun hHeld => ?_)
              · exact (KB.out) _ ((Below.refl _ wr).drew.alloc (Nat.le_refl _) (.cells #[.int .i64 q.1, .int .i64 q.2, .string ⟨#[]⟩, .complex .f64 0 0] 28))
              clear hK K
              try simp only [Act.put, List.setIfInBounds_toArray, List.set_cons_zero, List.set_cons_succ]
              refine wpAnyH_ready (rs := [6]) (by kernel_rfl) (by simp) ?_
              refine AllReadyH.cons (o := { dst := some 68, op := Op.call { callee := Callee.value (Operand.func 13), args := #[Operand.tmp 62, Operand.tmp 67], argTypes := #[42, 25] }, type := 3, pos := "more.go:29", after := #[{ on := 0, ground := Ground.data }, { on := 5, ground := Ground.data }], guard := none }) rfl (fun K hK => ?_) AllReadyH.nil
              go_simp
              have hvh := vh_alloc wr.drew q
              have hp := Try.evalP (n := v) HOO.out (VAt.one hvh) HQ.out
              refine hp.mono ?_
              clear hp hvh
              rintro e w8 ⟨rfl, hb8⟩
              dsimp only
              have hAq := (Below.refl _ wr).drew.alloc (Nat.le_refl _) (.cells #[.int .i64 q.1, .int .i64 q.2, .string ⟨#[]⟩, .complex .f64 0 0] 28)
              have HB8w := Lib.hid (hAq.trans (Below.mono hb8 hAq.size))
              have HB8 := Lib.hid ((HB.out).trans ((HB8w.out).mono (HB.out).size))
              clear hb8 hAq
              refine hK.out _ _ ?_ (fun hHeld => ?_)
              · exact (KB.out) _ HB8w.out
              clear hK K
              try simp only [Act.put, List.setIfInBounds_toArray, List.set_cons_zero, List.set_cons_succ]
              refine wpAnyH_take (i := 7) (oi := { dst := some 19, op := Op.assign (Operand.tmp 68), type := 3, pos := "more.go:29", after := #[{ on := 6, ground := Ground.data }, { on := 6, ground := Ground.chain }, { on := 0, ground := Ground.phase }, { on := 1, ground := Ground.phase }, { on := 2, ground := Ground.phase }, { on := 3, ground := Ground.phase }, { on := 4, ground := Ground.phase }, { on := 5, ground := Ground.phase }, { on := 6, ground := Ground.phase }], guard := none }) (v := ?_) rfl (by kernel_rfl) (by kernel_rfl) (by kernel_rfl) (fun _ _ _ h => h) (Or.inl ⟨by rfl, ?_⟩) (by assumption) ?_
              rotate_left
              · (intro w hSw; (try dsimp only at hSw); go_simp; try with_reducible rfl)
              try simp only [Act.put, List.setIfInBounds_toArray, List.set_cons_zero, List.set_cons_succ]
              refine wpAnyH_done (by kernel_rfl) ?_ _
              refine NoPanic.normal ?_
              clear KB K0 e1 e2 e3 e4
              have hoT := orT
              have hoF := orF
              have hoU := orU
              have hb3 := obits_snoc oo v (vals.take j) q
              rw [← HST.out] at hb3
              have HB3 := Lib.hid hb3
              clear hb3
              rcases trv_three oo v q with ht | ht | ht
              · rw [ht]
                have hb4 := (HB3.out).1 ht
                have HB4 := Lib.hid hb4
                clear hb4
                unfold obits
                go_wp2_with fail
                first
                  | exact ⟨⟨j + 1, hlt2, rfl, by rw [HB4.out], HB8.out⟩, by simp [intOf]; omega⟩
                  | (go_roundw
                     case rel => first | exact ⟨j + 1, hlt2, rfl, by rw [HB4.out], HB8.out⟩ | ((repeat apply Exists.intro); exact ⟨⟨j + 1, hlt2, rfl, by rw [HB4.out], HB8.out⟩, rfl⟩)
                     case measure => simp [intOf]; omega)
              · rw [ht]
                have hb4 := (HB3.out).2.1 ht
                have HB4 := Lib.hid hb4
                clear hb4
                unfold obits
                go_wp2_with fail
                first
                  | exact ⟨⟨j + 1, hlt2, rfl, by rw [HB4.out], HB8.out⟩, by simp [intOf]; omega⟩
                  | (go_roundw
                     case rel => first | exact ⟨j + 1, hlt2, rfl, by rw [HB4.out], HB8.out⟩ | ((repeat apply Exists.intro); exact ⟨⟨j + 1, hlt2, rfl, by rw [HB4.out], HB8.out⟩, rfl⟩)
                     case measure => simp [intOf]; omega)
              · rw [ht]
                have hb4 := (HB3.out).2.2 ht
                have HB4 := Lib.hid hb4
                clear hb4
                unfold obits
                go_wp2_with fail
                first
                  | exact ⟨⟨j + 1, hlt2, rfl, by rw [HB4.out], HB8.out⟩, by simp [intOf]; omega⟩
                  | (go_roundw
                     case rel => first | exact ⟨j + 1, hlt2, rfl, by rw [HB4.out], HB8.out⟩ | ((repeat apply Exists.intro); exact ⟨⟨j + 1, hlt2, rfl, by rw [HB4.out], HB8.out⟩, rfl⟩)
                     case measure => simp [intOf]; omega)
            · obtain rfl : j = m := by omega
              have hD2 : decide ((j : Int) < j) = false := by simp
              have ht : vals.take j = vals := by rw [← (HK.out).len]; exact List.take_length
              rw [ht]
              have hPB := (PB7.out).below HB.out
              have hSB := (SB7.out).below HB.out
              have p0 : wr.cell? ⟨w6.heap.size, 0, none⟩ = some (.int .i64 oo) := hPB.c 0
              have p1 : wr.cell? ⟨w6.heap.size, 1, none⟩ = some (.int .i64 0) := hPB.c 1
              have p2 : wr.cell? ⟨w6.heap.size, 2, none⟩ = some (.int .i64 1) := hPB.c 2
              have p3 : wr.cell? ⟨w6.heap.size, 3, none⟩ = some (.int .i64 v) := hPB.c 3
              have p4 : wr.cell? ⟨w6.heap.size, 4, none⟩ = some (.string ⟨#[]⟩) := hPB.c 4
              have p5 : wr.cell? ⟨w6.heap.size, 5, none⟩ = some (.complex .f64 0 0) := hPB.c 5
              have p6 : wr.cell? ⟨w6.heap.size, 6, none⟩ = some (.complex .f64 0 0) := hPB.c 6
              have p7 : wr.cell? ⟨w6.heap.size, 7, none⟩ = some (.complex .f64 0 0) := hPB.c 7
              have p8 : wr.cell? ⟨w6.heap.size, 8, none⟩ = some (.slice none 0 0) := hPB.c 8
              have s0 : wr.cell? ⟨w4.heap.size, 0, none⟩ = some (.int .i64 1) := hSB.c 0
              have s1 : wr.cell? ⟨w4.heap.size, 1, none⟩ = some (.int .i64 rows) := hSB.c 1
              have s2 : wr.cell? ⟨w4.heap.size, 2, none⟩ = some (.int .i64 nl) := hSB.c 2
              have s3 : wr.cell? ⟨w4.heap.size, 3, none⟩ = some (.int .i64 1) := hSB.c 3
              have s4 : wr.cell? ⟨w4.heap.size, 4, none⟩ = some (.int .i64 fr) := hSB.c 4
              have s5 : wr.cell? ⟨w4.heap.size, 5, none⟩ = some (.string ⟨#[]⟩) := hSB.c 5
              have s6 : wr.cell? ⟨w4.heap.size, 6, none⟩ = some (.complex .f64 0 0) := hSB.c 6
              have s7 : wr.cell? ⟨w4.heap.size, 7, none⟩ = some (.int .i64 1) := hSB.c 7
              have s8 : wr.cell? ⟨w4.heap.size, 8, none⟩ = some (.int .i64 H) := hSB.c 8
              have s9 : wr.cell? ⟨w4.heap.size, 9, none⟩ = some (.string ⟨#[]⟩) := hSB.c 9
              have s10 : wr.cell? ⟨w4.heap.size, 10, none⟩ = some (.complex .f64 0 0) := hSB.c 10
              have s11 : wr.cell? ⟨w4.heap.size, 11, none⟩ = some (.complex .f64 0 0) := hSB.c 11
              have s12 : wr.cell? ⟨w4.heap.size, 12, none⟩ = some (.complex .f64 0 0) := hSB.c 12
              have hp1 := hPB.lt
              have hp2 := hSB.lt
              have HEX := Lib.hid (HK.out).ex
              have HNE := Lib.hid (HK.out).ne
              have HON := Lib.hid (HK.out).one
              have hA := (Below.refl _ wr).alloc (Nat.le_refl _) (.cells #[.int .i64 1, .int .i64 rows, .int .i64 nl, .int .i64 1, .int .i64 fr, .string ⟨#[]⟩, .complex .f64 0 0, .int .i64 1, .int .i64 H, .string ⟨#[]⟩, .complex .f64 0 0, .complex .f64 0 0, .complex .f64 0 0] 33)
              have SX : Hid (VS (wr.alloc (.cells #[.int .i64 1, .int .i64 rows, .int .i64 nl, .int .i64 1, .int .i64 fr, .string ⟨#[]⟩, .complex .f64 0 0, .int .i64 1, .int .i64 H, .string ⟨#[]⟩, .complex .f64 0 0, .complex .f64 0 0, .complex .f64 0 0] 33)) wr.heap.size #[.int .i64 1, .int .i64 rows, .int .i64 nl, .int .i64 1, .int .i64 fr, .string ⟨#[]⟩, .complex .f64 0 0, .int .i64 1, .int .i64 H, .string ⟨#[]⟩, .complex .f64 0 0, .complex .f64 0 0, .complex .f64 0 0]) := Lib.hid (alloc_here wr _)
              have BX := Lib.hid ((BEL7.out).trans (((HB.out).trans (hA.mono (HB.out).size)).mono (BEL7.out).size))
              clear hPB hSB hA
              go_wp2_with fail
              have hp := Try.mayP (n := v) HOO.out SX.out HNE.out HON.out (cap := 1)
              refine hp.mono ?_
              clear hp
              rw [HEX.out]
              rintro e w9 ⟨rfl, hb9⟩
              have B9 := Lib.hid ((BX.out).trans (hb9.mono (BX.out).size))
              clear hb9
              go_wp2_with fail
              go_ret
              exact ⟨rfl, B9.out⟩
end Go.Proofs
end

section
namespace Go.Proofs
open Go.RowKit
set_option maxRecDepth 100000
theorem wf_i8 {n : Int} (h : (Lit.int .i8 n).wf = true) : -128 ≤ n ∧ n ≤ 127 := by
  simp [Lit.wf, IntKind.min, IntKind.max, IntKind.bits, IntKind.signed] at h
  omega
theorem wf_u8' {n : Int} (h : (Lit.int .u8 n).wf = true) : ∃ s : Nat, n = s := by
  simp [Lit.wf, IntKind.min, IntKind.max, IntKind.bits, IntKind.signed] at h
  exact ⟨n.toNat, by omega⟩
theorem Try.exact_all (w : World) (fr s v o : Int) (nb : Bool) (w0 : (Lit.int .i8 fr).wf = true) (w1 : (Lit.int .u8 s).wf = true) (w2 : (Lit.int .i8 v).wf = true) (w3 : (Lit.int .u8 o).wf = true) :
    Calls Try.prog 5 #[.int .i8 fr, .int .u8 s, .int .i8 v, .int .u8 o, .bool nb] w (YesV w) := by
  obtain ⟨s, rfl⟩ := wf_u8' w1
  obtain ⟨o, rfl⟩ := wf_u8' w3
  exact Try.exact w fr (wf_i8 w0) s v (wf_i8 w2) o nb
end Go.Proofs
end
