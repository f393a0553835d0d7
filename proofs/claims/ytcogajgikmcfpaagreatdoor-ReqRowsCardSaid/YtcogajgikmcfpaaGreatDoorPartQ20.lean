/-
  Texts of a proof over the translated program: proved evaluators and walks, part 20 of 23.
-/
import Derived.Test.YtcogajgikmcfpaaGreatDoorPartQ19
import Derived.Below
import Derived.BigQuiet
import Derived.Deep.Cut
import Derived.Deep.Draws
import Derived.Deep.QuietTactic
import Derived.Deep.RegionHeld3
import Derived.Deep.RegionWith
import Derived.Handy
import Derived.IntWalk
import Derived.Laws.AppendOwn
import Derived.Laws.Cells
import Derived.Laws.CopyRow
import Derived.Laws.Externs
import Derived.Laws.OwnMore
import Derived.Laws.Rows
import Derived.Laws.Strings
import Derived.Laws.Strings2
import Derived.Laws.Strings3
import Derived.Laws.StructEq
import Derived.Lib.AppendIntMem
import Derived.Lib.Builder
import Derived.Lib.Hide
import Derived.Lib.ItoaLen
import Derived.LoopTactic
import Derived.Outline
import Derived.OwnWalk
import Derived.ProofKit
import Derived.Scope
import Derived.ScopeJumps
import Derived.Shelf.LaysC
import Derived.Shelf.LaysM
import Derived.Shelf.Small.Strs
import Derived.Shelf.Strconv.Clone
import Derived.Shelf.Strconv.ErrVarParseInt
import Derived.Shelf.Strconv.Itoa0
import Derived.Shelf.Strconv.Itoa1
import Derived.Shelf.Strconv.Itoa2
import Derived.Shelf.Strconv.Itoa3
import Derived.Shelf.Strconv.Itoa4
import Derived.Shelf.Strconv.Lower
import Derived.Shelf.Strconv.ParseInt10
import Derived.Shelf.Strconv.ParseInt10All
import Derived.Shelf.Strconv.ParseInt10At16
import Derived.Shelf.Strconv.ParseInt10At32
import Derived.Shelf.Strconv.ParseInt10At64
import Derived.Shelf.Strconv.ParseInt10At8
import Derived.Shelf.Strconv.ParseIntEmpty
import Derived.Shelf.Strconv.ParseIntPublic10
import Derived.Shelf.Strconv.ParseUint10
import Derived.Shelf.Strconv.ParseUint10Any
import Derived.Shelf.Strconv.ParseUint10At
import Derived.Shelf.Strconv.ParseUint10Empty
import Derived.Shelf.Strconv.ParseUint10b16
import Derived.Shelf.Strconv.ParseUint10b32
import Derived.Shelf.Strconv.ParseUint10b64
import Derived.Shelf.Strconv.ParseUint10b8
import Derived.Shelf.Strconv.ParseUintEmpty
import Derived.Shelf.Strconv.RangeError
import Derived.Shelf.Strconv.SyntaxError
import Derived.Shelf.Strconv.ToError
import Derived.Shelf.Strconv.ToErrorRange
import Derived.Shelf.Strings.Builder1
import Derived.Shelf.Strings.BuilderF
import Derived.Shelf.Strings.BuilderK
import Derived.Shelf.Strings.Prefix
import Derived.Shelf.Strings.Search1
import Derived.Test.YtcogajgikmcfpaaGreatDoorProg
import Derived.WalkKit
import Derived.WalkMore
import Derived.WalkSpells
import Derived.Lib.Bytealg
set_option linter.unusedVariables false
set_option linter.unusedSimpArgs false
set_option linter.unusedSectionVars false
set_option linter.unnecessarySimpa false
section
namespace Go.Proofs.YtcogajgikmcfpaaGreatDoor
open Go.RowKit Go.NW Go.NR
set_option maxRecDepth 100000
structure PS (w : World) (P : Nat) (l : List UInt8) (a : Nat) : Prop where
  here : w.heap[P]? = some (.cells #[.string (bs l), .int .i64 (a : Int), .int .i64 0] 63 (0, 0))
theorem PS.lt {w : World} {P : Nat} {l : List UInt8} {a : Nat} (h : PS w P l a) : P < w.heap.size := (Array.getElem?_eq_some_iff.1 h.here).1
theorem PS.c0 {w : World} {P : Nat} {l : List UInt8} {a : Nat} (h : PS w P l a) : w.cell? ⟨P, 0, none⟩ = some (.string (bs l)) := by rw [cell_of_row w P 0 _ 63 _ h.here]; rfl
theorem PS.c1 {w : World} {P : Nat} {l : List UInt8} {a : Nat} (h : PS w P l a) : w.cell? ⟨P, 1, none⟩ = some (.int .i64 (a : Int)) := by rw [cell_of_row w P 1 _ 63 _ h.here]; rfl
theorem PS.c2 {w : World} {P : Nat} {l : List UInt8} {a : Nat} (h : PS w P l a) : w.cell? ⟨P, 2, none⟩ = some (.int .i64 0) := by rw [cell_of_row w P 2 _ 63 _ h.here]; rfl
theorem PS.z {w : World} {P : Nat} {l : List UInt8} {a : Nat} (h : PS w P l a) (i : Nat) : w.frozen? ⟨P, i, none⟩ = false := frozen_of_row w P i _ 63 h.here
theorem PS.stay {w w' : World} {P : Nat} {l : List UInt8} {a : Nat} (h : PS w P l a) (e : w'.heap[P]? = w.heap[P]?) : PS w' P l a := ⟨e.trans h.here⟩
theorem PS.below {w w' : World} {P : Nat} {l : List UInt8} {a : Nat} (h : PS w P l a) (hb : Below w.heap.size w w') : PS w' P l a := h.stay (hb.block P h.lt)
theorem PS.set {w : World} {P : Nat} {l : List UInt8} {a : Nat} (h : PS w P l a) (k : Nat) : PS (w.setCell ⟨P, 1, none⟩ (.int .i64 (k : Int))) P l k := ⟨by rw [heap_setCell_same w P 1 _ 63 _ h.here]; rfl⟩
theorem PS.drewN {w : World} {P : Nat} {l : List UInt8} {a : Nat} (h : PS w P l a) (n : Nat) : PS (w.drewN n) P l a := h.stay rfl
def posW (P : Nat) (w : World) : Nat := match w.cell? ⟨P, 1, none⟩ with | some (.int _ q) => q.toNat | _ => 0
theorem PS.pos {w : World} {P : Nat} {l : List UInt8} {a : Nat} (h : PS w P l a) : posW P w = a := by unfold posW; rw [h.c1]; simp
open Lib in
theorem ibyte_mem : ∀ (l : List UInt8) (c : UInt8), (c ∈ l → 0 ≤ indexByte l c) ∧ (c ∉ l → indexByte l c = -1)
  | [], c => ⟨fun h => by simp at h, fun _ => rfl⟩
  | b :: l, c => by
    obtain ⟨h1, h2⟩ := ibyte_mem l c
    have hg := indexByte_ge l c
    by_cases hb : b = c
    · subst hb
      exact ⟨fun _ => by simp [indexByte], fun h => absurd (List.mem_cons_self ..) h⟩
    · have hbc : (b == c) = false := by simpa using hb
      constructor
      · intro h
        have hm : c ∈ l := by
          rcases List.mem_cons.1 h with e | h
          · exact absurd e.symm hb
          · exact h
        have := h1 hm
        have hn : (indexByte l c == -1) = false := by simp; omega
        simp only [indexByte, hbc, hn]
        simp; omega
      · intro h
        have hm : c ∉ l := fun q => h (List.mem_cons_of_mem _ q)
        simp [indexByte, hbc, h2 hm]
theorem Tryz.ixB (E : List UInt8) (c : UInt8) (w : World) : Calls Tryz.prog 57 #[.string (bs E), .int .u8 (c.toNat : Int)] w fun e w' => e = .returned (.int .i64 (Lib.indexByte E c)) ∧ w' = w := by
  have h := Tryz.strings_IndexByte (bs E) (c.toNat : Int) w
  have e : ((c.toNat : Int)).toNat.toUInt8 = c := by simp
  rw [e, show (bs E).data.toList = E by simp [bs]] at h
  exact h
set_option maxHeartbeats 2000000 in
theorem Tryz.untilK (w : World) (P : Nat) (l : List UInt8) (a m n : Nat) (E wd : List UInt8) (h : PS w P l a) (hn : l.length = n) (hlen : n < 2 ^ 40) (hle : a + m ≤ n) (hw : (l.drop a).take m = wd) (hE : ∀ i y, i < m → l[a + i]? = some y → y ∉ E)
    (hS : a + m = n ∨ ∃ y, l[a + m]? = some y ∧ y ∈ E) :
    Calls Tryz.prog 28 #[.pointer (some ⟨P, 0, none⟩), .string (bs E)] w fun e w' => e = .returned (.string (bs wd)) ∧ PS w' P l (a + m) ∧ Chg w w' (· = P) := by
  have HP := Lib.hid h
  have HN := Lib.hid hn
  have HW := Lib.hid hw
  have HE := Lib.hid hE
  have HS := Lib.hid hS
  have c1 := h.c1
  have c2 := h.c2
  have hs0 : (bs l).size = n := by rw [bs_size, hn]
  have hG := bs_get
  clear h hn hw hE hS
  go_enter Tryz.func28, Tryz.ntmps28
  go_wp2
  refine wp_scope_once 0 (fun a' wr => ∃ k : Nat, k ≤ m ∧ Hid (PS wr P l (a + k)) ∧ Hid (Chg w wr (· = P)) ∧ ∃ u2 u3 u4 u6 u7 u8 u9 u10 u11 u12 u13 u14 u15 u16 u17 u18 u19 u20 u21 u22 u23 u24 u25 u26 u27 u28 u29 u30 u31 u32 u33 u34 u35 u36 u37 u38 u39 u40 u41 u42 u43 u44 u45 u46 u47 u48 u49 u50 u51 u52 u53 u54 u55 : Value, a' = { tmps := #[.pointer (some ⟨P, 0, none⟩), .string (bs E), u2, u3, u4, .int .i64 (a : Int), u6, u7, u8, u9, u10, u11, u12, u13, u14, u15, u16, u17, u18, u19, u20, u21, u22, u23, u24, u25, u26, u27, u28, u29, u30, u31, u32, u33, u34, u35, u36, u37, u38, u39, u40, u41, u42, u43, u44, u45, u46, u47, u48, u49, u50, u51, u52, u53, u54, u55], defers := [] }) (fun a' wr => a + m - posW P wr) rfl ?_ ?_
  · intro hL
    go_wp2_with (refine wp_label ?_; rename_i Q0 K0 hK; refine hK _ _ (hL _ _ ?_); exact ⟨0, Nat.zero_le _, HP, Lib.hid (Chg.refl _ _), _, _, _, _, _, _, _, _, _, _, _, _, _, _, _, _, _, _, _, _, _, _, _, _, _, _, _, _, _, _, _, _, _, _, _, _, _, _, _, _, _, _, _, _, _, _, _, _, _, _, _, _, _, rfl⟩)
  · rintro a' wr ⟨k, hk, HK, HC, u2, u3, u4, u6, u7, u8, u9, u10, u11, u12, u13, u14, u15, u16, u17, u18, u19, u20, u21, u22, u23, u24, u25, u26, u27, u28, u29, u30, u31, u32, u33, u34, u35, u36, u37, u38, u39, u40, u41, u42, u43, u44, u45, u46, u47, u48, u49, u50, u51, u52, u53, u54, u55, rfl⟩
    clear c1 c2
    have c0 := HK.out.c0
    have c1 := HK.out.c1
    have c2 := HK.out.c2
    have z1 := HK.out.z 1
    obtain ⟨j, hj⟩ : ∃ j, a + k = j := ⟨_, rfl⟩
    rw [hj] at c1
    by_cases hlt : k < m
    · obtain ⟨y, hy⟩ : ∃ y, l[j]? = some y := ⟨_, List.getElem?_eq_getElem (by rw [HN.out]; omega)⟩
      have hyE : y ∉ E := HE.out k y hlt (by rw [hj]; exact hy)
      have hc : ∀ w, Calls Tryz.prog 57 #[.string (bs E), .int .u8 (y.toNat : Int)] w fun e w' => e = .returned (.int .i64 (-1)) ∧ w' = w := fun w => (Tryz.ixB E y w).mono fun e w' ⟨he, hw⟩ => ⟨by rw [he, (ibyte_mem E y).2 hyE], hw⟩
      have d0 : decide ((j : Int) = n) = false := decide_eq_false (by omega)
      have d0' : ((j : Int) == n) = false := by simp; omega
      have d0'' : decide (j = n) = false := decide_eq_false (by omega)
      have hjn : j < (bs l).size := by omega
      have s1 : IntKind.i64.wrap ((j : Int) + 1) = ((j + 1 : Nat) : Int) := by rw [wrapi (by omega) (by omega)]; omega
      have hg : (bs l)[j]'hjn = y := by rw [bs_get]; exact (List.getElem?_eq_some_iff.1 hy).2
      have HY := Lib.hid hy
      have hjn' : j < n := by omega
      clear hy hyE hG
      go_wp2_with fail
      go_quiet ((go_at_call 57; exact Calls.quiet_of_same (hc _)))
      go_wp2_with fail
      refine wp_goto ?_
      refine ⟨rfl, ⟨k + 1, by omega, Lib.hid ?_, Lib.hid ?_, _, _, _, _, _, _, _, _, _, _, _, _, _, _, _, _, _, _, _, _, _, _, _, _, _, _, _, _, _, _, _, _, _, _, _, _, _, _, _, _, _, _, _, _, _, _, _, _, _, _, _, _, _, rfl⟩, ?_⟩
      · rw [show a + (k + 1) = j + 1 by omega]
        exact (HK.out.drewN _).set (j + 1)
      · exact (HC.out.drewN _).trans (Chg.setCell _ _ _)
      · show a + m - posW P ((wr.drewN _).setCell ⟨P, 1, none⟩ (.int .i64 ((j + 1 : Nat) : Int))) < a + m - posW P wr
        rw [((HK.out.drewN _).set (j + 1)).pos, HK.out.pos]
        omega
    · obtain rfl : k = m := by omega
      have HF : Hid (PS wr P l (a + k) ∧ Chg w wr (· = P)) := Lib.hid ⟨HK.out, HC.out⟩
      have hs1 : (bs l).extract a j = bs wd := by rw [bs_ext, ← HW.out, ← hj, Nat.add_sub_cancel_left]
      have HJ := Lib.hid hj
      have e1 : (a : Int) ≤ j := by omega
      have e2 : (j : Int) ≤ n := by omega
      have e3 : a ≤ j := by omega
      have e4 : j ≤ n := by omega
      have HS1 := Lib.hid hs1
      rcases HS.out with hS | ⟨y, hy, hyE⟩
      · rw [hj] at hS
        have d0 : decide ((j : Int) = n) = true := decide_eq_true (by omega)
        have d0' : ((j : Int) == n) = true := by simp; omega
        have d0'' : decide (j = n) = true := decide_eq_true (by omega)
        clear hS hj hs1 hG
        go_wp2_with fail
        go_quiet (fail)
        go_wp2_with fail
        go_quiet (fail)
        go_wp2_with fail
        simp only [Exit.jump]
        rw [HS1.out]
        go_ret
        exact ⟨rfl, HF.out.1.stay rfl, HF.out.2.drewN _⟩
      · rw [hj] at hy
        have hc := Tryz.ixB E y
        have hr0 := (ibyte_mem E y).1 hyE
        generalize Lib.indexByte E y = r at hc hr0
        have hlt' := (List.getElem?_eq_some_iff.1 hy).1
        rw [HN.out] at hlt'
        have d0 : decide ((j : Int) = n) = false := decide_eq_false (by omega)
        have d0' : ((j : Int) == n) = false := by simp; omega
        have d0'' : decide (j = n) = false := decide_eq_false (by omega)
        have hjn : j < (bs l).size := by omega
        have hg : (bs l)[j]'hjn = y := by rw [bs_get]; exact (List.getElem?_eq_some_iff.1 hy).2
        have d1 : decide (r ≥ 0) = true := decide_eq_true hr0
        have d1' : decide (0 ≤ r) = true := decide_eq_true hr0
        clear hy hyE hG hj hs1
        go_wp2_with fail
        go_quiet ((go_at_call 57; exact Calls.quiet_of_same (hc _)))
        go_wp2_with fail
        go_quiet (fail)
        go_wp2_with fail
        simp only [Exit.jump]
        rw [HS1.out]
        go_ret
        exact ⟨rfl, HF.out.1.stay rfl, HF.out.2.drewN _⟩
theorem Tryz.until (w : World) (P : Nat) (l pre wd rest : List UInt8) (a : Nat) (E : List UInt8) (h : PS w P l a) (hl : l = pre ++ (wd ++ rest)) (ha : pre.length = a) (hlen : l.length < 2 ^ 40) (hw : ∀ c ∈ wd, c ∉ E) (hr : rest = [] ∨ ∃ c r, rest = c :: r ∧ c ∈ E) :
    Calls Tryz.prog 28 #[.pointer (some ⟨P, 0, none⟩), .string (bs E)] w fun e w' => e = .returned (.string (bs wd)) ∧ PS w' P l (a + wd.length) ∧ Chg w w' (· = P) := by
  subst ha
  refine Tryz.untilK w P l pre.length wd.length l.length E wd h rfl hlen (by rw [hl]; simp) (by rw [hl]; simp) ?_ ?_
  · intro i y hi hy
    rw [hl, List.getElem?_append_right (by omega), Nat.add_sub_cancel_left, List.getElem?_append_left hi] at hy
    exact hw y (List.mem_of_getElem? hy)
  · rcases hr with rfl | ⟨c, r, rfl, hc⟩
    · exact .inl (by rw [hl]; simp)
    · refine .inr ⟨c, ?_, hc⟩
      rw [hl, List.getElem?_append_right (by omega), Nat.add_sub_cancel_left, List.getElem?_append_right (Nat.le_refl _)]
      simp
set_option maxHeartbeats 1000000 in
theorem Tryz.tookY (w : World) (P : Nat) (l pre rest : List UInt8) (a : Nat) (c : UInt8) (h : PS w P l a) (hl : l = pre ++ c :: rest) (ha : pre.length = a) (hlen : l.length < 2 ^ 40) :
    Calls Tryz.prog 58 #[.pointer (some ⟨P, 0, none⟩), .int .u8 (c.toNat : Int)] w fun e w' => e = .returned (.bool true) ∧ PS w' P l (a + 1) ∧ Chg w w' (· = P) := by
  have HP := Lib.hid h
  have c0 := h.c0
  have c1 := h.c1
  have c2 := h.c2
  have z1 := h.z 1
  have hlt : a < l.length := by rw [hl, ← ha]; simp
  have hy : l[a]? = some c := by rw [hl, ← ha]; simp
  have hs0 : (bs l).size = l.length := bs_size l
  have hjn : a < (bs l).size := by omega
  have hg : (bs l)[a]'hjn = c := by rw [bs_get]; exact (List.getElem?_eq_some_iff.1 hy).2
  generalize l.length = n at hlen hlt hs0
  have d0 : decide ((a : Int) = n) = false := decide_eq_false (by omega)
  have d0' : ((a : Int) == n) = false := by simp; omega
  have d0'' : decide (a = n) = false := decide_eq_false (by omega)
  have s1 : IntKind.i64.wrap ((a : Int) + 1) = ((a + 1 : Nat) : Int) := by rw [wrapi (by omega) (by omega)]; omega
  clear h hl ha hy
  go_enter Tryz.func58, Tryz.ntmps58
  go_wp2_with fail
  go_quiet (fail)
  go_wp2_with fail
  go_ret
  exact ⟨rfl, (HP.out.drewN _).set (a + 1), ((Chg.refl w (· = P)).drewN _).trans (Chg.setCell _ _ _)⟩
set_option maxHeartbeats 1000000 in
theorem Tryz.tookN (w : World) (P : Nat) (l pre rest : List UInt8) (a : Nat) (c : UInt8) (h : PS w P l a) (hl : l = pre ++ rest) (ha : pre.length = a) (hlen : l.length < 2 ^ 40) (hr : rest = [] ∨ ∃ d r, rest = d :: r ∧ d ≠ c) :
    Calls Tryz.prog 58 #[.pointer (some ⟨P, 0, none⟩), .int .u8 (c.toNat : Int)] w fun e w' => e = .returned (.bool false) ∧ PS w' P l a ∧ Chg w w' (· = P) := by
  have HP := Lib.hid h
  have c0 := h.c0
  have c1 := h.c1
  have c2 := h.c2
  have hs0 : (bs l).size = l.length := bs_size l
  rcases hr with rfl | ⟨d, r, rfl, hd⟩
  · have hn : l.length = a := by rw [hl, ← ha]; simp
    rw [hn] at hs0 hlen
    clear h hl ha hn
    go_enter Tryz.func58, Tryz.ntmps58
    go_wp2_with fail
    go_quiet (fail)
    go_wp2_with fail
    go_ret
    exact ⟨rfl, HP.out.drewN _, (Chg.refl w (· = P)).drewN _⟩
  · have hlt : a < l.length := by rw [hl, ← ha]; simp
    have hy : l[a]? = some d := by rw [hl, ← ha]; simp
    have hjn : a < (bs l).size := by omega
    have hg : (bs l)[a]'hjn = d := by rw [bs_get]; exact (List.getElem?_eq_some_iff.1 hy).2
    generalize l.length = n at hlen hlt hs0
    have d0 : decide ((a : Int) = n) = false := decide_eq_false (by omega)
    have d0' : ((a : Int) == n) = false := by simp; omega
    have d0'' : decide (a = n) = false := decide_eq_false (by omega)
    have hdc : d.toNat ≠ c.toNat := fun e => hd (UInt8.toNat_inj.1 e)
    have d1 : ((d.toNat : Int) == (c.toNat : Int)) = false := by simp; omega
    have d1' : ((d.toNat : Int) != (c.toNat : Int)) = true := by simp [bne]; omega
    have d1'' : decide ((d.toNat : Int) = (c.toNat : Int)) = false := by simp; omega
    clear h hl ha hy hd hdc
    go_enter Tryz.func58, Tryz.ntmps58
    go_wp2_with fail
    go_quiet (fail)
    go_wp2_with fail
    go_ret
    exact ⟨rfl, HP.out.drewN _, (Chg.refl w (· = P)).drewN _⟩
theorem Tryz.need (w : World) (P : Nat) (l pre rest : List UInt8) (a : Nat) (c : UInt8) (h : PS w P l a) (hl : l = pre ++ c :: rest) (ha : pre.length = a) (hlen : l.length < 2 ^ 40) :
    Calls Tryz.prog 29 #[.pointer (some ⟨P, 0, none⟩), .int .u8 (c.toNat : Int)] w fun e w' => e = .returned (.tuple #[]) ∧ PS w' P l (a + 1) ∧ Chg w w' (· = P) := by
  have hc := Tryz.tookY w P l pre rest a c h hl ha hlen
  clear h hl ha hlen
  go_enter Tryz.func29, Tryz.ntmps29
  go_wp2_with fail
  refine hc.mono ?_
  rintro e w1 ⟨rfl, h1, h2⟩
  have H1 := Lib.hid h1
  have H2 := Lib.hid h2
  clear h1 h2 hc
  go_wp2_with fail
  go_end0
  exact ⟨rfl, H1.out, H2.out⟩
theorem Tryz.fail0 (w : World) (P : Nat) (l : List UInt8) (a : Nat) (h : PS w P l a) :
    Calls Tryz.prog 33 #[.pointer (some ⟨P, 0, none⟩), .int .i64 0] w fun e w' => e = .returned (.tuple #[]) ∧ PS w' P l a ∧ Chg w w' (· = P) := by
  have HP := Lib.hid h
  have c2 := h.c2
  have z2 := h.z 2
  have hs : PS (w.setCell ⟨P, 2, none⟩ (.int .i64 0)) P l a := ⟨by rw [heap_setCell_same w P 2 _ 63 _ h.here]; rfl⟩
  have HS := Lib.hid hs
  clear h hs
  go_enter Tryz.func33, Tryz.ntmps33
  go_wp2_with fail
  go_end0
  exact ⟨rfl, HS.out, Chg.setCell _ _ _⟩
theorem Tryz.doneP (w : World) (P : Nat) (l : List UInt8) (h : PS w P l l.length) (hlen : l.length < 2 ^ 40) :
    Calls Tryz.prog 25 #[.pointer (some ⟨P, 0, none⟩)] w fun e w' => e = .returned (.int .i64 0) ∧ PS w' P l l.length ∧ Chg w w' (· = P) := by
  have HP := Lib.hid h
  have c0 := h.c0
  have c1 := h.c1
  have c2 := h.c2
  have hs0 : (bs l).size = l.length := bs_size l
  generalize l.length = n at *
  have d0 : decide ((n : Int) < n) = false := by simp
  have d0' : decide (n < n) = false := by simp
  clear h
  go_enter Tryz.func25, Tryz.ntmps25
  go_wp2_with fail
  go_quiet (fail)
  go_wp2_with fail
  go_ret
  exact ⟨rfl, HP.out.drewN _, (Chg.refl w (· = P)).drewN _⟩
end Go.Proofs.YtcogajgikmcfpaaGreatDoor
end

section
namespace Go.Proofs.YtcogajgikmcfpaaGreatDoor
open Go.RowKit Go.NW Go.Lib
def tV : List Int → List UInt8
  | [] => []
  | m :: r => 44 :: (itoa m ++ tV r)
def rT : List Int → List UInt8
  | [] => []
  | n :: r => itoa n ++ tV r
def tR : List (List Int) → List UInt8
  | [] => []
  | r :: R => 59 :: (rT r ++ tR R)
def RT : List (List Int) → List UInt8
  | [] => []
  | r :: R => rT r ++ tR R
theorem tV_snoc (n : Int) : ∀ r : List Int, tV (r ++ [n]) = tV r ++ 44 :: itoa n
  | [] => by simp [tV]
  | m :: r => by simp [tV, tV_snoc n r]
theorem tR_snoc (r : List Int) : ∀ R : List (List Int), tR (R ++ [r]) = tR R ++ 59 :: rT r
  | [] => by simp [tR]
  | q :: R => by simp [tR, tR_snoc r R]
theorem rT_snoc (r : List Int) (n : Int) (h : r ≠ []) : rT (r ++ [n]) = rT r ++ 44 :: itoa n := by
  cases r with
  | nil => exact absurd rfl h
  | cons m r => simp [rT, tV_snoc]
theorem RT_one (r : List Int) : RT [r] = rT r := by simp [RT, tR]
theorem RT_snoc (R : List (List Int)) (r : List Int) (h : R ≠ []) : RT (R ++ [r]) = RT R ++ 59 :: rT r := by
  cases R with
  | nil => exact absurd rfl h
  | cons q R => simp [RT, tR_snoc]
theorem RT_more (R : List (List Int)) (r : List Int) (n : Int) (h : r ≠ []) : RT (R ++ [r ++ [n]]) = RT (R ++ [r]) ++ 44 :: itoa n := by
  by_cases hR : R = []
  · subst hR; simp [RT_one, rT_snoc r n h]
  · rw [RT_snoc R _ hR, RT_snoc R _ hR, rT_snoc r n h]; simp
def I64 (n : Int) : Prop := -9223372036854775808 ≤ n ∧ n ≤ 9223372036854775807
theorem itoa_chars (n : Int) : ∀ c ∈ itoa n, c = 45 ∨ dig c = true := by
  intro c hc
  obtain ⟨d, r, h1, h2, h3, h4⟩ := itoa_form n
  have ha := dec_all n.natAbs
  rw [h1] at ha
  have key : ∀ x ∈ d :: r, dig x = true := fun x hx => List.all_eq_true.1 ha x hx
  rcases h4 with ⟨_, e⟩ | ⟨_, e⟩
  · rw [e] at hc; exact .inr (key c hc)
  · rw [e] at hc
    rcases List.mem_cons.1 hc with rfl | hc
    · exact .inl rfl
    · exact .inr (key c hc)
def ends4 : List UInt8 := [32, 44, 59, 41]
def ends5 : List UInt8 := [32, 44, 59, 41, 40]
theorem itoa_word (n : Int) : ∀ c ∈ itoa n, c ∉ ends4 := by
  intro c hc h
  rcases itoa_chars n c hc with rfl | hd
  · revert h; decide
  · simp only [ends4, List.mem_cons, List.not_mem_nil, or_false] at h
    rcases h with rfl | rfl | rfl | rfl <;> revert hd <;> decide
theorem itoa_ne (n : Int) : itoa n ≠ [] := by
  obtain ⟨d, r, h1, h2, h3, h4⟩ := itoa_form n
  rcases h4 with ⟨_, e⟩ | ⟨_, e⟩ <;> rw [e] <;> simp
def Stops (E rest : List UInt8) : Prop := rest = [] ∨ ∃ c r, rest = c :: r ∧ c ∈ E
theorem stops_tV (r : List Int) (rest : List UInt8) (h : rest = [] ∨ ∃ q, rest = 59 :: q) : Stops ends4 (tV r ++ rest) := by
  cases r with
  | nil =>
    rcases h with rfl | ⟨q, rfl⟩
    · exact .inl rfl
    · exact .inr ⟨59, q, rfl, by decide⟩
  | cons m r => exact .inr ⟨44, itoa m ++ tV r ++ rest, by simp [tV], by decide⟩
theorem tR_end (R : List (List Int)) : tR R = [] ∨ ∃ q, tR R = 59 :: q := by
  cases R with
  | nil => exact .inl rfl
  | cons r R => exact .inr ⟨_, rfl⟩
theorem tV_len : ∀ (r : List Int), (∀ n ∈ r, I64 n) → (tV r).length ≤ 22 * r.length
  | [], _ => by simp [tV]
  | m :: r, h => by
    have h1 := itoa_length_le m (h m (List.mem_cons_self ..)).1 (h m (List.mem_cons_self ..)).2
    have h2 := tV_len r fun n hn => h n (List.mem_cons_of_mem _ hn)
    simp [tV]
    omega
theorem rT_len (r : List Int) (h : ∀ n ∈ r, I64 n) : (rT r).length ≤ 22 * r.length := by
  cases r with
  | nil => simp [rT]
  | cons m r =>
    have h1 := itoa_length_le m (h m (List.mem_cons_self ..)).1 (h m (List.mem_cons_self ..)).2
    have h2 := tV_len r fun n hn => h n (List.mem_cons_of_mem _ hn)
    simp [rT]
    omega
def cnt : List (List Int) → Nat
  | [] => 0
  | r :: R => r.length + cnt R
theorem cnt_snoc (r : List Int) : ∀ R : List (List Int), cnt (R ++ [r]) = cnt R + r.length
  | [] => by simp [cnt]
  | q :: R => by simp [cnt, cnt_snoc r R]; omega
def GR (R : List (List Int)) : Prop := ∀ r ∈ R, r ≠ [] ∧ ∀ n ∈ r, I64 n
theorem tR_len : ∀ (R : List (List Int)), GR R → (tR R).length ≤ 23 * cnt R
  | [], _ => by simp [tR]
  | r :: R, h => by
    have h0 := h r (List.mem_cons_self ..)
    have h1 := rT_len r h0.2
    have h2 := tR_len R fun q hq => h q (List.mem_cons_of_mem _ hq)
    have h3 : 0 < r.length := by cases r with
      | nil => exact absurd rfl h0.1
      | cons a b => simp
    simp [tR, cnt]
    omega
theorem RT_len (R : List (List Int)) (h : GR R) : (RT R).length ≤ 23 * cnt R := by
  cases R with
  | nil => simp [RT]
  | cons r R =>
    have h0 := h r (List.mem_cons_self ..)
    have h1 := rT_len r h0.2
    have h2 := tR_len R fun q hq => h q (List.mem_cons_of_mem _ hq)
    simp [RT, cnt]
    omega
theorem cnt_ge : ∀ (R : List (List Int)), GR R → R.length ≤ cnt R ∧ ∀ r ∈ R, r.length ≤ cnt R
  | [], _ => ⟨Nat.zero_le _, fun r h => by simp at h⟩
  | r :: R, h => by
    have h0 := h r (List.mem_cons_self ..)
    obtain ⟨h1, h2⟩ := cnt_ge R fun q hq => h q (List.mem_cons_of_mem _ hq)
    have h3 : 0 < r.length := by cases r with
      | nil => exact absurd rfl h0.1
      | cons a b => simp
    refine ⟨by simp [cnt]; omega, fun q hq => ?_⟩
    rcases List.mem_cons.1 hq with rfl | hq
    · simp [cnt]
    · have := h2 q hq
      simp [cnt]; omega
end Go.Proofs.YtcogajgikmcfpaaGreatDoor
end

section
namespace Go.Proofs.YtcogajgikmcfpaaGreatDoor
open Go.RowKit Go.NW Go.NR
set_option maxRecDepth 100000
def vc (n : Int) : List Value := [.int .i64 1, .int .i64 n, .string ⟨#[]⟩, .complex .f64 0 0]
def flat (ns : List Int) : List Value := ns.flatMap vc
theorem flat_snoc (ns : List Int) (q : Int) : flat (ns ++ [q]) = flat ns ++ vc q := by simp [flat]
theorem flat_get : ∀ (qs : List Int) (i : Nat) (x : Int) (hi : qs[i]? = some x) (j : Nat), j < 4 → (flat qs)[i * 4 + j]? = (vc x)[j]?
  | [], i, x, hi, _, _ => by simp at hi
  | q :: qs, 0, x, hi, j, hj => by
    have : flat (q :: qs) = vc q ++ flat qs := rfl
    simp at hi
    subst hi
    rw [this, List.getElem?_append_left (by simp [vc]; omega)]
    simp
  | q :: qs, i + 1, x, hi, j, hj => by
    have : flat (q :: qs) = vc q ++ flat qs := rfl
    have hl : (vc q).length = 4 := rfl
    rw [this, List.getElem?_append_right (by omega), hl, show (i + 1) * 4 + j - 4 = i * 4 + j by omega, flat_get qs i x (by simpa using hi) j hj]
theorem vc_one (n : Int) : ∀ u ∈ vc n, u.oneCell' = true := by
  intro u hu
  simp [vc] at hu
  rcases hu with rfl | rfl | rfl | rfl <;> rfl
def VO (t : TypeId) (w : World) (B : Nat) (v : Value) (ns : List Int) : Prop := w.ownsRow B t 4 v ns.length (flat ns)
def VA (w : World) (g : Nat) (ns : List Int) : Prop := ∀ (i : Nat) (x : Int), ns[i]? = some x → w.cell? ⟨g, i * 4, none⟩ = some (.int .i64 1) ∧ w.cell? ⟨g, i * 4 + 1, none⟩ = some (.int .i64 x) ∧ w.cell? ⟨g, i * 4 + 2, none⟩ = some (.string ⟨#[]⟩) ∧ w.cell? ⟨g, i * 4 + 3, none⟩ = some (.complex .f64 0 0)
theorem VA.below {w w' : World} {g : Nat} {ns : List Int} (h : VA w g ns) (hb : Below w.heap.size w w') : VA w' g ns := by
  intro i x hi
  obtain ⟨a, b, c, d⟩ := h i x hi
  have hlt := block_lt_of_cell a
  exact ⟨(hb.cell (p := ⟨g, i * 4, none⟩) hlt).trans a, (hb.cell (p := ⟨g, i * 4 + 1, none⟩) hlt).trans b, (hb.cell (p := ⟨g, i * 4 + 2, none⟩) hlt).trans c, (hb.cell (p := ⟨g, i * 4 + 3, none⟩) hlt).trans d⟩
theorem VO.va {t : TypeId} {w : World} {B : Nat} {v : Value} {ns : List Int} (h : VO t w B v ns) (hn : ns ≠ []) : ∃ g c, v = .slice (some ⟨g, 0, none⟩) ns.length c ∧ B ≤ g ∧ ns.length ≤ c ∧ c ≤ maxLen ∧ VA w g ns := by
  obtain ⟨g, c, rfl, h1, h2, h3, h4, h5, _⟩ := own_at h (by cases ns; exact absurd rfl hn; simp)
  refine ⟨g, c, rfl, h1, h3, h4, fun i x hi => ?_⟩
  have hlt := (List.getElem?_eq_some_iff.1 hi).1
  have key : ∀ j, j < 4 → w.cell? ⟨g, i * 4 + j, none⟩ = (vc x)[j]? := fun j hj => (h5 (i * 4 + j) (by omega)).trans (flat_get ns i x hi j hj)
  exact ⟨key 0 (by omega), key 1 (by omega), key 2 (by omega), key 3 (by omega)⟩
structure WR (te t : TypeId) (w : World) (B : Nat) (v : Value) (R : List (List Int)) (svs : List Value) : Prop where
  own : w.ownsRow B te 1 v svs.length svs
  len : svs.length = R.length
  row : ∀ (i : Nat) (r : List Int) (sv : Value), R[i]? = some r → svs[i]? = some sv → VO t w B sv r
  apart : svs.Pairwise fun x y => ∀ k, x.ownBlock = some k → y.ownBlock ≠ some k
theorem own_ne {w : World} {B B' : Nat} {e e' : TypeId} {s s' n n' : Nat} {v v' : Value} {xs xs' : List Value} (h : w.ownsRow B e s v n xs) (h' : w.ownsRow B' e' s' v' n' xs') (hne : e ≠ e') : ∀ k, v.ownBlock = some k → v'.ownBlock ≠ some k := by
  intro k hk hk'
  rcases h.2 with ⟨rfl, _⟩ | ⟨g, cap, cur, rfl, _, hg, _⟩
  · simp [Value.ownBlock] at hk
  · rcases h'.2 with ⟨rfl, _⟩ | ⟨g', cap', cur', rfl, _, hg', _⟩
    · simp [Value.ownBlock] at hk'
    · simp [Value.ownBlock] at hk hk'
      subst hk
      subst hk'
      rw [hg] at hg'
      simp at hg'
      exact hne hg'.2
theorem WR.nil (te t : TypeId) (w : World) (B : Nat) : WR te t w B (.slice none 0 0) [] [] := ⟨World.ownsRow_nil _ _ _ _, rfl, fun i r sv h => by simp at h, List.Pairwise.nil⟩
theorem WR.mem {te t : TypeId} {w : World} {B : Nat} {v : Value} {R : List (List Int)} {svs : List Value} (h : WR te t w B v R svs) {sv : Value} (hs : sv ∈ svs) : ∃ r, r ∈ R ∧ VO t w B sv r := by
  obtain ⟨i, hi⟩ := List.mem_iff_getElem?.1 hs
  have hlt := (List.getElem?_eq_some_iff.1 hi).1
  rw [h.len] at hlt
  exact ⟨R[i], List.getElem_mem _, h.row i _ sv (List.getElem?_eq_getElem hlt) hi⟩
theorem WR.chg {te t : TypeId} {w w' : World} {B : Nat} {v : Value} {R : List (List Int)} {svs : List Value} {S : Nat → Prop} (h : WR te t w B v R svs) (hc : Chg w w' S) (hs : ∀ k, B ≤ k → ¬ S k) : WR te t w' B v R svs :=
  ⟨own_chg h.own hc fun k hk => hs k (h.own.lt k hk).1, h.len, fun i r sv hi hsv => own_chg (h.row i r sv hi hsv) hc fun k hk => hs k ((h.row i r sv hi hsv).lt k hk).1, h.apart⟩
theorem WR.below {te t : TypeId} {w w' : World} {B : Nat} {v : Value} {R : List (List Int)} {svs : List Value} (h : WR te t w B v R svs) (hb : Below w.heap.size w w') : WR te t w' B v R svs :=
  ⟨own_below h.own hb, h.len, fun i r sv hi hsv => own_below (h.row i r sv hi hsv) hb, h.apart⟩
theorem WR.push {te t : TypeId} {w w' : World} {B : Nat} {v v' sv : Value} {R : List (List Int)} {r : List Int} {svs : List Value} (h : WR te t w B v R svs) (hv : VO t w B sv r) (hf : ∀ x ∈ svs, ∀ k, x.ownBlock = some k → sv.ownBlock ≠ some k)
    (ho : w'.ownsRow B te 1 v' (svs.length + 1) (svs ++ [sv])) (hg : w.grownBy w' v.ownBlock) (hte : te ≠ t) : WR te t w' B v' (R ++ [r]) (svs ++ [sv]) := by
  have stay : ∀ x q, VO t w B x q → VO t w' B x q := fun x q hx => hx.kept hg (by
    rcases hb : x.ownBlock with _ | k
    · exact .inl rfl
    · exact .inr fun e => own_ne h.own hx hte k e.symm hb)
  refine ⟨by simpa using ho, by simp [h.len], fun i q x hi hx => ?_, ?_⟩
  · by_cases hl : i < R.length
    · rw [List.getElem?_append_left hl] at hi
      rw [List.getElem?_append_left (by rw [h.len]; exact hl)] at hx
      exact stay x q (h.row i q x hi hx)
    · have hlt := (List.getElem?_eq_some_iff.1 hi).1
      simp at hlt
      obtain rfl : i = R.length := by omega
      rw [List.getElem?_append_right (Nat.le_refl _)] at hi
      rw [List.getElem?_append_right (by rw [h.len]; exact Nat.le_refl _), h.len] at hx
      simp at hi hx
      subst hi
      subst hx
      exact stay _ _ hv
  · rw [List.pairwise_append]
    refine ⟨h.apart, List.pairwise_singleton _ _, fun x hx y hy k hk => ?_⟩
    simp at hy
    subst hy
    exact hf x hx k hk
def RA (w : World) (G : Nat) (R : List (List Int)) : Prop := ∀ (i : Nat) (r : List Int), R[i]? = some r → ∃ g c, w.cell? ⟨G, i, none⟩ = some (.slice (some ⟨g, 0, none⟩) r.length c) ∧ r.length ≤ c ∧ c ≤ maxLen ∧ VA w g r
theorem RA.below {w w' : World} {G : Nat} {R : List (List Int)} (h : RA w G R) (hb : Below w.heap.size w w') : RA w' G R := by
  intro i r hi
  obtain ⟨g, c, h1, h2, h3, h4⟩ := h i r hi
  exact ⟨g, c, (hb.cell (p := ⟨G, i, none⟩) (block_lt_of_cell h1)).trans h1, h2, h3, h4.below hb⟩
theorem WR.ra {te t : TypeId} {w : World} {B : Nat} {v : Value} {R : List (List Int)} {svs : List Value} (h : WR te t w B v R svs) (hR : R ≠ []) (hr : ∀ r ∈ R, r ≠ []) : ∃ G c, v = .slice (some ⟨G, 0, none⟩) R.length c ∧ R.length ≤ c ∧ c ≤ maxLen ∧ B ≤ G ∧ RA w G R := by
  have hl := h.len
  obtain ⟨G, c, rfl, h1, h2, h3, h4, h5, _⟩ := own_at h.own (by rw [hl]; cases R; exact absurd rfl hR; simp)
  refine ⟨G, c, by rw [hl], by omega, h4, h1, fun i r hi => ?_⟩
  have hlt := (List.getElem?_eq_some_iff.1 hi).1
  have hsv : svs[i]? = some (svs[i]'(by omega)) := List.getElem?_eq_getElem (by omega)
  obtain ⟨g, cc, e, _, k1, k2, k3⟩ := (h.row i r _ hi hsv).va (hr r (List.mem_of_getElem? hi))
  refine ⟨g, cc, ?_, k1, k2, k3⟩
  rw [h5 i (by omega), hsv, e]
theorem Tryz.E46 : Elems Tryz.prog 46 25 4 48 (.agg #[.int .i64 0, .int .i64 0, .string ⟨#[]⟩, .complex .f64 0 0]) := ⟨by kernel_rfl, by kernel_rfl, rfl, by decide, by decide⟩
theorem Tryz.E36 : Elems Tryz.prog 36 46 1 24 (.slice none 0 0) := ⟨by kernel_rfl, by kernel_rfl, rfl, by decide, by decide⟩
theorem Tryz.E79 : Elems Tryz.prog 79 112 4 48 (.agg #[.int .i64 0, .int .i64 0, .string ⟨#[]⟩, .complex .f64 0 0]) := ⟨by kernel_rfl, by kernel_rfl, rfl, by decide, by decide⟩
theorem Tryz.E51 : Elems Tryz.prog 51 79 1 24 (.slice none 0 0) := ⟨by kernel_rfl, by kernel_rfl, rfl, by decide, by decide⟩
theorem one_cells (w : World) (t : Nat) (n : Int) : ∀ (j : Nat) (u : Value), (vc n)[j]? = some u → (w.alloc (.cells #[.int .i64 1, .int .i64 n, .string ⟨#[]⟩, .complex .f64 0 0] t)).cell? ⟨w.heap.size, j, none⟩ = some u := by
  intro j u hu
  rw [cell_of_block (heap_alloc_new w _) j]
  have : (#[Value.int .i64 1, .int .i64 n, .string ⟨#[]⟩, .complex .f64 0 0] : Array Value)[j]? = (vc n)[j]? := by simp [vc]
  rw [this]; exact hu
theorem VO.push {t : TypeId} {w' : World} {B : Nat} {v' : Value} {ns : List Int} {n : Int} (h : w'.ownsRow B t 4 v' (ns.length + 1) (flat ns ++ vc n)) : VO t w' B v' (ns ++ [n]) := by
  unfold VO
  rw [flat_snoc, List.length_append]
  exact h
end Go.Proofs.YtcogajgikmcfpaaGreatDoor
end

section
namespace Go.Proofs.YtcogajgikmcfpaaGreatDoor
open Go.RowKit Go.NW Go.NR
set_option maxRecDepth 100000
theorem nz_result1 {P : Program} {fn : Func} {c : Tmp} {t : TypeId} (h : fn.results = #[.cell c t]) (tmps : Array Value) (w : World) (b e : Nat) (cs : Array Value) (fs : Array Field) (ht : tmps.getD c undef = .pointer (some ⟨b, 0, none⟩)) (hh : w.heap[b]? = some (.cells cs e (0, 0)))
    (hq : (P.info? t).map (·.size) = some cs.size) (hu : P.underlying t = some (.struct fs)) : (results fn tmps).run P w = .ok (.agg cs) w := by
  have hl : (loadCells ⟨b, 0, none⟩ cs.size).run P w = .ok cs w := by
    have := run_loadCells_list (P := P) w ⟨b, 0, none⟩ cs.toList (fun j v hj => by
      have e : (⟨b, 0, none⟩ : Addr).add j = ⟨b, j, none⟩ := by unfold Addr.add; split <;> simp_all
      rw [e, cell_of_row w b j _ _ _ hh, ← hj]
      simp)
    simpa using this
  have ht' : tmps[c]?.getD undef = .pointer (some ⟨b, 0, none⟩) := by simpa using ht
  simp [results, h, ht', asAddr, loadVar, isAgg_run w hu, sizeOf_run w hq, hl]
def Zo : Obj := .cells #[.int .i64 0, .int .i64 0, .string ⟨#[]⟩, .complex .f64 0 0] 25
set_option maxHeartbeats 1000000 in
theorem Tryz.valueN {B : Nat} {w : World} (hD : DoorI B w) (hB : B ≤ w.heap.size) (P : Nat) (hBP : B ≤ P) (l pre rest : List UInt8) (a : Nat) (n : Int) (h : PS w P l a) (hl : l = pre ++ (Lib.itoa n ++ rest)) (ha : pre.length = a) (hlen : l.length < 2 ^ 40) (hn : I64 n) (hr : Stops ends4 rest) :
    Calls Tryz.prog 54 #[.pointer (some ⟨P, 0, none⟩)] w fun e w' => e = .returned (vN n) ∧ PS w' P l (a + (Lib.itoa n).length) ∧ Chg w w' (· = P) := by
  have hPl := h.lt
  obtain ⟨m, hm⟩ : ∃ m, (Lib.itoa n).length = m := ⟨_, rfl⟩
  have hu := Tryz.until (w.alloc Zo) P l pre (Lib.itoa n) rest a ends4 (h.stay (Below.heap_alloc w _ P hPl)) hl ha hlen (itoa_word n) hr
  rw [hm] at hu ⊢
  have hm40 : m < 2 ^ 40 := by have := congrArg List.length hl; simp at this; omega
  have HU := Lib.hid hu
  have HD := Lib.hid hD
  have HN := Lib.hid hn
  have HM := Lib.hid hm
  clear hu hD h hl ha hlen hr hm
  go_enter Tryz.func54, Tryz.ntmps54
  go_wp2_with fail
  refine HU.out.mono ?_
  rintro e w1 ⟨rfl, p1, g1⟩
  have P1 := Lib.hid p1
  have G1 : Hid (Chg w w1 (· = P)) := Lib.hid (((Chg.refl w _).alloc' Zo).trans' g1 fun b _ h => h)
  have D1 : Hid (DoorI B w1) := Lib.hid (HD.out.on (G1.out.isBelow hB fun b hb => by omega))
  have Z0 : Hid (w1.heap[w.heap.size]? = some Zo) := Lib.hid ((g1.block _ (by simp) (by omega)).trans (heap_alloc_new w _))
  clear p1 g1 HU
  go_wp2_with fail
  have hpi := itoa_pint n HN.out.1 HN.out.2
  have hpp := Tryz.parseN D1.out (Nat.le_trans hB G1.out.size) (Lib.itoa n) (by rw [HM.out]; exact hm40) (itoa_1 n) (itoa_2 n) (itoa_3 n)
  rw [hpi] at hpp
  refine hpp.mono ?_
  clear hpp hpi
  rintro e w2 ⟨rfl, b2⟩
  have P2 := Lib.hid (P1.out.below b2)
  have G2 := Lib.hid (G1.out.call b2)
  have Z2 : Hid (w2.heap[w.heap.size]? = some Zo) := Lib.hid ((b2.block _ (heap_lt Z0.out)).trans Z0.out)
  have L2 : Hid (w.heap.size < w2.heap.size) := Lib.hid (heap_lt Z2.out)
  clear b2 P1 G1 Z0
  have hc2 : (w2.alloc (.cells #[.int .i64 0, .int .i64 0, .string ⟨#[]⟩, .complex .f64 0 0] 25)).heap[w2.heap.size]? = some (.cells zero4 25 (0, 0)) := heap_alloc_new w2 _
  have HC2 := Lib.hid hc2
  clear hc2
  have P3 : Hid (PS ((w2.alloc (.cells #[.int .i64 0, .int .i64 0, .string ⟨#[]⟩, .complex .f64 0 0] 25)).setRow w2.heap.size (cells4 1 n ⟨#[]⟩ 0 0)) P l (a + m)) := Lib.hid (P2.out.stay ((setRow_else _ _ _ P (by have := P2.out.lt; omega)).trans (Below.heap_alloc w2 _ P P2.out.lt)))
  go_wp2_with (refine nw_store_row _ rfl 25 (.tmp 3) (.tmp 9) rfl w2.heap.size 25 (cells4 1 n ⟨#[]⟩ 0 0) zero4 rfl rfl HC2.out rfl (Tryz.size25 _ rfl) (one4 _ _ _ _ _) ?_)
  refine (Tryz.fail0 _ P l (a + m) P3.out).mono ?_
  rintro e w4 ⟨rfl, p4, g4⟩
  have P4 := Lib.hid p4
  have C4 : Hid (w4.heap[w2.heap.size]? = some (.cells (cells4 1 n ⟨#[]⟩ 0 0) 25 (0, 0))) := Lib.hid ((g4.block _ (by rw [setRow_size]; simp) (by have := P2.out.lt; omega)).trans (setRow_here _ _ _ _ _ HC2.out))
  have Z4 : Hid (w4.heap[w.heap.size]? = some (.cells zero4 25 (0, 0))) := Lib.hid ((g4.block _ (by rw [setRow_size]; simp; have := L2.out; omega) (by omega)).trans ((setRow_else _ _ _ _ (by have := L2.out; omega)).trans ((Below.heap_alloc w2 _ _ L2.out).trans Z2.out)))
  have G4 : Hid (Chg w w4 (· = P)) := Lib.hid (((G2.out.alloc' _).setRow _ _ (fun h => absurd h (by have := L2.out; omega))).trans g4)
  clear p4 g4
  go_wp2_with (first | (refine nw_load_row _ rfl 25 (.tmp 3) rfl w2.heap.size 25 (cells4 1 n ⟨#[]⟩ 0 0) _ rfl C4.out (Tryz.size25 _ rfl) Tryz.st25 ?_) | (refine nw_store_row _ rfl 25 (.tmp 2) (.tmp 14) rfl w.heap.size 25 (cells4 1 n ⟨#[]⟩ 0 0) zero4 rfl rfl Z4.out rfl (Tryz.size25 _ rfl) (one4 _ _ _ _ _) ?_))
  refine bodyPost_ret (v := vN n) (nz_result1 (show Tryz.f54.results = #[.cell 2 25] from rfl) _ _ w.heap.size 25 (cells4 1 n ⟨#[]⟩ 0 0) _ rfl (setRow_here _ _ _ _ _ Z4.out) (Tryz.size25 _ rfl) Tryz.st25) rfl ⟨rfl, ?_, ?_⟩
  · exact P4.out.stay (setRow_else _ _ _ _ (by omega))
  · exact G4.out.setRow _ _ (fun h => absurd h (by omega))
def lenV : Value → Nat
  | .slice _ n _ => n
  | _ => 0
theorem own_len {w : World} {B : Nat} {e : TypeId} {size : Nat} {v : Value} {n : Nat} {xs : List Value} (h : w.ownsRow B e size v n xs) : lenV v = n := by
  rcases h.2 with ⟨rfl, rfl⟩ | ⟨g, cap, cur, rfl, _⟩ <;> rfl
structure RowS (w wr : World) (P : Nat) (l : List UInt8) (r : List Int) (rest : List UInt8) (v : Value) (b : Nat) (done : List Int) (n : Int) (more : List Int) : Prop where
  eq : r = done ++ n :: more
  own : VO 25 wr w.heap.size v done
  ps : PS wr P l b
  txt : ∃ pre, l = pre ++ (Lib.itoa n ++ (tV more ++ rest)) ∧ pre.length = b
  chg : Chg w wr (· = P)
set_option maxHeartbeats 1000000 in
theorem Tryz.rowN {B : Nat} {w : World} (hD : DoorI B w) (hB : B ≤ w.heap.size) (P : Nat) (hBP : B ≤ P) (l pre rest : List UInt8) (a : Nat) (r : List Int) (h : PS w P l a) (hl : l = pre ++ (rT r ++ rest)) (ha : pre.length = a) (hlen : l.length < 2 ^ 20) (hr : r ≠ []) (hi : ∀ n ∈ r, I64 n) (hre : rest = [] ∨ ∃ q, rest = 59 :: q) :
    Calls Tryz.prog 61 #[.pointer (some ⟨P, 0, none⟩)] w fun e w' => ∃ v, e = .returned v ∧ VO 25 w' w.heap.size v r ∧ PS w' P l (a + (rT r).length) ∧ Chg w w' (· = P) := by
  obtain ⟨n0, r0, rfl⟩ : ∃ n0 r0, r = n0 :: r0 := by
    cases r with
    | nil => exact absurd rfl hr
    | cons x y => exact ⟨x, y, rfl⟩
  have hPl := h.lt
  have S0 : Hid (RowS w w P l (n0 :: r0) rest (.slice none 0 0) a [] n0 r0) := Lib.hid ⟨rfl, World.ownsRow_nil _ _ _ _, h, ⟨pre, by rw [hl]; simp [rT], ha⟩, Chg.refl _ _⟩
  have hrl : (n0 :: r0).length ≤ 2 ^ 20 := by
    have h1 := congrArg List.length hl
    have h2 : ∀ q : List Int, q.length ≤ (tV q).length := fun q => by
      induction q with
      | nil => simp
      | cons x q ih => simp [tV]; omega
    have := h2 r0
    have h3 : 0 < (Lib.itoa n0).length := by
      cases hq : Lib.itoa n0 with
      | nil => exact absurd hq (itoa_ne n0)
      | cons a b => simp
    simp [rT] at h1 ⊢
    omega
  have HL := Lib.hid hl
  have HA := Lib.hid ha
  have HD := Lib.hid hD
  have HI := Lib.hid hi
  have HRE := Lib.hid hre
  have HRL := Lib.hid hrl
  generalize hR : n0 :: r0 = R at S0 HL HI HRL ⊢
  clear hR h hl ha hD hr hi hre hrl
  go_enter Tryz.func61, Tryz.ntmps61
  go_wp2
  refine wp_scope_once 0 (fun a' wr => ∃ (v : Value) (b : Nat) (done : List Int) (n : Int) (more : List Int), Hid (RowS w wr P l R rest v b done n more) ∧ ∃ u1 u2 u4 u5 u6 u7 u8 u9 u10 u11 : Value, a' = { tmps := #[.pointer (some ⟨P, 0, none⟩), u1, u2, v, u4, u5, u6, u7, u8, u9, u10, u11], defers := [] }) (fun a' wr => R.length - lenV (a'.tmps.getD 3 undef)) rfl ?_ ?_
  · intro hL
    go_wp2_with (refine wp_label ?_; rename_i Q0 K0 hK; refine hK _ _ (hL _ _ ?_); exact ⟨_, _, _, _, _, S0, _, _, _, _, _, _, _, _, _, _, rfl⟩)
  · rintro a' wr ⟨v, b, done, n, more, HS, u1, u2, u4, u5, u6, u7, u8, u9, u10, u11, rfl⟩
    go_wp2_with fail
    obtain ⟨pre', ht, hb'⟩ := HS.out.txt
    have hnm : n ∈ R := by rw [HS.out.eq]; simp
    have GB : Hid (DoorI B wr) := Lib.hid (HD.out.on (HS.out.chg.isBelow hB fun b hb => by omega))
    have hst : Stops ends4 (tV more ++ rest) := stops_tV more rest HRE.out
    have hv := Tryz.valueN GB.out (Nat.le_trans hB HS.out.chg.size) P hBP l pre' (tV more ++ rest) b n HS.out.ps ht hb' (by omega) (HI.out n hnm) hst
    have HT := Lib.hid ht
    have HB' := Lib.hid hb'
    clear ht hb' hnm hst
    refine hv.mono ?_
    clear hv
    rintro e w1 ⟨rfl, p1, g1⟩
    have P1 := Lib.hid p1
    have G1 := Lib.hid (HS.out.chg.trans g1)
    have O1 : Hid (VO 25 w1 w.heap.size v done) := Lib.hid (own_chg HS.out.own g1 fun k hk e => by
      have := (HS.out.own.lt k hk).1
      have e : k = P := e
      omega)
    clear p1 g1 GB
    have O2 : Hid ((w1.alloc (.cells #[.int .i64 1, .int .i64 n, .string ⟨#[]⟩, .complex .f64 0 0] 25)).ownsRow w.heap.size 25 4 v done.length (flat done)) := Lib.hid (O1.out.alloc _)
    have C2 := Lib.hid (one_cells w1 25 n)
    have hdl : done.length + 1 ≤ R.length := by rw [HS.out.eq]; simp
    unfold vN
    go_wp2_with (at_builtin; refine wpList_app Tryz.E46 rfl (.tmp 4) (.tmp 7) rfl w.heap.size v done.length (flat done) rfl O2.out w1.heap.size 1 1 (vc n) rfl rfl C2.out (vc_one n) (by have := HRL.out; omega) (by have := G1.out.size; simp; omega) ?_)
    intro v3 w3 o3 g3
    have O3 : Hid (VO 25 w3 w.heap.size v3 (done ++ [n])) := Lib.hid (VO.push o3)
    have G3 : Hid (Chg w w3 (· = P)) := Lib.hid ((G1.out.alloc' _).grown g3 fun k hk hlt => absurd (O1.out.lt k hk).1 (by omega))
    have P3 : Hid (PS w3 P l (b + (Lib.itoa n).length)) := Lib.hid (P1.out.stay ((g3.block P (by have := P1.out.lt; simp; omega) (fun e => by have := (O1.out.lt P e.symm).1; omega)).trans (Below.heap_alloc w1 _ P P1.out.lt)))
    clear o3 g3 O2 C2 O1 P1
    go_wp2_with fail
    cases more with
    | nil =>
      have ht : l = (pre' ++ Lib.itoa n) ++ rest := by rw [HT.out]; simp [tV]
      have hk := Tryz.tookN w3 P l (pre' ++ Lib.itoa n) rest (b + (Lib.itoa n).length) 44 P3.out ht (by rw [List.length_append, HB'.out]) (by omega) (by
        rcases HRE.out with h | ⟨q, h⟩
        · exact .inl h
        · exact .inr ⟨59, q, h, by decide⟩)
      have HE : Hid (b + (Lib.itoa n).length = a + (rT R).length) := Lib.hid (by
        have h1 := congrArg List.length ht
        have h2 := congrArg List.length HL.out
        have h3 := HB'.out
        have h4 := HA.out
        simp only [List.length_append] at h1 h2
        omega)
      have HR : Hid (R = done ++ [n]) := Lib.hid HS.out.eq
      clear ht
      refine hk.mono ?_
      clear hk
      rintro e w4 ⟨rfl, p4, g4⟩
      have P4 := Lib.hid p4
      have G4 := Lib.hid (G3.out.trans g4)
      have O4 : Hid (VO 25 w4 w.heap.size v3 (done ++ [n])) := Lib.hid (own_chg O3.out g4 fun k hk e => by
        have := (O3.out.lt k hk).1
        have e : k = P := e
        omega)
      clear p4 g4
      go_wp2_with fail
      simp only [Exit.jump]
      go_ret
      exact ⟨_, rfl, by rw [HR.out]; exact O4.out, by rw [← HE.out]; exact P4.out, G4.out⟩
    | cons m more =>
      have ht : l = (pre' ++ Lib.itoa n) ++ 44 :: (Lib.itoa m ++ (tV more ++ rest)) := by rw [HT.out]; simp [tV]
      have hk := Tryz.tookY w3 P l (pre' ++ Lib.itoa n) (Lib.itoa m ++ (tV more ++ rest)) (b + (Lib.itoa n).length) 44 P3.out ht (by rw [List.length_append, HB'.out]) (by omega)
      have HT2 : Hid (∃ pre, l = pre ++ (Lib.itoa m ++ (tV more ++ rest)) ∧ pre.length = b + (Lib.itoa n).length + 1) := Lib.hid ⟨pre' ++ Lib.itoa n ++ [44], by rw [ht]; simp, by simp [HB'.out]; omega⟩
      clear ht
      refine hk.mono ?_
      clear hk
      rintro e w4 ⟨rfl, p4, g4⟩
      have SS : Hid (RowS w w4 P l R rest v3 (b + (Lib.itoa n).length + 1) (done ++ [n]) m more) := Lib.hid ⟨by rw [HS.out.eq]; simp, own_chg O3.out g4 fun k hk e => by
        have := (O3.out.lt k hk).1
        have e : k = P := e
        omega, p4, HT2.out, G3.out.trans g4⟩
      have hm : lenV v3 = done.length + 1 := by rw [own_len O3.out]; simp
      have hm0 : lenV v = done.length := own_len HS.out.own
      have HM : Hid (R.length - lenV v3 < R.length - lenV v) := Lib.hid (by omega)
      clear p4 g4 hm hm0
      go_wp2_with fail
      refine wp_goto ?_
      exact ⟨rfl, ⟨_, _, _, _, _, SS, _, _, _, _, _, _, _, _, _, _, rfl⟩, HM.out⟩
end Go.Proofs.YtcogajgikmcfpaaGreatDoor
end

section
namespace Go.Proofs.YtcogajgikmcfpaaGreatDoor
open Go.RowKit Go.NW Go.NR
set_option maxRecDepth 100000
theorem own_one {w : World} {B : Nat} {e : TypeId} {size : Nat} {v : Value} {n : Nat} {xs : List Value} (h : w.ownsRow B e size v n xs) : v.oneCell' = true := by
  rcases h.2 with ⟨rfl, rfl⟩ | ⟨g, cap, cur, rfl, _⟩ <;> rfl
theorem one_cell (w : World) (t : Nat) (v : Value) : ∀ (j : Nat) (u : Value), [v][j]? = some u → (w.alloc (.cells #[v] t)).cell? ⟨w.heap.size, j, none⟩ = some u := by
  intro j u hu
  rw [cell_of_block (heap_alloc_new w _) j]
  have : (#[v] : Array Value)[j]? = [v][j]? := by simp
  rw [this]; exact hu
theorem WR.apart_new {te t : TypeId} {w w' : World} {B : Nat} {v sv : Value} {R : List (List Int)} {r : List Int} {svs : List Value} (h : WR te t w B v R svs) (hv : VO t w' w.heap.size sv r) : ∀ x ∈ svs, ∀ k, x.ownBlock = some k → sv.ownBlock ≠ some k := by
  intro x hx k hk hk'
  obtain ⟨q, _, hq⟩ := h.mem hx
  have h1 := (World.ownsRow.lt hq k hk).2
  have h2 := (World.ownsRow.lt hv k hk').1
  omega
structure RowsS (w wr : World) (P : Nat) (l : List UInt8) (R : List (List Int)) (v : Value) (svs : List Value) (b : Nat) (done : List (List Int)) (r : List Int) (more : List (List Int)) : Prop where
  eq : R = done ++ r :: more
  wR : WR 46 25 wr w.heap.size v done svs
  ps : PS wr P l b
  txt : ∃ pre, l = pre ++ (rT r ++ tR more) ∧ pre.length = b
  chg : Chg w wr (· = P)
set_option maxHeartbeats 1000000 in
theorem Tryz.rowsN {B : Nat} {w : World} (hD : DoorI B w) (hB : B ≤ w.heap.size) (P : Nat) (hBP : B ≤ P) (l pre : List UInt8) (a : Nat) (R : List (List Int)) (h : PS w P l a) (hl : l = pre ++ RT R) (ha : pre.length = a) (hlen : l.length < 2 ^ 20) (hr : R ≠ []) (hi : GR R) :
    Calls Tryz.prog 32 #[.pointer (some ⟨P, 0, none⟩)] w fun e w' => ∃ v svs, e = .returned v ∧ WR 46 25 w' w.heap.size v R svs ∧ PS w' P l l.length ∧ Chg w w' (· = P) := by
  obtain ⟨n0, r0, rfl⟩ : ∃ n0 r0, R = n0 :: r0 := by
    cases R with
    | nil => exact absurd rfl hr
    | cons x y => exact ⟨x, y, rfl⟩
  have hPl := h.lt
  have S0 : Hid (RowsS w w P l (n0 :: r0) (.slice none 0 0) [] a [] n0 r0) := Lib.hid ⟨rfl, WR.nil _ _ _ _, h, ⟨pre, hl, ha⟩, Chg.refl _ _⟩
  have hrl : (n0 :: r0).length ≤ 2 ^ 20 := by
    have h1 := congrArg List.length hl
    have h2 : ∀ q : List (List Int), q.length ≤ (tR q).length := fun q => by
      induction q with
      | nil => simp
      | cons x q ih => simp [tR]; omega
    have := h2 r0
    have h3 : 0 < (rT n0).length := by
      cases n0 with
      | nil => exact absurd rfl (hi [] (List.mem_cons_self ..)).1
      | cons x y =>
        cases hq : Lib.itoa x with
        | nil => exact absurd hq (itoa_ne x)
        | cons a b => simp [rT, hq]
    simp [RT] at h1 ⊢
    omega
  have HD := Lib.hid hD
  have HI := Lib.hid hi
  have HRL := Lib.hid hrl
  generalize hR : n0 :: r0 = R at S0 HI HRL ⊢
  clear hR h hl ha hD hr hi hrl
  go_enter Tryz.func32, Tryz.ntmps32
  go_wp2
  refine wp_scope_once 0 (fun a' wr => ∃ (v : Value) (svs : List Value) (b : Nat) (done : List (List Int)) (r : List Int) (more : List (List Int)), Hid (RowsS w wr P l R v svs b done r more) ∧ ∃ u1 u2 u4 u5 u6 u7 u8 u9 u10 u11 : Value, a' = { tmps := #[.pointer (some ⟨P, 0, none⟩), u1, u2, v, u4, u5, u6, u7, u8, u9, u10, u11], defers := [] }) (fun a' wr => R.length - lenV (a'.tmps.getD 3 undef)) rfl ?_ ?_
  · intro hL
    go_wp2_with (refine wp_label ?_; rename_i Q0 K0 hK; refine hK _ _ (hL _ _ ?_); exact ⟨_, _, _, _, _, _, S0, _, _, _, _, _, _, _, _, _, _, rfl⟩)
  · rintro a' wr ⟨v, svs, b, done, r, more, HS, u1, u2, u4, u5, u6, u7, u8, u9, u10, u11, rfl⟩
    go_wp2_with fail
    obtain ⟨pre', ht, hb'⟩ := HS.out.txt
    have hnm : r ∈ R := by rw [HS.out.eq]; simp
    have GB : Hid (DoorI B wr) := Lib.hid (HD.out.on (HS.out.chg.isBelow hB fun b hb => by omega))
    have hv := Tryz.rowN GB.out (Nat.le_trans hB HS.out.chg.size) P hBP l pre' (tR more) b r HS.out.ps ht hb' hlen (HI.out r hnm).1 (HI.out r hnm).2 (tR_end more)
    have HT := Lib.hid ht
    have HB' := Lib.hid hb'
    clear ht hb' hnm
    refine hv.mono ?_
    clear hv
    rintro e w1 ⟨sv, rfl, o1, p1, g1⟩
    obtain ⟨m, sg, sc, rfl⟩ : ∃ m sg sc, sv = .slice (some ⟨sg, 0, none⟩) m sc := by
      obtain ⟨sg, sc, e, _⟩ := o1.va (HI.out r (by rw [HS.out.eq]; simp)).1
      exact ⟨_, sg, sc, e⟩
    have hPw : ∀ k, w.heap.size ≤ k → ¬ (k = P) := fun k hk => by omega
    have P1 := Lib.hid p1
    have G1 := Lib.hid (HS.out.chg.trans g1)
    have F1 := Lib.hid (HS.out.wR.apart_new o1)
    have O1 : Hid (VO 25 w1 w.heap.size (Value.slice (some ⟨sg, 0, none⟩) m sc) r) := Lib.hid (own_mono o1 HS.out.chg.size)
    have W1 : Hid (WR 46 25 w1 w.heap.size v done svs) := Lib.hid (HS.out.wR.chg g1 hPw)
    have HP1 : Hid ((Value.slice (some ⟨sg, 0, none⟩) m sc).oneCell' = true) := Lib.hid (own_one o1)
    clear p1 g1 GB o1 hPw
    have W2 : Hid (WR 46 25 (w1.alloc (.cells #[(Value.slice (some ⟨sg, 0, none⟩) m sc)] 46)) w.heap.size v done svs) := Lib.hid (W1.out.below ((Below.refl _ w1).alloc (Nat.le_refl _) _))
    have O2 : Hid (VO 25 (w1.alloc (.cells #[(Value.slice (some ⟨sg, 0, none⟩) m sc)] 46)) w.heap.size (Value.slice (some ⟨sg, 0, none⟩) m sc) r) := Lib.hid (O1.out.alloc _)
    have C2 := Lib.hid (one_cell w1 46 (Value.slice (some ⟨sg, 0, none⟩) m sc))
    have hdl : svs.length + 1 ≤ R.length := by rw [HS.out.wR.len, HS.out.eq]; simp
    go_wp2_with (at_builtin; refine wpList_app Tryz.E36 rfl (.tmp 4) (.tmp 7) rfl w.heap.size v svs.length svs rfl W2.out.own w1.heap.size 1 1 [(Value.slice (some ⟨sg, 0, none⟩) m sc)] rfl rfl C2.out (by intro u hu; simp at hu; subst hu; exact HP1.out) (by have := HRL.out; omega) (by have := G1.out.size; simp; omega) ?_)
    intro v3 w3 o3 g3
    have O3 : Hid (WR 46 25 w3 w.heap.size v3 (done ++ [r]) (svs ++ [(Value.slice (some ⟨sg, 0, none⟩) m sc)])) := Lib.hid (W2.out.push O2.out F1.out o3 g3 (by decide))
    have G3 : Hid (Chg w w3 (· = P)) := Lib.hid ((G1.out.alloc' _).grown g3 fun k hk hlt => absurd (W1.out.own.lt k hk).1 (by omega))
    have P3 : Hid (PS w3 P l (b + (rT r).length)) := Lib.hid (P1.out.stay ((g3.block P (by have := P1.out.lt; simp; omega) (fun e => by have := (W1.out.own.lt P e.symm).1; omega)).trans (Below.heap_alloc w1 _ P P1.out.lt)))
    clear o3 g3 O2 C2 O1 P1 W1 W2
    go_wp2_with fail
    have hPw : ∀ k, w.heap.size ≤ k → ¬ (k = P) := fun k hk => by omega
    have HPW := Lib.hid hPw
    clear hPw
    cases more with
    | nil =>
      have ht : l = (pre' ++ rT r) ++ [] := by rw [HT.out]; simp [tR]
      have hk := Tryz.tookN w3 P l (pre' ++ rT r) [] (b + (rT r).length) 59 P3.out ht (by rw [List.length_append, HB'.out]) (by omega) (.inl rfl)
      have HE : Hid (b + (rT r).length = l.length) := Lib.hid (by
        have h1 := congrArg List.length ht
        have h3 := HB'.out
        simp only [List.length_append, List.length_nil] at h1
        omega)
      have HR : Hid (R = done ++ [r]) := Lib.hid HS.out.eq
      clear ht
      refine hk.mono ?_
      clear hk
      rintro e w4 ⟨rfl, p4, g4⟩
      have P4 := Lib.hid p4
      have G4 := Lib.hid (G3.out.trans g4)
      have O4 : Hid (WR 46 25 w4 w.heap.size v3 (done ++ [r]) (svs ++ [(Value.slice (some ⟨sg, 0, none⟩) m sc)])) := Lib.hid (O3.out.chg g4 HPW.out)
      clear p4 g4
      go_wp2_with fail
      simp only [Exit.jump]
      go_ret
      exact ⟨_, _, rfl, by rw [HR.out]; exact O4.out, by rw [← HE.out]; exact P4.out, G4.out⟩
    | cons q more =>
      have ht : l = (pre' ++ rT r) ++ 59 :: (rT q ++ tR more) := by rw [HT.out]; simp [tR]
      have hk := Tryz.tookY w3 P l (pre' ++ rT r) (rT q ++ tR more) (b + (rT r).length) 59 P3.out ht (by rw [List.length_append, HB'.out]) (by omega)
      have HT2 : Hid (∃ pre, l = pre ++ (rT q ++ tR more) ∧ pre.length = b + (rT r).length + 1) := Lib.hid ⟨pre' ++ rT r ++ [59], by rw [ht]; simp, by simp [HB'.out]; omega⟩
      clear ht
      refine hk.mono ?_
      clear hk
      rintro e w4 ⟨rfl, p4, g4⟩
      have SS : Hid (RowsS w w4 P l R v3 (svs ++ [(Value.slice (some ⟨sg, 0, none⟩) m sc)]) (b + (rT r).length + 1) (done ++ [r]) q more) := Lib.hid ⟨by rw [HS.out.eq]; simp, O3.out.chg g4 HPW.out, p4, HT2.out, G3.out.trans g4⟩
      have hm : lenV v3 = svs.length + 1 := by rw [own_len O3.out.own]; simp
      have hm0 : lenV v = svs.length := own_len HS.out.wR.own
      have HM : Hid (R.length - lenV v3 < R.length - lenV v) := Lib.hid (by omega)
      clear p4 g4 hm hm0
      go_wp2_with fail
      refine wp_goto ?_
      exact ⟨rfl, ⟨_, _, _, _, _, _, SS, _, _, _, _, _, _, _, _, _, _, rfl⟩, HM.out⟩
end Go.Proofs.YtcogajgikmcfpaaGreatDoor
end

section
namespace Go.Proofs.YtcogajgikmcfpaaGreatDoor
open Go.RowKit Go.NW Go.NR
set_option maxRecDepth 100000
def appendB : List UInt8 := [97, 112, 112, 101, 110, 100, 32]
def zero13 : Array Value := #[.int .i64 0, .int .i64 0, .slice none 0 0, .int .i64 0, .int .i64 0, .int .i64 0, .int .i64 0, .string ⟨#[]⟩, .complex .f64 0 0, .complex .f64 0 0, .complex .f64 0 0, .slice none 0 0, .slice none 0 0]
def reqC (v : Value) : Array Value := #[.int .i64 4, .int .i64 0, .slice none 0 0, .int .i64 0, .int .i64 0, .int .i64 0, .int .i64 0, .string ⟨#[]⟩, .complex .f64 0 0, .complex .f64 0 0, .complex .f64 0 0, .slice none 0 0, v]
theorem Tryz.size38 : ∀ n, n = 13 → (Tryz.prog.info? 38).map (·.size) = some n := fun n h => by subst h; kernel_rfl
theorem Tryz.st38 : Tryz.prog.underlying 38 = some (.struct (Tryz.prog.fieldsOf 38)) := by kernel_rfl
theorem WR.mono {te t : TypeId} {w : World} {B B' : Nat} {v : Value} {R : List (List Int)} {svs : List Value} (h : WR te t w B v R svs) (hb : B' ≤ B) : WR te t w B' v R svs :=
  ⟨own_mono h.own hb, h.len, fun i r sv hi hsv => own_mono (h.row i r sv hi hsv) hb, h.apart⟩
set_option maxHeartbeats 1000000 in
theorem Tryz.parseA {B : Nat} {w : World} (hD : DoorI B w) (hB : B ≤ w.heap.size) (R : List (List Int)) (hR : R ≠ []) (hi : GR R) (hlen : (RT R).length < 2 ^ 19) :
    Calls Tryz.prog 13 #[.string (bs (appendB ++ RT R))] w fun e w' => ∃ v svs, e = .returned (.tuple #[.agg (reqC v), .int .i64 0]) ∧ WR 46 25 w' w.heap.size v R svs ∧ Below w.heap.size w w' := by
  have HD := Lib.hid hD
  have HI := Lib.hid hi
  have HR := Lib.hid hR
  obtain ⟨l, hl⟩ : ∃ l, appendB ++ RT R = l := ⟨_, rfl⟩
  rw [hl]
  have hll : l.length < 2 ^ 20 := by rw [← hl]; simp [appendB]; omega
  obtain ⟨W, hW⟩ : ∃ W, ((w.alloc (.cells zero13 38)).alloc (.cells #[.string (bs l), .int .i64 0, .int .i64 0] 63)).alloc (.cells zero13 38) = W := ⟨_, rfl⟩
  have hWP : PS W (w.heap.size + 1) l 0 := ⟨by
    rw [← hW, Below.heap_alloc _ _ _ (by simp)]
    have := heap_alloc_new (w.alloc (.cells zero13 38)) (.cells #[.string (bs l), .int .i64 0, .int .i64 0] 63)
    simpa using this⟩
  have hW2 : W.heap[w.heap.size]? = some (.cells zero13 38 (0, 0)) := by
    rw [← hW, Below.heap_alloc _ _ _ (by simp; omega), Below.heap_alloc _ _ _ (by simp)]
    exact heap_alloc_new w _
  have hW5 : W.heap[w.heap.size + 1 + 1]? = some (.cells zero13 38 (0, 0)) := by
    rw [← hW]
    have := heap_alloc_new ((w.alloc (.cells zero13 38)).alloc (.cells #[.string (bs l), .int .i64 0, .int .i64 0] 63)) (.cells zero13 38)
    simpa using this
  have hWs : W.heap.size = w.heap.size + 3 := by rw [← hW]; simp
  have hWB : Below w.heap.size w W := by
    rw [← hW]
    exact (((Below.refl _ w).alloc (Nat.le_refl _) _).alloc (by simp) _).alloc (by simp; omega) _
  have hu := Tryz.until W (w.heap.size + 1) l [] [97, 112, 112, 101, 110, 100] (32 :: RT R) 0 ends5 hWP (by rw [← hl]; rfl) rfl (by omega) (by decide) (.inr ⟨32, _, rfl, by decide⟩)
  rw [← hW] at hu
  have HU := Lib.hid hu
  have HW := Lib.hid hW
  have HW2 := Lib.hid hW2
  have HW5 := Lib.hid hW5
  have HWs := Lib.hid hWs
  have HWB := Lib.hid hWB
  have HL := Lib.hid hl
  have hbl := bs_list
  clear hD hi hl hR hu hW hWP hW2 hW5 hWs hWB
  go_enter Tryz.func13, Tryz.ntmps13
  go_wp2_with fail
  refine HU.out.mono ?_
  rintro e w1 ⟨rfl, p1, g1⟩
  rw [HW.out] at g1
  have Z2 : Hid (w1.heap[w.heap.size]? = some (.cells zero13 38 (0, 0))) := Lib.hid ((g1.block _ (by have := HWs.out; omega) (by omega)).trans HW2.out)
  have Z5 : Hid (w1.heap[w.heap.size + 1 + 1]? = some (.cells zero13 38 (0, 0))) := Lib.hid ((g1.block _ (by have := HWs.out; omega) (by omega)).trans HW5.out)
  have P1 := Lib.hid p1
  have G1 : Hid (Chg w w1 (fun _ => False)) := Lib.hid ((Chg.below HWB.out _).trans' g1 fun b hb e => by have e : b = w.heap.size + 1 := e; omega)
  clear p1 g1 HU
  go_wp2_with fail
  refine (Tryz.need w1 (w.heap.size + 1) l [97, 112, 112, 101, 110, 100] (RT R) 6 32 P1.out (by rw [← HL.out]; rfl) rfl (by omega)).mono ?_
  rintro e w2 ⟨rfl, p2, g2⟩
  have Y2 : Hid (w2.heap[w.heap.size]? = some (.cells zero13 38 (0, 0))) := Lib.hid ((g2.block _ (heap_lt Z2.out) (by omega)).trans Z2.out)
  have Y5 : Hid (w2.heap[w.heap.size + 1 + 1]? = some (.cells zero13 38 (0, 0))) := Lib.hid ((g2.block _ (heap_lt Z5.out) (by omega)).trans Z5.out)
  have P2 := Lib.hid p2
  have G2 : Hid (Chg w w2 (fun _ => False)) := Lib.hid (G1.out.trans' g2 fun b hb e => by have e : b = w.heap.size + 1 := e; omega)
  clear p2 g2 Z2 Z5 P1 G1
  go_wp2_with fail
  have D2 : Hid (DoorI B w2) := Lib.hid (HD.out.on (G2.out.isBelow hB fun b hb h => h))
  refine (Tryz.rowsN D2.out (Nat.le_trans hB G2.out.size) (w.heap.size + 1) (by omega) l appendB 7 R P2.out HL.out.symm rfl hll HR.out HI.out).mono ?_
  rintro e w3 ⟨v, svs, rfl, wr3, p3, g3⟩
  obtain ⟨m, sg, sc, rfl⟩ : ∃ m sg sc, v = Value.slice (some ⟨sg, 0, none⟩) m sc := by
    obtain ⟨sg, sc, e, _⟩ := wr3.ra HR.out fun r hr => (HI.out r hr).1
    exact ⟨_, sg, sc, e⟩
  have X2 : Hid (w3.heap[w.heap.size]? = some (.cells zero13 38 (0, 0))) := Lib.hid ((g3.block _ (heap_lt Y2.out) (by omega)).trans Y2.out)
  have X5 : Hid (w3.heap[w.heap.size + 1 + 1]? = some (.cells zero13 38 (0, 0))) := Lib.hid ((g3.block _ (heap_lt Y5.out) (by omega)).trans Y5.out)
  have P3 := Lib.hid p3
  have L5 := Lib.hid (heap_lt Y5.out)
  have WR3 := Lib.hid wr3
  have G3 : Hid (Chg w w3 (fun _ => False)) := Lib.hid (G2.out.trans' g3 fun b hb e => by have e : b = w.heap.size + 1 := e; omega)
  have P4 : Hid (PS (w3.setRow (w.heap.size + 1 + 1) (reqC (.slice (some ⟨sg, 0, none⟩) m sc))) (w.heap.size + 1) l l.length) := Lib.hid (P3.out.stay (setRow_else _ _ _ _ (by omega)))
  have hone : ∀ u ∈ (reqC (.slice (some ⟨sg, 0, none⟩) m sc)).toList, u.oneCell' = true := by
    intro u hu
    simp [reqC] at hu
    rcases hu with rfl | rfl | rfl | rfl | rfl | rfl | rfl | rfl | rfl | rfl | rfl | rfl | rfl <;> rfl
  have HO := Lib.hid hone
  clear p3 g3 wr3 Y2 Y5 P2 D2 hone
  go_wp2_with (refine nw_store_row _ rfl 38 (.tmp 5) (.tmp 42) rfl (w.heap.size + 1 + 1) 38 (reqC (.slice (some ⟨sg, 0, none⟩) m sc)) zero13 rfl rfl X5.out rfl (Tryz.size38 _ rfl) HO.out ?_)
  refine (Tryz.doneP _ (w.heap.size + 1) l P4.out (by omega)).mono ?_
  rintro e w5 ⟨rfl, p5, g5⟩
  have V5 : Hid (w5.heap[w.heap.size + 1 + 1]? = some (.cells (reqC (.slice (some ⟨sg, 0, none⟩) m sc)) 38 (0, 0))) := Lib.hid ((g5.block _ (by rw [setRow_size]; exact heap_lt X5.out) (by omega)).trans (setRow_here _ _ _ _ _ X5.out))
  have V2 : Hid (w5.heap[w.heap.size]? = some (.cells zero13 38 (0, 0))) := Lib.hid ((g5.block _ (by rw [setRow_size]; exact heap_lt X2.out) (by omega)).trans ((setRow_else _ _ _ _ (by omega)).trans X2.out))
  have G5 : Hid (Chg w w5 (fun _ => False)) := Lib.hid ((G3.out.setRow _ _ (fun h => absurd h (by omega))).trans' g5 fun b hb e => by have e : b = w.heap.size + 1 := e; omega)
  have WR5 : Hid (WR 46 25 w5 w2.heap.size (.slice (some ⟨sg, 0, none⟩) m sc) R svs) := Lib.hid (WR3.out.chg (((Chg.refl w3 (fun b => b = w.heap.size + 1 + 1 ∨ b = w.heap.size + 1)).setRow _ _ (fun _ => .inl rfl)).trans' g5 fun b hb e => .inr e) fun k hk h => by
    have := L5.out
    rcases h with h | h <;> omega)
  clear p5 g5 X2 X5 P3 P4 WR3 G3
  go_wp2_with (first | (refine nw_load_row _ rfl 38 (.tmp 5) rfl (w.heap.size + 1 + 1) 38 (reqC (.slice (some ⟨sg, 0, none⟩) m sc)) _ rfl V5.out (Tryz.size38 _ rfl) Tryz.st38 ?_) | (refine nw_store_row _ rfl 38 (.tmp 2) (.tmp 52) rfl w.heap.size 38 (reqC (.slice (some ⟨sg, 0, none⟩) m sc)) zero13 rfl rfl V2.out rfl (Tryz.size38 _ rfl) HO.out ?_))
  refine bodyPost_ret (v := .tuple #[.agg (reqC (.slice (some ⟨sg, 0, none⟩) m sc)), .int .i64 0]) (nw_results (show Tryz.f13.results = #[.cell 2 38, .tmp 3] from rfl) _ _ w.heap.size 38 (reqC (.slice (some ⟨sg, 0, none⟩) m sc)) _ rfl (setRow_here _ _ _ _ _ V2.out) (Tryz.size38 _ rfl) Tryz.st38) rfl ⟨_, svs, rfl, ?_, ?_⟩
  · have h1 : WR 46 25 w5 w2.heap.size (.slice (some ⟨sg, 0, none⟩) m sc) R svs := WR5.out
    have h2 := h1.chg ((Chg.refl w5 (· = w.heap.size)).setRow w.heap.size (reqC (.slice (some ⟨sg, 0, none⟩) m sc)) (fun _ => rfl)) fun k hk h => by
      have h : k = w.heap.size := h
      have := L5.out
      omega
    exact h2.mono G2.out.size
  · exact (G5.out.setRow _ _ (fun h => absurd h (by omega))).isBelow (Nat.le_refl _) fun b hb h => h
end Go.Proofs.YtcogajgikmcfpaaGreatDoor
end
