/-
  Texts of a proof over the translated program: proved evaluators and walks, part 9 of 11.
-/
import Derived.Test.YtkogknhnlilllaaPart8
import Derived.Below
import Derived.Deep.RegionHeld3
import Derived.Deep.RegionWith
import Derived.Handy
import Derived.IntWalk
import Derived.Laws.BytesArg
import Derived.Laws.BytesString
import Derived.Laws.Closers25b
import Derived.Laws.MakeOwn
import Derived.Lib.Hide
import Derived.Lib.SlBytesRow
import Derived.LoopTactic
import Derived.Outline
import Derived.OwnWalk
import Derived.Scope
import Derived.ScopeJumps
import Derived.Test.YtkogknhnlilllaaProg
import Derived.WalkKit
import Derived.WalkMore
import Derived.WalkSpells
set_option linter.unusedVariables false
set_option linter.unusedSimpArgs false
set_option linter.unusedSectionVars false
set_option linter.unnecessarySimpa false
section
namespace Go.Proofs
open Go.RowKit
set_option maxRecDepth 100000
def u8v (x : UInt8) : Value := .int .u8 (x.toNat : Int)
def strOf (l : List UInt8) : ByteArray := ⟨l.toArray⟩
theorem strOf_size (l : List UInt8) : (strOf l).size = l.length := by simp [strOf, ByteArray.size]
theorem fold_str : ∀ (l : List UInt8) (r : ByteArray), (l.map (fun x => (x.toNat : Int))).foldl (fun r n => r.push (UInt8.ofNat n.toNat)) r = ⟨(r.data.toList ++ l).toArray⟩
  | [], r => by simp
  | x :: l, r => by
    simp only [List.map_cons, List.foldl_cons]
    rw [fold_str l]
    simp [ByteArray.push]
theorem str_arg {w : World} {A : Addr} {l : List UInt8} (hc : ∀ j u, (l.map u8v)[j]? = some u → w.cell? (A.add j) = some u) (n c : Nat) (hn : l.length = n) : (convert 22 9 (.slice (some A) n c)).run Try.prog w = .ok (.string (strOf l)) w := by
  subst hn
  rw [run_convert_bytes_string w 22 9 5 (some A) l.length c Try.underlying22 Try.underlying5 Try.underlying9]
  have h : (loadCells A l.length).run Try.prog w = .ok ((l.map (fun x => (x.toNat : Int))).map (Value.int .u8)).toArray w := by
    have := run_loadCells_list (P := Try.prog) w A (l.map u8v) hc
    rw [List.length_map] at this
    rw [this, List.map_map]
    rfl
  rw [run_bytesToString w A l.length c _ h, fold_str]
  rfl
theorem str_sl0 (w : World) (A : Option Addr) (c : Nat) : (convert 22 9 (.slice A 0 c)).run Try.prog w = .ok (.string (strOf [])) w := by
  cases A with
  | none => exact run_convert_bytes_nil (w := w) 22 5 Try.underlying22 Try.underlying5 0 c 9 Try.underlying9
  | some X => exact str_arg (l := []) (fun j u h => by simp at h) 0 c rfl
structure DI (w : World) (A : Option Addr) (n c : Nat) (l : List UInt8) : Prop where
  len : l.length = n
  le : n ≤ c
  max : c ≤ maxLen
  at' : ∀ j x, l[j]? = some x → ∃ X, A = some X ∧ w.cell? (X.add j) = some (u8v x)
theorem cellW {w W : World} {p : Addr} {v : Value} (h : w.cell? p = some v) (hb : Below w.heap.size w W) : W.cell? p = some v := (hb.cell (block_lt_of_cell h)).trans h
theorem DI.below {w w' : World} {A : Option Addr} {n c : Nat} {l : List UInt8} (h : DI w A n c l) (hb : Below w.heap.size w w') : DI w' A n c l :=
  ⟨h.len, h.le, h.max, fun j x hx => by obtain ⟨X, e, hc⟩ := h.at' j x hx; exact ⟨X, e, cellW hc hb⟩⟩
def RB (w : World) (b : Nat) (A : Option Addr) (n c : Nat) (f p e : Int) : Prop := w.heap[b]? = some (.cells #[.slice A n c, .int .i64 f, .int .i64 p, .int .i64 e] 78 (0, 0))
theorem RB.lt {w : World} {b : Nat} {A : Option Addr} {n c : Nat} {f p e : Int} (h : RB w b A n c f p e) : b < w.heap.size := (Array.getElem?_eq_some_iff.1 h).1
theorem RB.eq {w w' : World} {b : Nat} {A : Option Addr} {n c : Nat} {f p e : Int} (h : RB w b A n c f p e) (k : w'.heap[b]? = w.heap[b]?) : RB w' b A n c f p e := k.trans h
theorem RB.c0 {w : World} {b : Nat} {A : Option Addr} {n c : Nat} {f p e : Int} (h : RB w b A n c f p e) : w.cell? ⟨b, 0, none⟩ = some (.slice A n c) := cell_of_row w b 0 _ 78 _ h
theorem RB.c1 {w : World} {b : Nat} {A : Option Addr} {n c : Nat} {f p e : Int} (h : RB w b A n c f p e) : w.cell? ⟨b, 1, none⟩ = some (.int .i64 f) := cell_of_row w b 1 _ 78 _ h
theorem RB.c2 {w : World} {b : Nat} {A : Option Addr} {n c : Nat} {f p e : Int} (h : RB w b A n c f p e) : w.cell? ⟨b, 2, none⟩ = some (.int .i64 p) := cell_of_row w b 2 _ 78 _ h
theorem RB.c3 {w : World} {b : Nat} {A : Option Addr} {n c : Nat} {f p e : Int} (h : RB w b A n c f p e) : w.cell? ⟨b, 3, none⟩ = some (.int .i64 e) := cell_of_row w b 3 _ 78 _ h
theorem RB.set2 {w : World} {b : Nat} {A : Option Addr} {n c : Nat} {f p e : Int} (h : RB w b A n c f p e) (q : Int) : RB (w.setCell ⟨b, 2, none⟩ (.int .i64 q)) b A n c f q e := heap_setCell_same w b 2 _ 78 _ h
theorem RB.set3 {w : World} {b : Nat} {A : Option Addr} {n c : Nat} {f p e : Int} (h : RB w b A n c f p e) (x : Int) : RB (w.setCell ⟨b, 3, none⟩ (.int .i64 x)) b A n c f p x := heap_setCell_same w b 3 _ 78 _ h
theorem grown_set (w : World) (b k : Nat) (v : Value) : w.grownBy (w.setCell ⟨b, k, none⟩ v) (some b) :=
  ⟨rfl, rfl, rfl, by simp [World.setCell], fun i _ hi => Below.heap_setCell w _ v i (fun h => hi (by rw [h]))⟩
theorem grown_refl (w : World) (r : Option Nat) : w.grownBy w r := ⟨rfl, rfl, rfl, Nat.le_refl _, fun _ _ _ => rfl⟩
theorem grown_trans {a b c : World} {r : Option Nat} (h : a.grownBy b r) (k : b.grownBy c r) : a.grownBy c r :=
  ⟨k.os.trans h.os, k.tape.trans h.tape, k.output.trans h.output, Nat.le_trans h.size k.size, fun i hi hr => (k.block i (Nat.lt_of_lt_of_le hi h.size) hr).trans (h.block i hi hr)⟩
theorem grown_below {a b : World} (h : Below a.heap.size a b) (r : Option Nat) : a.grownBy b r := ⟨h.os, h.tape, h.output, h.size, fun i hi _ => h.block i hi⟩
def Rd (w : World) (b : Nat) (A : Option Addr) (n c : Nat) (f p e : Int) (w' : World) : Prop := RB w' b A n c f p e ∧ w.grownBy w' (some b)
end Go.Proofs
end

section
namespace Go.Proofs
open Go.RowKit
set_option maxRecDepth 100000
theorem wp_scope_once {P : Program} {c R : Code} {a : Act} {w : World} {Q : Exit → Act → World → Prop} (l : Nat) (J : Act → World → Prop) (μ : Act → World → Nat) (hf : findLabel c l = some (Code.skip.seq R))
    (first : (∀ a w, J a w → R.wp P (Exit.jump l J Q) a w) → c.wp P (Exit.jump l J Q) a w) (pass : ∀ a w, J a w → R.wp P (Exit.jump l (fun a' w' => J a' w' ∧ μ a' w' < μ a w) Q) a w) : (Code.scope c).wp P Q a w := by
  refine wp_scope_jumps l J μ hf (first fun a' w' h => ?_) (fun a w h => wp_seq (wp_skip (pass a w h)))
  refine Code.wp_mono ?_ (pass a' w' h)
  intro e a2 w2 h2
  cases e <;> first | exact h2 | exact ⟨h2.1, h2.2.1⟩
def intOf : Value → Int
  | .int _ q => q
  | _ => 0
theorem getF_end {l : List UInt8} {a k : Nat} (u : Int) (hk : k ≤ 9) (h : l[a + k]? = none) : getF l a (10 - k) k u = (0, 0, 5) := by
  obtain ⟨f, hf⟩ : ∃ f, 10 - k = f + 1 := ⟨9 - k, by omega⟩
  rw [hf, getF, h]
theorem getF_bad {l : List UInt8} {a k : Nat} (u : Int) {x : UInt8} (hk : k ≤ 9) (h : l[a + k]? = some x) (hb : (k = 9 ∧ 1 < x.toNat) ∨ (0 < k ∧ x.toNat = 0)) : getF l a (10 - k) k u = (0, 0, 2) := by
  obtain ⟨f, hf⟩ : ∃ f, 10 - k = f + 1 := ⟨9 - k, by omega⟩
  rw [hf, getF, h]
  simp only
  rw [if_pos hb]
theorem getF_one {l : List UInt8} {a k : Nat} (u : Int) {x : UInt8} (hk : k ≤ 9) (h : l[a + k]? = some x) (hb : ¬ ((k = 9 ∧ 1 < x.toNat) ∨ (0 < k ∧ x.toNat = 0))) (hs : x.toNat < 128) : getF l a (10 - k) k u = (gadd k x.toNat u, k + 1, 0) := by
  obtain ⟨f, hf⟩ : ∃ f, 10 - k = f + 1 := ⟨9 - k, by omega⟩
  rw [hf, getF, h]
  simp only
  rw [if_neg hb, if_pos hs]
theorem getF_more {l : List UInt8} {a k : Nat} (u : Int) {x : UInt8} (hk : k ≤ 9) (h : l[a + k]? = some x) (hb : ¬ ((k = 9 ∧ 1 < x.toNat) ∨ (0 < k ∧ x.toNat = 0))) (hs : ¬ x.toNat < 128) : getF l a (10 - k) k u = getF l a (10 - (k + 1)) (k + 1) (gadd k x.toNat u) := by
  obtain ⟨f, hf⟩ : ∃ f, 10 - k = f + 1 := ⟨9 - k, by omega⟩
  have hf2 : 10 - (k + 1) = f := by omega
  rw [hf, getF, h]
  simp only
  rw [if_neg hb, if_neg hs, hf2]
theorem and127 (y : Nat) (h : y < 256) : bits .and .u8 (y : Int) 127 = ((y % 128 : Nat) : Int) := by
  have e : (127 : Int) = ((127 : Nat) : Int) := rfl
  have hy : y % 2 ^ IntKind.u8.bits = y := Nat.mod_eq_of_lt h
  have h7 : 127 % 2 ^ IntKind.u8.bits = 127 := by decide
  have hm : y &&& 127 = y % 128 := Nat.and_two_pow_sub_one_eq_mod y 7
  rw [e]
  simp only [bits, BitVec.ofInt_natCast, BitVec.toNat_and, BitVec.toNat_ofNat, hy, h7, hm]
  rw [IntKind.wrap_u8]; omega
set_option maxHeartbeats 4000000 in
theorem Try.get (w : World) {A : Option Addr} {n c : Nat} {l : List UInt8} (hD : DI w A n c l) (hn : n ≤ 400) (a : Nat) (ha : a ≤ n) :
    Calls Try.prog 37 #[.slice A n c, .int .i64 a] w fun e w' => e = .returned (.tuple #[.int .u64 (getN l a).1, .int .i64 ((getN l a).2.1 : Nat), .int .i64 (getN l a).2.2]) ∧ w' = w := by
  obtain ⟨R, hR⟩ : ∃ R, getN l a = R := ⟨_, rfl⟩
  rw [hR]
  have HR := Lib.hid hR
  have HD := Lib.hid hD
  have hc1 := hD.le
  have g1 : decide ((a : Int) < 0) = false := by simp
  have g2 : decide ((n : Int) < a) = false := by simp; omega
  have g2' : decide (n < a) = false := by simp; omega
  clear hR hD
  go_enter Try.func37, Try.ntmps37
  go_wp2
  refine wp_scope_once 0 (fun a' wr => wr = w ∧ ∃ (k : Nat) (u : Int), k ≤ 9 ∧ a + k ≤ n ∧ getF l a (10 - k) k u = R ∧ ∃ u2 u3 u9 u10 u11 u12 u13 u14 u15 u16 u17 u18 u19 u20 u21 u22 u23 u24 u25 u26 u27 u28 u29 u30 u31 u32 u33 u34 u35 u36 u37 u38 u39 u40 u41 u42 u43 u44 u45 u46 u47 u48 u49 u50 u51 u52 u53 u54 u55 u56 u57 : Value, a' = { tmps := #[.slice A n c, .int .i64 a, u2, u3, .int .u64 0, .int .i64 0, .int .i64 0, .int .u64 u, .int .i64 k, u9, u10, u11, u12, u13, u14, u15, u16, u17, u18, u19, u20, u21, u22, u23, u24, u25, u26, u27, u28, u29, u30, u31, u32, u33, u34, u35, u36, u37, u38, u39, u40, u41, u42, u43, u44, u45, u46, u47, u48, u49, u50, u51, u52, u53, u54, u55, u56, u57], defers := [] }) (fun a' _ => 10 - (intOf (a'.tmps.getD 8 undef)).toNat) rfl ?_ ?_
  · intro hL
    go_wp2_with (refine wp_label ?_; rename_i Q0 K0 hK; refine hK _ _ (hL _ _ ?_); exact ⟨rfl, 0, 0, by omega, by omega, HR.out, _, _, _, _, _, _, _, _, _, _, _, _, _, _, _, _, _, _, _, _, _, _, _, _, _, _, _, _, _, _, _, _, _, _, _, _, _, _, _, _, _, _, _, _, _, _, _, _, _, _, _, rfl⟩)
  · rintro a' wr ⟨rfl, k, u, hk, hkn, hj, u2, u3, u9, u10, u11, u12, u13, u14, u15, u16, u17, u18, u19, u20, u21, u22, u23, u24, u25, u26, u27, u28, u29, u30, u31, u32, u33, u34, u35, u36, u37, u38, u39, u40, u41, u42, u43, u44, u45, u46, u47, u48, u49, u50, u51, u52, u53, u54, u55, u56, u57, rfl⟩
    have HJ := Lib.hid hj
    clear hj HR
    by_cases hlt : a + k < n
    · obtain ⟨x, hx⟩ : ∃ x, l[a + k]? = some x := ⟨_, List.getElem?_eq_getElem (by rw [HD.out.len]; exact hlt)⟩
      obtain ⟨X, hX, hcell⟩ := (HD.out).at' _ _ hx
      subst hX
      unfold u8v at hcell
      have HX := Lib.hid hx
      obtain ⟨y, hy⟩ : ∃ y, x.toNat = y := ⟨_, rfl⟩
      have hy2 : y < 256 := by rw [← hy]; exact x.toNat_lt
      rw [hy] at hcell
      have HY := Lib.hid hy
      clear hx hy
      have e1 : decide ((a : Int) + k = n) = false := by simp; omega
      have e1' : ((a : Int) + k == n) = false := by simp; omega
      have s1 : IntKind.i64.wrap ((a : Int) + k) = ((a + k : Nat) : Int) := by rw [IntKind.wrap_i64]; omega
      have ha7 := and127 y hy2
      by_cases hk0 : k = 0
      · by_cases h8 : y < 128
        · have d9 : decide ((k : Int) = 9) = false := by simp; omega
          have d9' : ((k : Int) == 9) = false := by simp; omega
          have d0 : decide (0 < (k : Int)) = false := by simp; omega
          have d0' : decide (0 < k) = false := by simp; omega
          have y8 : decide (128 ≤ (y : Int)) = false := by simp; omega
          have y8' : decide (128 ≤ y) = false := by simp; omega
          have HE := Lib.hid ((getF_one u hk HX.out (by rw [HY.out]; omega) (by rw [HY.out]; omega)).symm.trans HJ.out)
          clear HJ
          try clear hk0
          try clear hz
          try clear hk9
          try clear h1
          try clear h8
          go_wp2_with fail
          simp only [Exit.jump]
          go_ret3
          have := HE.out
          rw [HY.out] at this
          subst this
          exact ⟨rfl, rfl⟩
        · have d9 : decide ((k : Int) = 9) = false := by simp; omega
          have d9' : ((k : Int) == 9) = false := by simp; omega
          have d0 : decide (0 < (k : Int)) = false := by simp; omega
          have d0' : decide (0 < k) = false := by simp; omega
          have y8 : decide (128 ≤ (y : Int)) = true := by simp; omega
          have y8' : decide (128 ≤ y) = true := by simp; omega
          have HE := Lib.hid ((getF_more u hk HX.out (by rw [HY.out]; omega) (by rw [HY.out]; omega)).symm.trans HJ.out)
          clear HJ
          have hk8 : k + 1 ≤ 9 := by omega
          try clear hk0
          try clear hz
          try clear hk9
          try clear h1
          try clear h8
          go_wp2_with fail
          go_step3
          have HE2 := HE.out
          rw [HY.out] at HE2
          exact ⟨rfl, ⟨rfl, k + 1, gadd k y u, by omega, by omega, HE2, _, _, _, _, _, _, _, _, _, _, _, _, _, _, _, _, _, _, _, _, _, _, _, _, _, _, _, _, _, _, _, _, _, _, _, _, _, _, _, _, _, _, _, _, _, _, _, _, _, _, _, rfl⟩, by simp [intOf]; omega⟩
      · by_cases hz : y = 0
        · by_cases hk9 : k = 9
          · have d9 : decide ((k : Int) = 9) = true := by simp; omega
            have d9' : ((k : Int) == 9) = true := by simp; omega
            have d0 : decide (0 < (k : Int)) = true := by simp; omega
            have d0' : decide (0 < k) = true := by simp; omega
            have y1 : decide (1 < (y : Int)) = false := by simp; omega
            have y1' : decide (1 < y) = false := by simp; omega
            have y0 : decide ((y : Int) = 0) = true := by simp; omega
            have y0' : ((y : Int) == 0) = true := by simp; omega
            have y0'' : decide (y = 0) = true := by simp; omega
            have HE := Lib.hid ((getF_bad u hk HX.out (by rw [HY.out]; omega)).symm.trans HJ.out)
            clear HJ
            try clear hk0
            try clear hz
            try clear hk9
            try clear h1
            try clear h8
            go_wp2_with fail
            simp only [Exit.jump]
            go_ret3
            have := HE.out
            subst this
            exact ⟨rfl, rfl⟩
          · have d9 : decide ((k : Int) = 9) = false := by simp; omega
            have d9' : ((k : Int) == 9) = false := by simp; omega
            have d0 : decide (0 < (k : Int)) = true := by simp; omega
            have d0' : decide (0 < k) = true := by simp; omega
            have y0 : decide ((y : Int) = 0) = true := by simp; omega
            have y0' : ((y : Int) == 0) = true := by simp; omega
            have y0'' : decide (y = 0) = true := by simp; omega
            have HE := Lib.hid ((getF_bad u hk HX.out (by rw [HY.out]; omega)).symm.trans HJ.out)
            clear HJ
            try clear hk0
            try clear hz
            try clear hk9
            try clear h1
            try clear h8
            go_wp2_with fail
            simp only [Exit.jump]
            go_ret3
            have := HE.out
            subst this
            exact ⟨rfl, rfl⟩
        · by_cases hk9 : k = 9
          · by_cases h1 : 1 < y
            · have d9 : decide ((k : Int) = 9) = true := by simp; omega
              have d9' : ((k : Int) == 9) = true := by simp; omega
              have d0 : decide (0 < (k : Int)) = true := by simp; omega
              have d0' : decide (0 < k) = true := by simp; omega
              have y1 : decide (1 < (y : Int)) = true := by simp; omega
              have y1' : decide (1 < y) = true := by simp; omega
              have y0 : decide ((y : Int) = 0) = false := by simp; omega
              have y0' : ((y : Int) == 0) = false := by simp; omega
              have y0'' : decide (y = 0) = false := by simp; omega
              have HE := Lib.hid ((getF_bad u hk HX.out (by rw [HY.out]; omega)).symm.trans HJ.out)
              clear HJ
              try clear hk0
              try clear hz
              try clear hk9
              try clear h1
              try clear h8
              go_wp2_with fail
              simp only [Exit.jump]
              go_ret3
              have := HE.out
              subst this
              exact ⟨rfl, rfl⟩
            · have d9 : decide ((k : Int) = 9) = true := by simp; omega
              have d9' : ((k : Int) == 9) = true := by simp; omega
              have d0 : decide (0 < (k : Int)) = true := by simp; omega
              have d0' : decide (0 < k) = true := by simp; omega
              have y1 : decide (1 < (y : Int)) = false := by simp; omega
              have y1' : decide (1 < y) = false := by simp; omega
              have y0 : decide ((y : Int) = 0) = false := by simp; omega
              have y0' : ((y : Int) == 0) = false := by simp; omega
              have y0'' : decide (y = 0) = false := by simp; omega
              have y8 : decide (128 ≤ (y : Int)) = false := by simp; omega
              have y8' : decide (128 ≤ y) = false := by simp; omega
              have HE := Lib.hid ((getF_one u hk HX.out (by rw [HY.out]; omega) (by rw [HY.out]; omega)).symm.trans HJ.out)
              clear HJ
              try clear hk0
              try clear hz
              try clear hk9
              try clear h1
              try clear h8
              go_wp2_with fail
              simp only [Exit.jump]
              go_ret3
              have := HE.out
              rw [HY.out] at this
              subst this
              exact ⟨rfl, rfl⟩
          · by_cases h8 : y < 128
            · have d9 : decide ((k : Int) = 9) = false := by simp; omega
              have d9' : ((k : Int) == 9) = false := by simp; omega
              have d0 : decide (0 < (k : Int)) = true := by simp; omega
              have d0' : decide (0 < k) = true := by simp; omega
              have y0 : decide ((y : Int) = 0) = false := by simp; omega
              have y0' : ((y : Int) == 0) = false := by simp; omega
              have y0'' : decide (y = 0) = false := by simp; omega
              have y8 : decide (128 ≤ (y : Int)) = false := by simp; omega
              have y8' : decide (128 ≤ y) = false := by simp; omega
              have HE := Lib.hid ((getF_one u hk HX.out (by rw [HY.out]; omega) (by rw [HY.out]; omega)).symm.trans HJ.out)
              clear HJ
              try clear hk0
              try clear hz
              try clear hk9
              try clear h1
              try clear h8
              go_wp2_with fail
              simp only [Exit.jump]
              go_ret3
              have := HE.out
              rw [HY.out] at this
              subst this
              exact ⟨rfl, rfl⟩
            · have d9 : decide ((k : Int) = 9) = false := by simp; omega
              have d9' : ((k : Int) == 9) = false := by simp; omega
              have d0 : decide (0 < (k : Int)) = true := by simp; omega
              have d0' : decide (0 < k) = true := by simp; omega
              have y0 : decide ((y : Int) = 0) = false := by simp; omega
              have y0' : ((y : Int) == 0) = false := by simp; omega
              have y0'' : decide (y = 0) = false := by simp; omega
              have y8 : decide (128 ≤ (y : Int)) = true := by simp; omega
              have y8' : decide (128 ≤ y) = true := by simp; omega
              have HE := Lib.hid ((getF_more u hk HX.out (by rw [HY.out]; omega) (by rw [HY.out]; omega)).symm.trans HJ.out)
              clear HJ
              have hk8 : k + 1 ≤ 9 := by omega
              try clear hk0
              try clear hz
              try clear hk9
              try clear h1
              try clear h8
              go_wp2_with fail
              go_step3
              have HE2 := HE.out
              rw [HY.out] at HE2
              exact ⟨rfl, ⟨rfl, k + 1, gadd k y u, by omega, by omega, HE2, _, _, _, _, _, _, _, _, _, _, _, _, _, _, _, _, _, _, _, _, _, _, _, _, _, _, _, _, _, _, _, _, _, _, _, _, _, _, _, _, _, _, _, _, _, _, _, _, _, _, _, rfl⟩, by simp [intOf]; omega⟩
    · obtain hk2 : l[a + k]? = none := List.getElem?_eq_none (by rw [HD.out.len]; omega)
      have HE := Lib.hid ((getF_end u hk hk2).symm.trans HJ.out)
      have e1 : decide ((a : Int) + k = n) = true := by simp; omega
      have e1' : ((a : Int) + k == n) = true := by simp; omega
      clear hk2 HJ
      go_wp2_with fail
      simp only [Exit.jump]
      go_ret3
      have := HE.out
      subst this
      exact ⟨rfl, rfl⟩
end Go.Proofs
end

section
namespace Go.Proofs
open Go.RowKit
set_option maxRecDepth 100000
theorem Try.rget_no (w : World) (A : Option Addr) (n c : Nat) (a : Int) (h : a < 0 ∨ (n : Int) < a) :
    Calls Try.prog 27 #[.slice A n c, .int .i64 a] w fun e w' => e = .returned (.tuple #[.int .u64 0, .int .i64 0, .int .i64 1]) ∧ w' = w := by
  by_cases h0 : a < 0
  · have g1 : decide (a < 0) = true := by simpa using h0
    clear h
    go_enter Try.func27, Try.ntmps27
    go_wp2_with fail
    go_ret3
    exact ⟨rfl, rfl⟩
  · have g1 : decide (a < 0) = false := by simpa using h0
    have g2 : decide ((n : Int) < a) = true := by simp; omega
    clear h h0
    go_enter Try.func27, Try.ntmps27
    go_wp2_with fail
    go_ret3
    exact ⟨rfl, rfl⟩
theorem getF_none (l : List UInt8) (a k : Nat) (u : Int) (h : ¬ k < 10) : getF l a (10 - k) k u = (0, 0, 2) := by
  have : 10 - k = 0 := by omega
  rw [this, getF]
set_option maxHeartbeats 4000000 in
theorem Try.rget (w : World) {A : Option Addr} {n c : Nat} {l : List UInt8} (hD : DI w A n c l) (hn : n ≤ 400) (a : Nat) (ha : a ≤ n) :
    Calls Try.prog 27 #[.slice A n c, .int .i64 a] w fun e w' => e = .returned (.tuple #[.int .u64 (getN l a).1, .int .i64 ((getN l a).2.1 : Nat), .int .i64 (getN l a).2.2]) ∧ w' = w := by
  obtain ⟨R, hR⟩ : ∃ R, getN l a = R := ⟨_, rfl⟩
  rw [hR]
  have HR := Lib.hid hR
  have HD := Lib.hid hD
  have hc1 := hD.le
  have g1 : decide ((a : Int) < 0) = false := by simp
  have g2 : decide ((n : Int) < a) = false := by simp; omega
  have g2' : decide (n < a) = false := by simp; omega
  have s2 : IntKind.i64.wrap ((n : Int) - a) = (n : Int) - a := by rw [IntKind.wrap_i64]; omega
  clear hR hD
  go_enter Try.func27, Try.ntmps27
  go_wp2_with fail
  go_loopw [7, 8] (fun uv t wr => wr = w ∧ ∃ (k : Nat) (u : Int), k ≤ 10 ∧ a + k ≤ n ∧ getF l a (10 - k) k u = R ∧ t = .int .i64 k ∧ uv = .int .u64 u) (fun _ t _ => 10 - (intOf t).toNat)
  case atStart => exact ⟨rfl, 0, 0, by omega, by omega, HR.out, rfl, rfl⟩
  case round =>
    obtain ⟨rfl, k, u, hk, hkn, hj, rfl, rfl⟩ := hrel
    have HJ := Lib.hid hj
    clear hj HR
    by_cases hk10 : k < 10
    · have hD : decide ((k : Int) < 10) = true := by simp; omega
      have hD' : decide (k < 10) = true := by simp; omega
      have hk9 : k ≤ 9 := by omega
      by_cases hlt : a + k < n
      · obtain ⟨x, hx⟩ : ∃ x, l[a + k]? = some x := ⟨_, List.getElem?_eq_getElem (by rw [HD.out.len]; exact hlt)⟩
        obtain ⟨X, hX, hcell⟩ := (HD.out).at' _ _ hx
        subst hX
        unfold u8v at hcell
        have HX := Lib.hid hx
        obtain ⟨y, hy⟩ : ∃ y, x.toNat = y := ⟨_, rfl⟩
        have hy2 : y < 256 := by rw [← hy]; exact x.toNat_lt
        rw [hy] at hcell
        have HY := Lib.hid hy
        clear hx hy
        have e1 : decide ((n : Int) - a ≤ k) = false := by simp; omega
        have s1 : IntKind.i64.wrap ((a : Int) + k) = ((a + k : Nat) : Int) := by rw [IntKind.wrap_i64]; omega
        have ha7 := and127 y hy2
        by_cases hk0 : k = 0
        · by_cases h8 : y < 128
          · have d9 : decide ((k : Int) = 9) = false := by simp; omega
            have d9' : ((k : Int) == 9) = false := by simp; omega
            have d0 : decide (0 < (k : Int)) = false := by simp; omega
            have d0' : decide (0 < k) = false := by simp; omega
            have y8 : decide ((y : Int) < 128) = true := by simp; omega
            have y8' : decide (y < 128) = true := by simp; omega
            have HE := Lib.hid ((getF_one u hk9 HX.out (by rw [HY.out]; omega) (by rw [HY.out]; omega)).symm.trans HJ.out)
            clear HJ
            try clear hk0
            try clear hz
            try clear hk99
            try clear h1
            try clear h8
            go_wp2_with fail
            go_ret3
            have := HE.out
            rw [HY.out] at this
            subst this
            exact ⟨rfl, rfl⟩
          · have d9 : decide ((k : Int) = 9) = false := by simp; omega
            have d9' : ((k : Int) == 9) = false := by simp; omega
            have d0 : decide (0 < (k : Int)) = false := by simp; omega
            have d0' : decide (0 < k) = false := by simp; omega
            have y8 : decide ((y : Int) < 128) = false := by simp; omega
            have y8' : decide (y < 128) = false := by simp; omega
            have HE := Lib.hid ((getF_more u hk9 HX.out (by rw [HY.out]; omega) (by rw [HY.out]; omega)).symm.trans HJ.out)
            clear HJ
            try clear hk0
            try clear hz
            try clear hk99
            try clear h1
            try clear h8
            go_wp2_with fail
            have HE2 := HE.out
            rw [HY.out] at HE2
            exact ⟨⟨trivial, k + 1, gadd k y u, by omega, by omega, HE2, rfl, rfl⟩, by simp [intOf]; omega⟩
        · by_cases hz : y = 0
          · by_cases hk99 : k = 9
            · have d9 : decide ((k : Int) = 9) = true := by simp; omega
              have d9' : ((k : Int) == 9) = true := by simp; omega
              have d0 : decide (0 < (k : Int)) = true := by simp; omega
              have d0' : decide (0 < k) = true := by simp; omega
              have y1 : decide (1 < (y : Int)) = false := by simp; omega
              have y1' : decide (1 < y) = false := by simp; omega
              have y0 : decide ((y : Int) = 0) = true := by simp; omega
              have y0' : ((y : Int) == 0) = true := by simp; omega
              have y0'' : decide (y = 0) = true := by simp; omega
              have HE := Lib.hid ((getF_bad u hk9 HX.out (by rw [HY.out]; omega)).symm.trans HJ.out)
              clear HJ
              try clear hk0
              try clear hz
              try clear hk99
              try clear h1
              try clear h8
              go_wp2_with fail
              go_ret3
              have := HE.out
              subst this
              exact ⟨rfl, rfl⟩
            · have d9 : decide ((k : Int) = 9) = false := by simp; omega
              have d9' : ((k : Int) == 9) = false := by simp; omega
              have d0 : decide (0 < (k : Int)) = true := by simp; omega
              have d0' : decide (0 < k) = true := by simp; omega
              have y0 : decide ((y : Int) = 0) = true := by simp; omega
              have y0' : ((y : Int) == 0) = true := by simp; omega
              have y0'' : decide (y = 0) = true := by simp; omega
              have HE := Lib.hid ((getF_bad u hk9 HX.out (by rw [HY.out]; omega)).symm.trans HJ.out)
              clear HJ
              try clear hk0
              try clear hz
              try clear hk99
              try clear h1
              try clear h8
              go_wp2_with fail
              go_ret3
              have := HE.out
              subst this
              exact ⟨rfl, rfl⟩
          · by_cases hk99 : k = 9
            · by_cases h1 : 1 < y
              · have d9 : decide ((k : Int) = 9) = true := by simp; omega
                have d9' : ((k : Int) == 9) = true := by simp; omega
                have d0 : decide (0 < (k : Int)) = true := by simp; omega
                have d0' : decide (0 < k) = true := by simp; omega
                have y1 : decide (1 < (y : Int)) = true := by simp; omega
                have y1' : decide (1 < y) = true := by simp; omega
                have y0 : decide ((y : Int) = 0) = false := by simp; omega
                have y0' : ((y : Int) == 0) = false := by simp; omega
                have y0'' : decide (y = 0) = false := by simp; omega
                have HE := Lib.hid ((getF_bad u hk9 HX.out (by rw [HY.out]; omega)).symm.trans HJ.out)
                clear HJ
                try clear hk0
                try clear hz
                try clear hk99
                try clear h1
                try clear h8
                go_wp2_with fail
                go_ret3
                have := HE.out
                subst this
                exact ⟨rfl, rfl⟩
              · have d9 : decide ((k : Int) = 9) = true := by simp; omega
                have d9' : ((k : Int) == 9) = true := by simp; omega
                have d0 : decide (0 < (k : Int)) = true := by simp; omega
                have d0' : decide (0 < k) = true := by simp; omega
                have y1 : decide (1 < (y : Int)) = false := by simp; omega
                have y1' : decide (1 < y) = false := by simp; omega
                have y0 : decide ((y : Int) = 0) = false := by simp; omega
                have y0' : ((y : Int) == 0) = false := by simp; omega
                have y0'' : decide (y = 0) = false := by simp; omega
                have y8 : decide ((y : Int) < 128) = true := by simp; omega
                have y8' : decide (y < 128) = true := by simp; omega
                have HE := Lib.hid ((getF_one u hk9 HX.out (by rw [HY.out]; omega) (by rw [HY.out]; omega)).symm.trans HJ.out)
                clear HJ
                try clear hk0
                try clear hz
                try clear hk99
                try clear h1
                try clear h8
                go_wp2_with fail
                go_ret3
                have := HE.out
                rw [HY.out] at this
                subst this
                exact ⟨rfl, rfl⟩
            · by_cases h8 : y < 128
              · have d9 : decide ((k : Int) = 9) = false := by simp; omega
                have d9' : ((k : Int) == 9) = false := by simp; omega
                have d0 : decide (0 < (k : Int)) = true := by simp; omega
                have d0' : decide (0 < k) = true := by simp; omega
                have y0 : decide ((y : Int) = 0) = false := by simp; omega
                have y0' : ((y : Int) == 0) = false := by simp; omega
                have y0'' : decide (y = 0) = false := by simp; omega
                have y8 : decide ((y : Int) < 128) = true := by simp; omega
                have y8' : decide (y < 128) = true := by simp; omega
                have HE := Lib.hid ((getF_one u hk9 HX.out (by rw [HY.out]; omega) (by rw [HY.out]; omega)).symm.trans HJ.out)
                clear HJ
                try clear hk0
                try clear hz
                try clear hk99
                try clear h1
                try clear h8
                go_wp2_with fail
                go_ret3
                have := HE.out
                rw [HY.out] at this
                subst this
                exact ⟨rfl, rfl⟩
              · have d9 : decide ((k : Int) = 9) = false := by simp; omega
                have d9' : ((k : Int) == 9) = false := by simp; omega
                have d0 : decide (0 < (k : Int)) = true := by simp; omega
                have d0' : decide (0 < k) = true := by simp; omega
                have y0 : decide ((y : Int) = 0) = false := by simp; omega
                have y0' : ((y : Int) == 0) = false := by simp; omega
                have y0'' : decide (y = 0) = false := by simp; omega
                have y8 : decide ((y : Int) < 128) = false := by simp; omega
                have y8' : decide (y < 128) = false := by simp; omega
                have HE := Lib.hid ((getF_more u hk9 HX.out (by rw [HY.out]; omega) (by rw [HY.out]; omega)).symm.trans HJ.out)
                clear HJ
                try clear hk0
                try clear hz
                try clear hk99
                try clear h1
                try clear h8
                go_wp2_with fail
                have HE2 := HE.out
                rw [HY.out] at HE2
                exact ⟨⟨trivial, k + 1, gadd k y u, by omega, by omega, HE2, rfl, rfl⟩, by simp [intOf]; omega⟩
      · obtain hk2 : l[a + k]? = none := List.getElem?_eq_none (by rw [HD.out.len]; omega)
        have HE := Lib.hid ((getF_end u hk9 hk2).symm.trans HJ.out)
        have e1 : decide ((n : Int) - a ≤ k) = true := by simp; omega
        clear hk2 HJ
        go_wp2_with fail
        go_ret3
        have := HE.out
        subst this
        exact ⟨rfl, rfl⟩
    · have hD : decide ((k : Int) < 10) = false := by simp; omega
      have hD' : decide (k < 10) = false := by simp; omega
      have HE := Lib.hid ((getF_none l a k u hk10).symm.trans HJ.out)
      clear HJ hk10
      go_wp2_with fail
      go_ret3
      have := HE.out
      subst this
      exact ⟨rfl, rfl⟩
end Go.Proofs
end

section
namespace Go.Proofs
open Go.RowKit
set_option maxRecDepth 100000
theorem dec_ne {a b : Int} (h : a ≠ b) : decide (a = b) = false := by simpa using h
theorem Try.rerr {w : World} {b : Nat} {A : Option Addr} {n c : Nat} {f p e : Int} (h : RB w b A n c f p e) :
    Calls Try.prog 22 #[.pointer (some ⟨b, 0, none⟩)] w fun x w' => x = .returned (.int .i64 e) ∧ w' = w := by
  have h3 := h.c3
  go_enter Try.func22, Try.ntmps22
  go_wp2_with fail
  go_ret
  exact ⟨rfl, rfl⟩
theorem Try.rleft {w : World} {b : Nat} {A : Option Addr} {n c : Nat} {f : Int} {p : Nat} {e : Int} (h : RB w b A n c f p e) (hp : p ≤ n) (hn : n ≤ 400) :
    Calls Try.prog 38 #[.pointer (some ⟨b, 0, none⟩)] w fun x w' => x = .returned (.int .i64 (if e = 0 then (n : Int) - p else 0)) ∧ w.heap = w'.heap ∧ Below w.heap.size w w' := by
  have h3 := h.c3
  have h0 := h.c0
  have h2 := h.c2
  by_cases he : e = 0
  · subst he
    have s2 : IntKind.i64.wrap ((n : Int) - p) = (n : Int) - p := by rw [IntKind.wrap_i64]; omega
    go_enter Try.func38, Try.ntmps38
    go_wp2_with fail
    refine wp_region_noPanic ?_
    refine wp_region_held_drew (S := (fun W => W.cell? ⟨b, 0, none⟩ = some (.slice A n c) ∧ W.cell? ⟨b, 2, none⟩ = some (.int .i64 p))) (by kernel_rfl) ?_ (fun hHeld => ?_)
    · exact ⟨h0, h2⟩
    refine wpAnyH_take (i := 0) (oi := { dst := some 8, op := Op.move (Operand.tmp 0), type := 55, pos := "read.go:41", after := #[], guard := none }) (v := ?_) rfl (by kernel_rfl) (by kernel_rfl) (by kernel_rfl) (fun _ _ _ h => h) (Or.inl ⟨by rfl, ?_⟩) (by assumption) ?_
    rotate_left
    · (intro w hSw; (try dsimp only at hSw); go_simp; try with_reducible rfl)
    try simp only [Act.put, List.setIfInBounds_toArray, List.set_cons_zero, List.set_cons_succ]
    refine wpAnyH_take (i := 1) (oi := { dst := some 9, op := Op.nilCheck (Operand.tmp 8), type := 0, pos := "read.go:41", after := #[{ on := 0, ground := Ground.data }], guard := none }) (v := ?_) rfl (by kernel_rfl) (by kernel_rfl) (by kernel_rfl) (fun _ _ _ h => h) (Or.inl ⟨by rfl, ?_⟩) (by assumption) ?_
    rotate_left
    · (intro w hSw; (try dsimp only at hSw); go_simp; try with_reducible rfl)
    try simp only [Act.put, List.setIfInBounds_toArray, List.set_cons_zero, List.set_cons_succ]
    refine wpAnyH_take (i := 2) (oi := { dst := some 10, op := Op.fieldAddr 78 (Operand.tmp 9) 0, type := 0, pos := "read.go:41", after := #[{ on := 1, ground := Ground.data }], guard := none }) (v := ?_) rfl (by kernel_rfl) (by kernel_rfl) (by kernel_rfl) (fun _ _ _ h => h) (Or.inl ⟨by rfl, ?_⟩) (by assumption) ?_
    rotate_left
    · (intro w hSw; (try dsimp only at hSw); go_simp; try with_reducible rfl)
    try simp only [Act.put, List.setIfInBounds_toArray, List.set_cons_zero, List.set_cons_succ]
    refine wpAnyH_take (i := 3) (oi := { dst := some 11, op := Op.load 22 (Operand.tmp 10), type := 22, pos := "read.go:41", after := #[{ on := 2, ground := Ground.data }], guard := none }) (v := ?_) rfl (by kernel_rfl) (by kernel_rfl) (by kernel_rfl) (fun _ _ _ h => h) (Or.inl ⟨by rfl, ?_⟩) (by assumption) ?_
    rotate_left
    · (intro w hSw; (try dsimp only at hSw); go_simp; try with_reducible rfl)
    try simp only [Act.put, List.setIfInBounds_toArray, List.set_cons_zero, List.set_cons_succ]
    refine wpAnyH_take (i := 4) (oi := { dst := some 12, op := Op.call { callee := Callee.builtin Builtin.len, args := #[Operand.tmp 11], argTypes := #[22] }, type := 3, pos := "read.go:41", after := #[{ on := 3, ground := Ground.data }], guard := none }) (v := ?_) rfl (by kernel_rfl) (by kernel_rfl) (by kernel_rfl) (fun _ _ _ h => h) (Or.inl ⟨by rfl, ?_⟩) (by assumption) ?_
    rotate_left
    · (intro w hSw; (try dsimp only at hSw); go_simp; try with_reducible rfl)
    try simp only [Act.put, List.setIfInBounds_toArray, List.set_cons_zero, List.set_cons_succ]
    refine wpAnyH_take (i := 5) (oi := { dst := some 13, op := Op.move (Operand.tmp 0), type := 55, pos := "read.go:41", after := #[], guard := none }) (v := ?_) rfl (by kernel_rfl) (by kernel_rfl) (by kernel_rfl) (fun _ _ _ h => h) (Or.inl ⟨by rfl, ?_⟩) (by assumption) ?_
    rotate_left
    · (intro w hSw; (try dsimp only at hSw); go_simp; try with_reducible rfl)
    try simp only [Act.put, List.setIfInBounds_toArray, List.set_cons_zero, List.set_cons_succ]
    refine wpAnyH_take (i := 6) (oi := { dst := some 14, op := Op.nilCheck (Operand.tmp 13), type := 0, pos := "read.go:41", after := #[{ on := 5, ground := Ground.data }], guard := none }) (v := ?_) rfl (by kernel_rfl) (by kernel_rfl) (by kernel_rfl) (fun _ _ _ h => h) (Or.inl ⟨by rfl, ?_⟩) (by assumption) ?_
    rotate_left
    · (intro w hSw; (try dsimp only at hSw); go_simp; try with_reducible rfl)
    try simp only [Act.put, List.setIfInBounds_toArray, List.set_cons_zero, List.set_cons_succ]
    refine wpAnyH_take (i := 7) (oi := { dst := some 15, op := Op.fieldAddr 78 (Operand.tmp 14) 2, type := 0, pos := "read.go:41", after := #[{ on := 6, ground := Ground.data }], guard := none }) (v := ?_) rfl (by kernel_rfl) (by kernel_rfl) (by kernel_rfl) (fun _ _ _ h => h) (Or.inl ⟨by rfl, ?_⟩) (by assumption) ?_
    rotate_left
    · (intro w hSw; (try dsimp only at hSw); go_simp; try with_reducible rfl)
    try simp only [Act.put, List.setIfInBounds_toArray, List.set_cons_zero, List.set_cons_succ]
    refine wpAnyH_take (i := 8) (oi := { dst := some 16, op := Op.load 3 (Operand.tmp 15), type := 3, pos := "read.go:41", after := #[{ on := 7, ground := Ground.data }], guard := none }) (v := ?_) rfl (by kernel_rfl) (by kernel_rfl) (by kernel_rfl) (fun _ _ _ h => h) (Or.inl ⟨by rfl, ?_⟩) (by assumption) ?_
    rotate_left
    · (intro w hSw; (try dsimp only at hSw); go_simp; try with_reducible rfl)
    try simp only [Act.put, List.setIfInBounds_toArray, List.set_cons_zero, List.set_cons_succ]
    refine wpAnyH_take (i := 9) (oi := { dst := some 17, op := Op.binOp BinOp.sub 3 (Operand.tmp 12) (Operand.tmp 16) 3, type := 3, pos := "read.go:41", after := #[{ on := 4, ground := Ground.data }, { on := 8, ground := Ground.data }], guard := none }) (v := ?_) rfl (by kernel_rfl) (by kernel_rfl) (by kernel_rfl) (fun _ _ _ h => h) (Or.inl ⟨by rfl, ?_⟩) (by assumption) ?_
    rotate_left
    · (intro w hSw; (try dsimp only at hSw); go_simp; try with_reducible rfl)
    try simp only [Act.put, List.setIfInBounds_toArray, List.set_cons_zero, List.set_cons_succ]
    refine wpAnyH_take (i := 10) (oi := { dst := some 2, op := Op.assign (Operand.tmp 17), type := 3, pos := "read.go:41", after := #[{ on := 9, ground := Ground.data }, { on := 0, ground := Ground.phase }, { on := 1, ground := Ground.phase }, { on := 2, ground := Ground.phase }, { on := 3, ground := Ground.phase }, { on := 4, ground := Ground.phase }, { on := 5, ground := Ground.phase }, { on := 6, ground := Ground.phase }, { on := 7, ground := Ground.phase }, { on := 8, ground := Ground.phase }, { on := 9, ground := Ground.phase }], guard := none }) (v := ?_) rfl (by kernel_rfl) (by kernel_rfl) (by kernel_rfl) (fun _ _ _ h => h) (Or.inl ⟨by rfl, ?_⟩) (by assumption) ?_
    rotate_left
    · (intro w hSw; (try dsimp only at hSw); go_simp; try with_reducible rfl)
    try simp only [Act.put, List.setIfInBounds_toArray, List.set_cons_zero, List.set_cons_succ]
    refine wpAnyH_done (by kernel_rfl) ?_ _
    refine NoPanic.normal ?_
    go_wp2_with fail
    go_ret
    exact ⟨rfl, rfl, (Below.refl _ _).drew⟩
  · have g := dec_ne he
    have g' : (e == 0) = false := by simpa using he
    go_enter Try.func38, Try.ntmps38
    go_wp2_with fail
    go_ret
    exact ⟨rfl, rfl, Below.refl _ _⟩
theorem Try.rread {w : World} {b : Nat} {A : Option Addr} {n c : Nat} {f : Nat} {p : Nat} {e : Int} (h : RB w b A n c f p e) (hp : p ≤ 400) (hf : f ≤ 400) :
    Calls Try.prog 26 #[.pointer (some ⟨b, 0, none⟩)] w fun x w' => x = .returned (.int .i64 ((p : Int) - f)) ∧ w.heap = w'.heap ∧ Below w.heap.size w w' := by
  have h1 := h.c1
  have h2 := h.c2
  have s2 : IntKind.i64.wrap ((p : Int) - f) = (p : Int) - f := by rw [IntKind.wrap_i64]; omega
  go_enter Try.func26, Try.ntmps26
  go_wp2_with fail
  refine wp_region_noPanic ?_
  refine wp_region_held_drew (S := (fun W => W.cell? ⟨b, 1, none⟩ = some (.int .i64 f) ∧ W.cell? ⟨b, 2, none⟩ = some (.int .i64 p))) (by kernel_rfl) ?_ (fun hHeld => ?_)
  · exact ⟨h1, h2⟩
  refine wpAnyH_take (i := 0) (oi := { dst := some 3, op := Op.move (Operand.tmp 0), type := 55, pos := "read.go:33", after := #[], guard := none }) (v := ?_) rfl (by kernel_rfl) (by kernel_rfl) (by kernel_rfl) (fun _ _ _ h => h) (Or.inl ⟨by rfl, ?_⟩) (by assumption) ?_
  rotate_left
  · (intro w hSw; (try dsimp only at hSw); go_simp; try with_reducible rfl)
  try simp only [Act.put, List.setIfInBounds_toArray, List.set_cons_zero, List.set_cons_succ]
  refine wpAnyH_take (i := 1) (oi := { dst := some 4, op := Op.nilCheck (Operand.tmp 3), type := 0, pos := "read.go:33", after := #[{ on := 0, ground := Ground.data }], guard := none }) (v := ?_) rfl (by kernel_rfl) (by kernel_rfl) (by kernel_rfl) (fun _ _ _ h => h) (Or.inl ⟨by rfl, ?_⟩) (by assumption) ?_
  rotate_left
  · (intro w hSw; (try dsimp only at hSw); go_simp; try with_reducible rfl)
  try simp only [Act.put, List.setIfInBounds_toArray, List.set_cons_zero, List.set_cons_succ]
  refine wpAnyH_take (i := 2) (oi := { dst := some 5, op := Op.fieldAddr 78 (Operand.tmp 4) 2, type := 0, pos := "read.go:33", after := #[{ on := 1, ground := Ground.data }], guard := none }) (v := ?_) rfl (by kernel_rfl) (by kernel_rfl) (by kernel_rfl) (fun _ _ _ h => h) (Or.inl ⟨by rfl, ?_⟩) (by assumption) ?_
  rotate_left
  · (intro w hSw; (try dsimp only at hSw); go_simp; try with_reducible rfl)
  try simp only [Act.put, List.setIfInBounds_toArray, List.set_cons_zero, List.set_cons_succ]
  refine wpAnyH_take (i := 3) (oi := { dst := some 6, op := Op.load 3 (Operand.tmp 5), type := 3, pos := "read.go:33", after := #[{ on := 2, ground := Ground.data }], guard := none }) (v := ?_) rfl (by kernel_rfl) (by kernel_rfl) (by kernel_rfl) (fun _ _ _ h => h) (Or.inl ⟨by rfl, ?_⟩) (by assumption) ?_
  rotate_left
  · (intro w hSw; (try dsimp only at hSw); go_simp; try with_reducible rfl)
  try simp only [Act.put, List.setIfInBounds_toArray, List.set_cons_zero, List.set_cons_succ]
  refine wpAnyH_take (i := 4) (oi := { dst := some 7, op := Op.move (Operand.tmp 0), type := 55, pos := "read.go:33", after := #[], guard := none }) (v := ?_) rfl (by kernel_rfl) (by kernel_rfl) (by kernel_rfl) (fun _ _ _ h => h) (Or.inl ⟨by rfl, ?_⟩) (by assumption) ?_
  rotate_left
  · (intro w hSw; (try dsimp only at hSw); go_simp; try with_reducible rfl)
  try simp only [Act.put, List.setIfInBounds_toArray, List.set_cons_zero, List.set_cons_succ]
  refine wpAnyH_take (i := 5) (oi := { dst := some 8, op := Op.nilCheck (Operand.tmp 7), type := 0, pos := "read.go:33", after := #[{ on := 4, ground := Ground.data }], guard := none }) (v := ?_) rfl (by kernel_rfl) (by kernel_rfl) (by kernel_rfl) (fun _ _ _ h => h) (Or.inl ⟨by rfl, ?_⟩) (by assumption) ?_
  rotate_left
  · (intro w hSw; (try dsimp only at hSw); go_simp; try with_reducible rfl)
  try simp only [Act.put, List.setIfInBounds_toArray, List.set_cons_zero, List.set_cons_succ]
  refine wpAnyH_take (i := 6) (oi := { dst := some 9, op := Op.fieldAddr 78 (Operand.tmp 8) 1, type := 0, pos := "read.go:33", after := #[{ on := 5, ground := Ground.data }], guard := none }) (v := ?_) rfl (by kernel_rfl) (by kernel_rfl) (by kernel_rfl) (fun _ _ _ h => h) (Or.inl ⟨by rfl, ?_⟩) (by assumption) ?_
  rotate_left
  · (intro w hSw; (try dsimp only at hSw); go_simp; try with_reducible rfl)
  try simp only [Act.put, List.setIfInBounds_toArray, List.set_cons_zero, List.set_cons_succ]
  refine wpAnyH_take (i := 7) (oi := { dst := some 10, op := Op.load 3 (Operand.tmp 9), type := 3, pos := "read.go:33", after := #[{ on := 6, ground := Ground.data }], guard := none }) (v := ?_) rfl (by kernel_rfl) (by kernel_rfl) (by kernel_rfl) (fun _ _ _ h => h) (Or.inl ⟨by rfl, ?_⟩) (by assumption) ?_
  rotate_left
  · (intro w hSw; (try dsimp only at hSw); go_simp; try with_reducible rfl)
  try simp only [Act.put, List.setIfInBounds_toArray, List.set_cons_zero, List.set_cons_succ]
  refine wpAnyH_take (i := 8) (oi := { dst := some 11, op := Op.binOp BinOp.sub 3 (Operand.tmp 6) (Operand.tmp 10) 3, type := 3, pos := "read.go:33", after := #[{ on := 3, ground := Ground.data }, { on := 7, ground := Ground.data }], guard := none }) (v := ?_) rfl (by kernel_rfl) (by kernel_rfl) (by kernel_rfl) (fun _ _ _ h => h) (Or.inl ⟨by rfl, ?_⟩) (by assumption) ?_
  rotate_left
  · (intro w hSw; (try dsimp only at hSw); go_simp; try with_reducible rfl)
  try simp only [Act.put, List.setIfInBounds_toArray, List.set_cons_zero, List.set_cons_succ]
  refine wpAnyH_take (i := 9) (oi := { dst := some 2, op := Op.assign (Operand.tmp 11), type := 3, pos := "read.go:33", after := #[{ on := 8, ground := Ground.data }, { on := 0, ground := Ground.phase }, { on := 1, ground := Ground.phase }, { on := 2, ground := Ground.phase }, { on := 3, ground := Ground.phase }, { on := 4, ground := Ground.phase }, { on := 5, ground := Ground.phase }, { on := 6, ground := Ground.phase }, { on := 7, ground := Ground.phase }, { on := 8, ground := Ground.phase }], guard := none }) (v := ?_) rfl (by kernel_rfl) (by kernel_rfl) (by kernel_rfl) (fun _ _ _ h => h) (Or.inl ⟨by rfl, ?_⟩) (by assumption) ?_
  rotate_left
  · (intro w hSw; (try dsimp only at hSw); go_simp; try with_reducible rfl)
  try simp only [Act.put, List.setIfInBounds_toArray, List.set_cons_zero, List.set_cons_succ]
  refine wpAnyH_done (by kernel_rfl) ?_ _
  refine NoPanic.normal ?_
  go_wp2_with fail
  go_ret
  exact ⟨rfl, rfl, (Below.refl _ _).drew⟩
theorem Try.rfail {w : World} {b : Nat} {A : Option Addr} {n c : Nat} {f p e : Int} (h : RB w b A n c f p e) (x : Int) :
    Calls Try.prog 25 #[.pointer (some ⟨b, 0, none⟩), .int .i64 x] w fun y w' => y = .returned (.tuple #[]) ∧ Rd w b A n c f p (if e = 0 then x else e) w' := by
  have h3 := h.c3
  have hf3 := frozen_of_row w b 3 _ 78 h
  have HB := Lib.hid h
  obtain ⟨q, hq⟩ : ∃ q, (if e = 0 then x else e) = q := ⟨_, rfl⟩
  rw [hq]
  have HQ := Lib.hid hq
  by_cases he : e = 0
  · subst he
    clear hq h
    go_enter Try.func25, Try.ntmps25
    go_wp2_with fail
    go_end0
    have := HQ.out
    simp at this
    subst this
    exact ⟨rfl, (HB.out).set3 x, grown_set _ _ _ _⟩
  · have g := dec_ne he
    have g' : (e == 0) = false := by simpa using he
    have HE := Lib.hid he
    clear hq h he
    go_enter Try.func25, Try.ntmps25
    go_wp2_with fail
    go_end0
    have := HQ.out
    rw [if_neg HE.out] at this
    subst this
    exact ⟨rfl, HB.out, grown_refl _ _⟩
theorem Try.rneed {w : World} {b : Nat} {A : Option Addr} {n c : Nat} {f p e : Int} (h : RB w b A n c f p e) (ok : Bool) (x q : Int) (hq : (if ok = false ∧ e = 0 then x else e) = q) :
    Calls Try.prog 21 #[.pointer (some ⟨b, 0, none⟩), .bool ok, .int .i64 x] w fun y w' => y = .returned (.tuple #[]) ∧ Rd w b A n c f p q w' := by
  have HB := Lib.hid h
  have HQ := Lib.hid hq
  clear h hq
  cases ok
  · go_enter Try.func21, Try.ntmps21
    go_wp2_with fail
    refine (Try.rfail HB.out x).mono ?_
    rintro y w' ⟨rfl, hR⟩
    have HR := Lib.hid hR
    clear hR
    go_wp2_with fail
    go_end0
    have := HQ.out
    have := HR.out
    simp_all
  · go_enter Try.func21, Try.ntmps21
    go_wp2_with fail
    go_end0
    have := HQ.out
    simp at this
    subst this
    exact ⟨rfl, HB.out, grown_refl _ _⟩
end Go.Proofs
end

section
namespace Go.Proofs
open Go.RowKit
set_option maxRecDepth 100000
theorem RB.heap {w w' : World} {b : Nat} {A : Option Addr} {n c : Nat} {f p e : Int} (h : RB w b A n c f p e) (k : w.heap = w'.heap) : RB w' b A n c f p e := by unfold RB; rw [← k]; exact h
theorem DI.grown {W w w' : World} {A : Option Addr} {n c : Nat} {l : List UInt8} (h : DI W A n c l) (hb : Below W.heap.size W w) : DI w A n c l := h.below hb
structure RdIn (W w : World) (b : Nat) (A : Option Addr) (n c : Nat) (l : List UInt8) (f : Int) (p : Nat) (e : Int) : Prop where
  rb : RB w b A n c f p e
  di : DI W A n c l
  bel : Below W.heap.size W w
  box : W.heap.size ≤ b
  hn : n ≤ 400
  hp : p ≤ n
theorem RdIn.len {W w : World} {b : Nat} {A : Option Addr} {n c : Nat} {l : List UInt8} {f : Int} {p : Nat} {e : Int} (h : RdIn W w b A n c l f p e) : p ≤ l.length := by rw [h.di.len]; exact h.hp
theorem RdIn.dat {W w : World} {b : Nat} {A : Option Addr} {n c : Nat} {l : List UInt8} {f : Int} {p : Nat} {e : Int} (h : RdIn W w b A n c l f p e) : DI w A n c l := h.di.below h.bel
theorem RdIn.next {W w w' : World} {b : Nat} {A : Option Addr} {n c : Nat} {l : List UInt8} {f : Int} {p : Nat} {e : Int} (h : RdIn W w b A n c l f p e) {p' : Nat} {e' : Int} (hr : Rd w b A n c f p' e' w') (hp : p' ≤ n) : RdIn W w' b A n c l f p' e' :=
  ⟨hr.1, h.di, h.bel.grown hr.2 h.bel.size (fun k hk => by cases hk; exact h.box), h.box, h.hn, hp⟩
theorem wrapu {x : Int} (h0 : 0 ≤ x) (h : x < 18446744073709551616) : IntKind.u64.wrap x = x := by rw [IntKind.wrap_u64]; omega
theorem wrapi {x : Int} (h0 : -9223372036854775808 ≤ x) (h : x < 9223372036854775808) : IntKind.i64.wrap x = x := by rw [IntKind.wrap_i64]; omega
set_option maxHeartbeats 4000000 in
theorem Try.rof {W w : World} {b : Nat} {A : Option Addr} {n c : Nat} {l : List UInt8} {f : Int} {p : Nat} {e : Int} (h : RdIn W w b A n c l f p e) :
    Calls Try.prog 36 #[.pointer (some ⟨b, 0, none⟩), .func (.func 37) #[] #[]] w fun y w' => y = .returned (.int .u64 (rnum l p e).1) ∧ Rd w b A n c f (rnum l p e).2.1 (rnum l p e).2.2 w' := by
  have h3 := h.rb.c3
  have h2 := h.rb.c2
  have h0 := h.rb.c0
  have hf2 := frozen_of_row w b 2 _ 78 h.rb
  have hf3 := frozen_of_row w b 3 _ 78 h.rb
  obtain ⟨R, hR⟩ : ∃ R, rnum l p e = R := ⟨_, rfl⟩
  rw [hR]
  have HB := Lib.hid h
  have HQ := Lib.hid hR
  clear h hR
  by_cases he : e = 0
  · subst he
    obtain ⟨g, hg⟩ : ∃ g, getN l p = g := ⟨_, rfl⟩
    have HG := Lib.hid hg
    clear hg
    go_enter Try.func36, Try.ntmps36
    go_wp2_with fail
    refine wp_region_noPanic ?_
    refine wp_region_held_drew (S := (fun W => W.cell? ⟨b, 0, none⟩ = some (.slice A n c) ∧ W.cell? ⟨b, 2, none⟩ = some (.int .i64 p))) (by kernel_rfl) ?_ (fun hHeld => ?_)
    · exact ⟨h0, h2⟩
    refine wpAnyH_take (i := 0) (oi := { dst := some 16, op := Op.move (Operand.tmp 1), type := 80, pos := "read.go:89", after := #[], guard := none }) (v := ?_) rfl (by kernel_rfl) (by kernel_rfl) (by kernel_rfl) (fun _ _ _ h => h) (Or.inl ⟨by rfl, ?_⟩) (by assumption) ?_
    rotate_left
    · (intro w hSw; (try dsimp only at hSw); go_simp; try with_reducible rfl)
    try simp only [Act.put, List.setIfInBounds_toArray, List.set_cons_zero, List.set_cons_succ]
    refine wpAnyH_take (i := 1) (oi := { dst := some 17, op := Op.move (Operand.tmp 0), type := 55, pos := "read.go:89", after := #[], guard := none }) (v := ?_) rfl (by kernel_rfl) (by kernel_rfl) (by kernel_rfl) (fun _ _ _ h => h) (Or.inl ⟨by rfl, ?_⟩) (by assumption) ?_
    rotate_left
    · (intro w hSw; (try dsimp only at hSw); go_simp; try with_reducible rfl)
    try simp only [Act.put, List.setIfInBounds_toArray, List.set_cons_zero, List.set_cons_succ]
    refine wpAnyH_take (i := 2) (oi := { dst := some 18, op := Op.nilCheck (Operand.tmp 17), type := 0, pos := "read.go:89", after := #[{ on := 1, ground := Ground.data }], guard := none }) (v := ?_) rfl (by kernel_rfl) (by kernel_rfl) (by kernel_rfl) (fun _ _ _ h => h) (Or.inl ⟨by rfl, ?_⟩) (by assumption) ?_
    rotate_left
    · (intro w hSw; (try dsimp only at hSw); go_simp; try with_reducible rfl)
    try simp only [Act.put, List.setIfInBounds_toArray, List.set_cons_zero, List.set_cons_succ]
    refine wpAnyH_take (i := 3) (oi := { dst := some 19, op := Op.fieldAddr 78 (Operand.tmp 18) 0, type := 0, pos := "read.go:89", after := #[{ on := 2, ground := Ground.data }], guard := none }) (v := ?_) rfl (by kernel_rfl) (by kernel_rfl) (by kernel_rfl) (fun _ _ _ h => h) (Or.inl ⟨by rfl, ?_⟩) (by assumption) ?_
    rotate_left
    · (intro w hSw; (try dsimp only at hSw); go_simp; try with_reducible rfl)
    try simp only [Act.put, List.setIfInBounds_toArray, List.set_cons_zero, List.set_cons_succ]
    refine wpAnyH_take (i := 4) (oi := { dst := some 20, op := Op.load 22 (Operand.tmp 19), type := 22, pos := "read.go:89", after := #[{ on := 3, ground := Ground.data }], guard := none }) (v := ?_) rfl (by kernel_rfl) (by kernel_rfl) (by kernel_rfl) (fun _ _ _ h => h) (Or.inl ⟨by rfl, ?_⟩) (by assumption) ?_
    rotate_left
    · (intro w hSw; (try dsimp only at hSw); go_simp; try with_reducible rfl)
    try simp only [Act.put, List.setIfInBounds_toArray, List.set_cons_zero, List.set_cons_succ]
    refine wpAnyH_take (i := 5) (oi := { dst := some 21, op := Op.move (Operand.tmp 0), type := 55, pos := "read.go:89", after := #[], guard := none }) (v := ?_) rfl (by kernel_rfl) (by kernel_rfl) (by kernel_rfl) (fun _ _ _ h => h) (Or.inl ⟨by rfl, ?_⟩) (by assumption) ?_
    rotate_left
    · (intro w hSw; (try dsimp only at hSw); go_simp; try with_reducible rfl)
    try simp only [Act.put, List.setIfInBounds_toArray, List.set_cons_zero, List.set_cons_succ]
    refine wpAnyH_take (i := 6) (oi := { dst := some 22, op := Op.nilCheck (Operand.tmp 21), type := 0, pos := "read.go:89", after := #[{ on := 5, ground := Ground.data }], guard := none }) (v := ?_) rfl (by kernel_rfl) (by kernel_rfl) (by kernel_rfl) (fun _ _ _ h => h) (Or.inl ⟨by rfl, ?_⟩) (by assumption) ?_
    rotate_left
    · (intro w hSw; (try dsimp only at hSw); go_simp; try with_reducible rfl)
    try simp only [Act.put, List.setIfInBounds_toArray, List.set_cons_zero, List.set_cons_succ]
    refine wpAnyH_take (i := 7) (oi := { dst := some 23, op := Op.fieldAddr 78 (Operand.tmp 22) 2, type := 0, pos := "read.go:89", after := #[{ on := 6, ground := Ground.data }], guard := none }) (v := ?_) rfl (by kernel_rfl) (by kernel_rfl) (by kernel_rfl) (fun _ _ _ h => h) (Or.inl ⟨by rfl, ?_⟩) (by assumption) ?_
    rotate_left
    · (intro w hSw; (try dsimp only at hSw); go_simp; try with_reducible rfl)
    try simp only [Act.put, List.setIfInBounds_toArray, List.set_cons_zero, List.set_cons_succ]
    refine wpAnyH_take (i := 8) (oi := { dst := some 24, op := Op.load 3 (Operand.tmp 23), type := 3, pos := "read.go:89", after := #[{ on := 7, ground := Ground.data }], guard := none }) (v := ?_) rfl (by kernel_rfl) (by kernel_rfl) (by kernel_rfl) (fun _ _ _ h => h) (Or.inl ⟨by rfl, ?_⟩) (by assumption) ?_
    rotate_left
    · (intro w hSw; (try dsimp only at hSw); go_simp; try with_reducible rfl)
    try simp only [Act.put, List.setIfInBounds_toArray, List.set_cons_zero, List.set_cons_succ]
    refine wpAnyH_ready (rs := [9]) (by kernel_rfl) (by simp) ?_
    refine AllReadyH.cons (o := { dst := some 25, op := Op.call { callee := Callee.value (Operand.tmp 16), args := #[Operand.tmp 20, Operand.tmp 24], argTypes := #[22, 3] }, type := 83, pos := "read.go:89", after := #[{ on := 0, ground := Ground.data }, { on := 4, ground := Ground.data }, { on := 8, ground := Ground.data }], guard := none }) rfl (fun K hK => ?_) AllReadyH.nil
    go_simp
    refine (Try.get _ ((HB.out).dat.below ((Below.refl _ w).drew)) (HB.out).hn p (HB.out).hp).mono ?_
    rintro x2 w2 ⟨rfl, rfl⟩
    rw [HG.out]
    refine hK.out _ _ ?_ (fun hHeld => ?_)
    · assumption
    clear hK K
    try simp only [Act.put, List.setIfInBounds_toArray, List.set_cons_zero, List.set_cons_succ]
    refine wpAnyH_take (i := 10) (oi := { dst := some 15, op := Op.move (Operand.tmp 25), type := 83, pos := "read.go:89", after := #[{ on := 9, ground := Ground.data }], guard := none }) (v := ?_) rfl (by kernel_rfl) (by kernel_rfl) (by kernel_rfl) (fun _ _ _ h => h) (Or.inl ⟨by rfl, ?_⟩) (by assumption) ?_
    rotate_left
    · (intro w hSw; (try dsimp only at hSw); go_simp; try with_reducible rfl)
    try simp only [Act.put, List.setIfInBounds_toArray, List.set_cons_zero, List.set_cons_succ]
    refine wpAnyH_take (i := 11) (oi := { dst := some 26, op := Op.extract (Operand.tmp 15) 0, type := 57, pos := "read.go:89", after := #[{ on := 10, ground := Ground.data }], guard := none }) (v := ?_) rfl (by kernel_rfl) (by kernel_rfl) (by kernel_rfl) (fun _ _ _ h => h) (Or.inl ⟨by rfl, ?_⟩) (by assumption) ?_
    rotate_left
    · (intro w hSw; (try dsimp only at hSw); go_simp; try with_reducible rfl)
    try simp only [Act.put, List.setIfInBounds_toArray, List.set_cons_zero, List.set_cons_succ]
    refine wpAnyH_take (i := 12) (oi := { dst := some 27, op := Op.extract (Operand.tmp 15) 1, type := 3, pos := "read.go:89", after := #[{ on := 10, ground := Ground.data }, { on := 14, ground := Ground.gcOnly Departure.lateStores }], guard := none }) (v := ?_) rfl (by kernel_rfl) (by kernel_rfl) (by kernel_rfl) (fun _ _ _ h => h) (Or.inl ⟨by rfl, ?_⟩) (by assumption) ?_
    rotate_left
    · (intro w hSw; (try dsimp only at hSw); go_simp; try with_reducible rfl)
    try simp only [Act.put, List.setIfInBounds_toArray, List.set_cons_zero, List.set_cons_succ]
    refine wpAnyH_take (i := 13) (oi := { dst := some 28, op := Op.extract (Operand.tmp 15) 2, type := 26, pos := "read.go:89", after := #[{ on := 10, ground := Ground.data }, { on := 15, ground := Ground.gcOnly Departure.lateStores }], guard := none }) (v := ?_) rfl (by kernel_rfl) (by kernel_rfl) (by kernel_rfl) (fun _ _ _ h => h) (Or.inl ⟨by rfl, ?_⟩) (by assumption) ?_
    rotate_left
    · (intro w hSw; (try dsimp only at hSw); go_simp; try with_reducible rfl)
    try simp only [Act.put, List.setIfInBounds_toArray, List.set_cons_zero, List.set_cons_succ]
    refine wpAnyH_take (i := 14) (oi := { dst := some 6, op := Op.assign (Operand.tmp 26), type := 57, pos := "read.go:89", after := #[{ on := 11, ground := Ground.data }, { on := 9, ground := Ground.chain }, { on := 0, ground := Ground.phase }, { on := 1, ground := Ground.phase }, { on := 2, ground := Ground.phase }, { on := 3, ground := Ground.phase }, { on := 4, ground := Ground.phase }, { on := 5, ground := Ground.phase }, { on := 6, ground := Ground.phase }, { on := 7, ground := Ground.phase }, { on := 8, ground := Ground.phase }, { on := 9, ground := Ground.phase }, { on := 10, ground := Ground.phase }, { on := 11, ground := Ground.phase }, { on := 12, ground := Ground.textOnly Departure.lateStores }, { on := 13, ground := Ground.textOnly Departure.lateStores }], guard := none }) (v := ?_) rfl (by kernel_rfl) (by kernel_rfl) (by kernel_rfl) (fun _ _ _ h => h) (Or.inl ⟨by rfl, ?_⟩) (by assumption) ?_
    rotate_left
    · (intro w hSw; (try dsimp only at hSw); go_simp; try with_reducible rfl)
    try simp only [Act.put, List.setIfInBounds_toArray, List.set_cons_zero, List.set_cons_succ]
    refine wpAnyH_take (i := 15) (oi := { dst := some 7, op := Op.assign (Operand.tmp 27), type := 3, pos := "read.go:89", after := #[{ on := 12, ground := Ground.data }, { on := 14, ground := Ground.chain }, { on := 0, ground := Ground.phase }, { on := 1, ground := Ground.phase }, { on := 2, ground := Ground.phase }, { on := 3, ground := Ground.phase }, { on := 4, ground := Ground.phase }, { on := 5, ground := Ground.phase }, { on := 6, ground := Ground.phase }, { on := 7, ground := Ground.phase }, { on := 8, ground := Ground.phase }, { on := 9, ground := Ground.phase }, { on := 10, ground := Ground.phase }, { on := 11, ground := Ground.phase }, { on := 12, ground := Ground.phase }, { on := 13, ground := Ground.textOnly Departure.lateStores }, { on := 14, ground := Ground.phase }], guard := none }) (v := ?_) rfl (by kernel_rfl) (by kernel_rfl) (by kernel_rfl) (fun _ _ _ h => h) (Or.inl ⟨by rfl, ?_⟩) (by assumption) ?_
    rotate_left
    · (intro w hSw; (try dsimp only at hSw); go_simp; try with_reducible rfl)
    try simp only [Act.put, List.setIfInBounds_toArray, List.set_cons_zero, List.set_cons_succ]
    refine wpAnyH_take (i := 16) (oi := { dst := some 8, op := Op.assign (Operand.tmp 28), type := 26, pos := "read.go:89", after := #[{ on := 13, ground := Ground.data }, { on := 15, ground := Ground.chain }, { on := 0, ground := Ground.phase }, { on := 1, ground := Ground.phase }, { on := 2, ground := Ground.phase }, { on := 3, ground := Ground.phase }, { on := 4, ground := Ground.phase }, { on := 5, ground := Ground.phase }, { on := 6, ground := Ground.phase }, { on := 7, ground := Ground.phase }, { on := 8, ground := Ground.phase }, { on := 9, ground := Ground.phase }, { on := 10, ground := Ground.phase }, { on := 11, ground := Ground.phase }, { on := 12, ground := Ground.phase }, { on := 13, ground := Ground.phase }, { on := 14, ground := Ground.phase }, { on := 15, ground := Ground.phase }], guard := none }) (v := ?_) rfl (by kernel_rfl) (by kernel_rfl) (by kernel_rfl) (fun _ _ _ h => h) (Or.inl ⟨by rfl, ?_⟩) (by assumption) ?_
    rotate_left
    · (intro w hSw; (try dsimp only at hSw); go_simp; try with_reducible rfl)
    try simp only [Act.put, List.setIfInBounds_toArray, List.set_cons_zero, List.set_cons_succ]
    refine wpAnyH_done (by kernel_rfl) ?_ _
    refine NoPanic.normal ?_
    obtain ⟨wd, hwd⟩ : ∃ wd, w.drew = wd := ⟨_, rfl⟩
    have RBd : RB wd b A n c f p 0 := (HB.out).rb.heap (by rw [← hwd]; rfl)
    have GRd : w.grownBy wd (some b) := by rw [← hwd]; exact ⟨rfl, rfl, rfl, Nat.le_refl _, fun _ _ _ => rfl⟩
    rw [hwd]
    clear h3 h2 h0 hf2 hf3 hHeld hwd
    have h2 := RBd.c2
    have h3 := RBd.c3
    have hf2 := frozen_of_row wd b 2 _ 78 RBd
    have hf3 := frozen_of_row wd b 3 _ 78 RBd
    have HRB := Lib.hid RBd
    have HGR := Lib.hid GRd
    have hok := getN_ok l p
    rw [HG.out] at hok
    clear RBd GRd
    by_cases hg0 : g.2.2 = 0
    · have hin := hok.ok hg0
      have HE : Hid (R = (g.1, p + g.2.1, 0)) := Lib.hid (by have := HQ.out; unfold rnum at this; rw [if_pos rfl, HG.out, if_pos hg0] at this; exact this.symm)
      have g1 : (g.2.2 == 0) = true := by simpa using hg0
      have g2 : decide (g.2.2 = 0) = true := by simpa using hg0
      have hlen := (HB.out).len
      have hnn := (HB.out).hn
      have hln := (HB.out).di.len
      have s1 : IntKind.i64.wrap ((p : Int) + g.2.1) = ((p + g.2.1 : Nat) : Int) := by rw [wrapi (by omega) (by omega)]; omega
      clear hok hg0
      go_wp2_with fail
      go_ret
      have := HE.out
      subst this
      exact ⟨rfl, (HRB.out).set2 ((p + g.2.1 : Nat) : Int), grown_trans HGR.out (grown_set _ _ _ _)⟩
    · have HE : Hid (R = (0, p, g.2.2)) := Lib.hid (by have := HQ.out; unfold rnum at this; rw [if_pos rfl, HG.out, if_neg hg0] at this; exact this.symm)
      have g1 : (g.2.2 == 0) = false := by simpa using hg0
      have g2 : decide (g.2.2 = 0) = false := by simpa using hg0
      clear hok hg0
      go_wp2_with fail
      go_ret
      have := HE.out
      subst this
      exact ⟨rfl, (HRB.out).set3 _, grown_trans HGR.out (grown_set _ _ _ _)⟩
  · have g := dec_ne he
    have g' : (e == 0) = false := by simpa using he
    have HE : Hid (R = (0, p, e)) := Lib.hid (by have := HQ.out; unfold rnum at this; rw [if_neg he] at this; exact this.symm)
    clear he
    go_enter Try.func36, Try.ntmps36
    go_wp2_with fail
    go_ret
    have := HE.out
    subst this
    exact ⟨rfl, HB.out.rb, grown_refl _ _⟩
theorem Try.rnum {W w : World} {b : Nat} {A : Option Addr} {n c : Nat} {l : List UInt8} {f : Int} {p : Nat} {e : Int} (h : RdIn W w b A n c l f p e) :
    Calls Try.prog 20 #[.pointer (some ⟨b, 0, none⟩)] w fun y w' => y = .returned (.int .u64 (rnum l p e).1) ∧ Rd w b A n c f (rnum l p e).2.1 (rnum l p e).2.2 w' := by
  have HB := Lib.hid h
  clear h
  go_enter Try.func20, Try.ntmps20
  go_wp2_with fail
  refine (Try.rof HB.out).mono ?_
  rintro y w' ⟨rfl, hR⟩
  have HR := Lib.hid hR
  clear hR
  go_wp2_with fail
  go_ret
  exact ⟨rfl, HR.out⟩
end Go.Proofs
end
