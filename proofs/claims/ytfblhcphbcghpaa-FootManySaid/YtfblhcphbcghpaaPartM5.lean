/-
  Texts of a proof over the translated program: proved evaluators and walks, part 5 of 14.
-/
import Derived.Test.YtfblhcphbcghpaaPartM4
import Derived.Below
import Derived.Deep.RegionHeld3
import Derived.Deep.RegionWith
import Derived.Handy
import Derived.IntWalk
import Derived.Laws.BitsLemmas
import Derived.Laws.BytesArg
import Derived.Laws.BytesString
import Derived.Laws.Closers25b
import Derived.Laws.MakeOwn
import Derived.Lib.Hide
import Derived.Lib.SlBytesRow
import Derived.LoopTactic
import Derived.Outline
import Derived.OwnWalk
import Derived.Scope
import Derived.ScopeJumps
import Derived.Test.YtfblhcphbcghpaaProg
import Derived.WalkKit
import Derived.WalkMore
import Derived.WalkSpells
set_option linter.unusedVariables false
set_option linter.unusedSimpArgs false
set_option linter.unusedSectionVars false
set_option linter.unnecessarySimpa false
section
namespace Go.Proofs.Ytfblhcphbcghpaa
open Go.RowKit
set_option maxRecDepth 100000
def u8v (x : UInt8) : Value := .int .u8 (x.toNat : Int)
def strOf (l : List UInt8) : ByteArray := ⟨l.toArray⟩
theorem strOf_size (l : List UInt8) : (strOf l).size = l.length := by simp [strOf, ByteArray.size]
theorem fold_str : ∀ (l : List UInt8) (r : ByteArray), (l.map (fun x => (x.toNat : Int))).foldl (fun r n => r.push (UInt8.ofNat n.toNat)) r = ⟨(r.data.toList ++ l).toArray⟩
  | [], r => by simp
  | x :: l, r => by
    simp only [List.map_cons, List.foldl_cons]
    rw [fold_str l]
    simp [ByteArray.push]
theorem str_arg {w : World} {A : Addr} {l : List UInt8} (hc : ∀ j u, (l.map u8v)[j]? = some u → w.cell? (A.add j) = some u) (n c : Nat) (hn : l.length = n) : (convert 50 9 (.slice (some A) n c)).run Try.prog w = .ok (.string (strOf l)) w := by
  subst hn
  rw [run_convert_bytes_string w 50 9 5 (some A) l.length c Try.underlying50 Try.underlying5 Try.underlying9]
  have h : (loadCells A l.length).run Try.prog w = .ok ((l.map (fun x => (x.toNat : Int))).map (Value.int .u8)).toArray w := by
    have := run_loadCells_list (P := Try.prog) w A (l.map u8v) hc
    rw [List.length_map] at this
    rw [this, List.map_map]
    rfl
  rw [run_bytesToString w A l.length c _ h, fold_str]
  rfl
theorem str_sl0 (w : World) (A : Option Addr) (c : Nat) : (convert 50 9 (.slice A 0 c)).run Try.prog w = .ok (.string (strOf [])) w := by
  cases A with
  | none => exact run_convert_bytes_nil (w := w) 50 5 Try.underlying50 Try.underlying5 0 c 9 Try.underlying9
  | some X => exact str_arg (l := []) (fun j u h => by simp at h) 0 c rfl
structure DI (w : World) (A : Option Addr) (n c : Nat) (l : List UInt8) : Prop where
  len : l.length = n
  le : n ≤ c
  max : c ≤ maxLen
  at' : ∀ j x, l[j]? = some x → ∃ X, A = some X ∧ w.cell? (X.add j) = some (u8v x)
theorem cellW {w W : World} {p : Addr} {v : Value} (h : w.cell? p = some v) (hb : Below w.heap.size w W) : W.cell? p = some v := (hb.cell (block_lt_of_cell h)).trans h
theorem DI.below {w w' : World} {A : Option Addr} {n c : Nat} {l : List UInt8} (h : DI w A n c l) (hb : Below w.heap.size w w') : DI w' A n c l :=
  ⟨h.len, h.le, h.max, fun j x hx => by obtain ⟨X, e, hc⟩ := h.at' j x hx; exact ⟨X, e, cellW hc hb⟩⟩
def RB (w : World) (b : Nat) (A : Option Addr) (n c : Nat) (f p e : Int) : Prop := w.heap[b]? = some (.cells #[.slice A n c, .int .i64 f, .int .i64 p, .int .i64 e] 138 (0, 0))
theorem RB.lt {w : World} {b : Nat} {A : Option Addr} {n c : Nat} {f p e : Int} (h : RB w b A n c f p e) : b < w.heap.size := (Array.getElem?_eq_some_iff.1 h).1
theorem RB.eq {w w' : World} {b : Nat} {A : Option Addr} {n c : Nat} {f p e : Int} (h : RB w b A n c f p e) (k : w'.heap[b]? = w.heap[b]?) : RB w' b A n c f p e := k.trans h
theorem RB.c0 {w : World} {b : Nat} {A : Option Addr} {n c : Nat} {f p e : Int} (h : RB w b A n c f p e) : w.cell? ⟨b, 0, none⟩ = some (.slice A n c) := cell_of_row w b 0 _ 138 _ h
theorem RB.c1 {w : World} {b : Nat} {A : Option Addr} {n c : Nat} {f p e : Int} (h : RB w b A n c f p e) : w.cell? ⟨b, 1, none⟩ = some (.int .i64 f) := cell_of_row w b 1 _ 138 _ h
theorem RB.c2 {w : World} {b : Nat} {A : Option Addr} {n c : Nat} {f p e : Int} (h : RB w b A n c f p e) : w.cell? ⟨b, 2, none⟩ = some (.int .i64 p) := cell_of_row w b 2 _ 138 _ h
theorem RB.c3 {w : World} {b : Nat} {A : Option Addr} {n c : Nat} {f p e : Int} (h : RB w b A n c f p e) : w.cell? ⟨b, 3, none⟩ = some (.int .i64 e) := cell_of_row w b 3 _ 138 _ h
theorem RB.set2 {w : World} {b : Nat} {A : Option Addr} {n c : Nat} {f p e : Int} (h : RB w b A n c f p e) (q : Int) : RB (w.setCell ⟨b, 2, none⟩ (.int .i64 q)) b A n c f q e := heap_setCell_same w b 2 _ 138 _ h
theorem RB.set3 {w : World} {b : Nat} {A : Option Addr} {n c : Nat} {f p e : Int} (h : RB w b A n c f p e) (x : Int) : RB (w.setCell ⟨b, 3, none⟩ (.int .i64 x)) b A n c f p x := heap_setCell_same w b 3 _ 138 _ h
theorem grown_set (w : World) (b k : Nat) (v : Value) : w.grownBy (w.setCell ⟨b, k, none⟩ v) (some b) :=
  ⟨rfl, rfl, rfl, by simp [World.setCell], fun i _ hi => Below.heap_setCell w _ v i (fun h => hi (by rw [h]))⟩
theorem grown_refl (w : World) (r : Option Nat) : w.grownBy w r := ⟨rfl, rfl, rfl, Nat.le_refl _, fun _ _ _ => rfl⟩
theorem grown_trans {a b c : World} {r : Option Nat} (h : a.grownBy b r) (k : b.grownBy c r) : a.grownBy c r :=
  ⟨k.os.trans h.os, k.tape.trans h.tape, k.output.trans h.output, Nat.le_trans h.size k.size, fun i hi hr => (k.block i (Nat.lt_of_lt_of_le hi h.size) hr).trans (h.block i hi hr)⟩
theorem grown_below {a b : World} (h : Below a.heap.size a b) (r : Option Nat) : a.grownBy b r := ⟨h.os, h.tape, h.output, h.size, fun i hi _ => h.block i hi⟩
def Rd (w : World) (b : Nat) (A : Option Addr) (n c : Nat) (f p e : Int) (w' : World) : Prop := RB w' b A n c f p e ∧ w.grownBy w' (some b)
end Go.Proofs.Ytfblhcphbcghpaa
end

section
namespace Go.Proofs.Ytfblhcphbcghpaa
open Go.RowKit
set_option maxRecDepth 100000
theorem wp_scope_once {P : Program} {c R : Code} {a : Act} {w : World} {Q : Exit → Act → World → Prop} (l : Nat) (J : Act → World → Prop) (μ : Act → World → Nat) (hf : findLabel c l = some (Code.skip.seq R))
    (first : (∀ a w, J a w → R.wp P (Exit.jump l J Q) a w) → c.wp P (Exit.jump l J Q) a w) (pass : ∀ a w, J a w → R.wp P (Exit.jump l (fun a' w' => J a' w' ∧ μ a' w' < μ a w) Q) a w) : (Code.scope c).wp P Q a w := by
  refine wp_scope_jumps l J μ hf (first fun a' w' h => ?_) (fun a w h => wp_seq (wp_skip (pass a w h)))
  refine Code.wp_mono ?_ (pass a' w' h)
  intro e a2 w2 h2
  cases e <;> first | exact h2 | exact ⟨h2.1, h2.2.1⟩
def intOf : Value → Int
  | .int _ q => q
  | _ => 0
theorem getF_end {l : List UInt8} {a k : Nat} (u : Int) (hk : k ≤ 9) (h : l[a + k]? = none) : getF l a (10 - k) k u = (0, 0, 5) := by
  obtain ⟨f, hf⟩ : ∃ f, 10 - k = f + 1 := ⟨9 - k, by omega⟩
  rw [hf, getF, h]
theorem getF_bad {l : List UInt8} {a k : Nat} (u : Int) {x : UInt8} (hk : k ≤ 9) (h : l[a + k]? = some x) (hb : (k = 9 ∧ 1 < x.toNat) ∨ (0 < k ∧ x.toNat = 0)) : getF l a (10 - k) k u = (0, 0, 2) := by
  obtain ⟨f, hf⟩ : ∃ f, 10 - k = f + 1 := ⟨9 - k, by omega⟩
  rw [hf, getF, h]
  simp only
  rw [if_pos hb]
theorem getF_one {l : List UInt8} {a k : Nat} (u : Int) {x : UInt8} (hk : k ≤ 9) (h : l[a + k]? = some x) (hb : ¬ ((k = 9 ∧ 1 < x.toNat) ∨ (0 < k ∧ x.toNat = 0))) (hs : x.toNat < 128) : getF l a (10 - k) k u = (gadd k x.toNat u, k + 1, 0) := by
  obtain ⟨f, hf⟩ : ∃ f, 10 - k = f + 1 := ⟨9 - k, by omega⟩
  rw [hf, getF, h]
  simp only
  rw [if_neg hb, if_pos hs]
theorem getF_more {l : List UInt8} {a k : Nat} (u : Int) {x : UInt8} (hk : k ≤ 9) (h : l[a + k]? = some x) (hb : ¬ ((k = 9 ∧ 1 < x.toNat) ∨ (0 < k ∧ x.toNat = 0))) (hs : ¬ x.toNat < 128) : getF l a (10 - k) k u = getF l a (10 - (k + 1)) (k + 1) (gadd k x.toNat u) := by
  obtain ⟨f, hf⟩ : ∃ f, 10 - k = f + 1 := ⟨9 - k, by omega⟩
  have hf2 : 10 - (k + 1) = f := by omega
  rw [hf, getF, h]
  simp only
  rw [if_neg hb, if_neg hs, hf2]
theorem and127 (y : Nat) (h : y < 256) : bits .and .u8 (y : Int) 127 = ((y % 128 : Nat) : Int) := by
  have e : (127 : Int) = ((127 : Nat) : Int) := rfl
  have hy : y % 2 ^ IntKind.u8.bits = y := Nat.mod_eq_of_lt h
  have h7 : 127 % 2 ^ IntKind.u8.bits = 127 := by decide
  have hm : y &&& 127 = y % 128 := Nat.and_two_pow_sub_one_eq_mod y 7
  rw [e]
  simp only [bits, BitVec.ofInt_natCast, BitVec.toNat_and, BitVec.toNat_ofNat, hy, h7, hm]
  rw [IntKind.wrap_u8]; omega
set_option maxHeartbeats 4000000 in
theorem Try.get (w : World) {A : Option Addr} {n c : Nat} {l : List UInt8} (hD : DI w A n c l) (hn : n ≤ 60000) (a : Nat) (ha : a ≤ n) :
    Calls Try.prog 62 #[.slice A n c, .int .i64 a] w fun e w' => e = .returned (.tuple #[.int .u64 (getN l a).1, .int .i64 ((getN l a).2.1 : Nat), .int .i64 (getN l a).2.2]) ∧ w' = w := by
  obtain ⟨R, hR⟩ : ∃ R, getN l a = R := ⟨_, rfl⟩
  rw [hR]
  have HR := Lib.hid hR
  have HD := Lib.hid hD
  have hc1 := hD.le
  have g1 : decide ((a : Int) < 0) = false := by simp
  have g2 : decide ((n : Int) < a) = false := by simp; omega
  have g2' : decide (n < a) = false := by simp; omega
  clear hR hD
  go_enter Try.func62, Try.ntmps62
  go_wp2
  refine wp_scope_once 0 (fun a' wr => wr = w ∧ ∃ (k : Nat) (u : Int), k ≤ 9 ∧ a + k ≤ n ∧ getF l a (10 - k) k u = R ∧ ∃ u2 u3 u9 u10 u11 u12 u13 u14 u15 u16 u17 u18 u19 u20 u21 u22 u23 u24 u25 u26 u27 u28 u29 u30 u31 u32 u33 u34 u35 u36 u37 u38 u39 u40 u41 u42 u43 u44 u45 u46 u47 u48 u49 u50 u51 u52 u53 u54 u55 u56 u57 : Value, a' = { tmps := #[.slice A n c, .int .i64 a, u2, u3, .int .u64 0, .int .i64 0, .int .i64 0, .int .u64 u, .int .i64 k, u9, u10, u11, u12, u13, u14, u15, u16, u17, u18, u19, u20, u21, u22, u23, u24, u25, u26, u27, u28, u29, u30, u31, u32, u33, u34, u35, u36, u37, u38, u39, u40, u41, u42, u43, u44, u45, u46, u47, u48, u49, u50, u51, u52, u53, u54, u55, u56, u57], defers := [] }) (fun a' _ => 10 - (intOf (a'.tmps.getD 8 undef)).toNat) rfl ?_ ?_
  · intro hL
    go_wp2_with (refine wp_label ?_; rename_i Q0 K0 hK; refine hK _ _ (hL _ _ ?_); exact ⟨rfl, 0, 0, by omega, by omega, HR.out, _, _, _, _, _, _, _, _, _, _, _, _, _, _, _, _, _, _, _, _, _, _, _, _, _, _, _, _, _, _, _, _, _, _, _, _, _, _, _, _, _, _, _, _, _, _, _, _, _, _, _, rfl⟩)
  · rintro a' wr ⟨rfl, k, u, hk, hkn, hj, u2, u3, u9, u10, u11, u12, u13, u14, u15, u16, u17, u18, u19, u20, u21, u22, u23, u24, u25, u26, u27, u28, u29, u30, u31, u32, u33, u34, u35, u36, u37, u38, u39, u40, u41, u42, u43, u44, u45, u46, u47, u48, u49, u50, u51, u52, u53, u54, u55, u56, u57, rfl⟩
    have HJ := Lib.hid hj
    clear hj HR
    by_cases hlt : a + k < n
    · obtain ⟨x, hx⟩ : ∃ x, l[a + k]? = some x := ⟨_, List.getElem?_eq_getElem (by rw [HD.out.len]; exact hlt)⟩
      obtain ⟨X, hX, hcell⟩ := (HD.out).at' _ _ hx
      subst hX
      unfold u8v at hcell
      have HX := Lib.hid hx
      obtain ⟨y, hy⟩ : ∃ y, x.toNat = y := ⟨_, rfl⟩
      have hy2 : y < 256 := by rw [← hy]; exact x.toNat_lt
      rw [hy] at hcell
      have HY := Lib.hid hy
      clear hx hy
      have e1 : decide ((a : Int) + k = n) = false := by simp; omega
      have e1' : ((a : Int) + k == n) = false := by simp; omega
      have s1 : IntKind.i64.wrap ((a : Int) + k) = ((a + k : Nat) : Int) := by rw [IntKind.wrap_i64]; omega
      have ha7 := and127 y hy2
      by_cases hk0 : k = 0
      · by_cases h8 : y < 128
        · have d9 : decide ((k : Int) = 9) = false := by simp; omega
          have d9' : ((k : Int) == 9) = false := by simp; omega
          have d0 : decide (0 < (k : Int)) = false := by simp; omega
          have d0' : decide (0 < k) = false := by simp; omega
          have y8 : decide (128 ≤ (y : Int)) = false := by simp; omega
          have y8' : decide (128 ≤ y) = false := by simp; omega
          have HE := Lib.hid ((getF_one u hk HX.out (by rw [HY.out]; omega) (by rw [HY.out]; omega)).symm.trans HJ.out)
          clear HJ
          try clear hk0
          try clear hz
          try clear hk9
          try clear h1
          try clear h8
          go_wp2_with fail
          simp only [Exit.jump]
          go_ret3
          have := HE.out
          rw [HY.out] at this
          subst this
          exact ⟨rfl, rfl⟩
        · have d9 : decide ((k : Int) = 9) = false := by simp; omega
          have d9' : ((k : Int) == 9) = false := by simp; omega
          have d0 : decide (0 < (k : Int)) = false := by simp; omega
          have d0' : decide (0 < k) = false := by simp; omega
          have y8 : decide (128 ≤ (y : Int)) = true := by simp; omega
          have y8' : decide (128 ≤ y) = true := by simp; omega
          have HE := Lib.hid ((getF_more u hk HX.out (by rw [HY.out]; omega) (by rw [HY.out]; omega)).symm.trans HJ.out)
          clear HJ
          have hk8 : k + 1 ≤ 9 := by omega
          try clear hk0
          try clear hz
          try clear hk9
          try clear h1
          try clear h8
          go_wp2_with fail
          go_step3
          have HE2 := HE.out
          rw [HY.out] at HE2
          exact ⟨rfl, ⟨rfl, k + 1, gadd k y u, by omega, by omega, HE2, _, _, _, _, _, _, _, _, _, _, _, _, _, _, _, _, _, _, _, _, _, _, _, _, _, _, _, _, _, _, _, _, _, _, _, _, _, _, _, _, _, _, _, _, _, _, _, _, _, _, _, rfl⟩, by simp [intOf]; omega⟩
      · by_cases hz : y = 0
        · by_cases hk9 : k = 9
          · have d9 : decide ((k : Int) = 9) = true := by simp; omega
            have d9' : ((k : Int) == 9) = true := by simp; omega
            have d0 : decide (0 < (k : Int)) = true := by simp; omega
            have d0' : decide (0 < k) = true := by simp; omega
            have y1 : decide (1 < (y : Int)) = false := by simp; omega
            have y1' : decide (1 < y) = false := by simp; omega
            have y0 : decide ((y : Int) = 0) = true := by simp; omega
            have y0' : ((y : Int) == 0) = true := by simp; omega
            have y0'' : decide (y = 0) = true := by simp; omega
            have HE := Lib.hid ((getF_bad u hk HX.out (by rw [HY.out]; omega)).symm.trans HJ.out)
            clear HJ
            try clear hk0
            try clear hz
            try clear hk9
            try clear h1
            try clear h8
            go_wp2_with fail
            simp only [Exit.jump]
            go_ret3
            have := HE.out
            subst this
            exact ⟨rfl, rfl⟩
          · have d9 : decide ((k : Int) = 9) = false := by simp; omega
            have d9' : ((k : Int) == 9) = false := by simp; omega
            have d0 : decide (0 < (k : Int)) = true := by simp; omega
            have d0' : decide (0 < k) = true := by simp; omega
            have y0 : decide ((y : Int) = 0) = true := by simp; omega
            have y0' : ((y : Int) == 0) = true := by simp; omega
            have y0'' : decide (y = 0) = true := by simp; omega
            have HE := Lib.hid ((getF_bad u hk HX.out (by rw [HY.out]; omega)).symm.trans HJ.out)
            clear HJ
            try clear hk0
            try clear hz
            try clear hk9
            try clear h1
            try clear h8
            go_wp2_with fail
            simp only [Exit.jump]
            go_ret3
            have := HE.out
            subst this
            exact ⟨rfl, rfl⟩
        · by_cases hk9 : k = 9
          · by_cases h1 : 1 < y
            · have d9 : decide ((k : Int) = 9) = true := by simp; omega
              have d9' : ((k : Int) == 9) = true := by simp; omega
              have d0 : decide (0 < (k : Int)) = true := by simp; omega
              have d0' : decide (0 < k) = true := by simp; omega
              have y1 : decide (1 < (y : Int)) = true := by simp; omega
              have y1' : decide (1 < y) = true := by simp; omega
              have y0 : decide ((y : Int) = 0) = false := by simp; omega
              have y0' : ((y : Int) == 0) = false := by simp; omega
              have y0'' : decide (y = 0) = false := by simp; omega
              have HE := Lib.hid ((getF_bad u hk HX.out (by rw [HY.out]; omega)).symm.trans HJ.out)
              clear HJ
              try clear hk0
              try clear hz
              try clear hk9
              try clear h1
              try clear h8
              go_wp2_with fail
              simp only [Exit.jump]
              go_ret3
              have := HE.out
              subst this
              exact ⟨rfl, rfl⟩
            · have d9 : decide ((k : Int) = 9) = true := by simp; omega
              have d9' : ((k : Int) == 9) = true := by simp; omega
              have d0 : decide (0 < (k : Int)) = true := by simp; omega
              have d0' : decide (0 < k) = true := by simp; omega
              have y1 : decide (1 < (y : Int)) = false := by simp; omega
              have y1' : decide (1 < y) = false := by simp; omega
              have y0 : decide ((y : Int) = 0) = false := by simp; omega
              have y0' : ((y : Int) == 0) = false := by simp; omega
              have y0'' : decide (y = 0) = false := by simp; omega
              have y8 : decide (128 ≤ (y : Int)) = false := by simp; omega
              have y8' : decide (128 ≤ y) = false := by simp; omega
              have HE := Lib.hid ((getF_one u hk HX.out (by rw [HY.out]; omega) (by rw [HY.out]; omega)).symm.trans HJ.out)
              clear HJ
              try clear hk0
              try clear hz
              try clear hk9
              try clear h1
              try clear h8
              go_wp2_with fail
              simp only [Exit.jump]
              go_ret3
              have := HE.out
              rw [HY.out] at this
              subst this
              exact ⟨rfl, rfl⟩
          · by_cases h8 : y < 128
            · have d9 : decide ((k : Int) = 9) = false := by simp; omega
              have d9' : ((k : Int) == 9) = false := by simp; omega
              have d0 : decide (0 < (k : Int)) = true := by simp; omega
              have d0' : decide (0 < k) = true := by simp; omega
              have y0 : decide ((y : Int) = 0) = false := by simp; omega
              have y0' : ((y : Int) == 0) = false := by simp; omega
              have y0'' : decide (y = 0) = false := by simp; omega
              have y8 : decide (128 ≤ (y : Int)) = false := by simp; omega
              have y8' : decide (128 ≤ y) = false := by simp; omega
              have HE := Lib.hid ((getF_one u hk HX.out (by rw [HY.out]; omega) (by rw [HY.out]; omega)).symm.trans HJ.out)
              clear HJ
              try clear hk0
              try clear hz
              try clear hk9
              try clear h1
              try clear h8
              go_wp2_with fail
              simp only [Exit.jump]
              go_ret3
              have := HE.out
              rw [HY.out] at this
              subst this
              exact ⟨rfl, rfl⟩
            · have d9 : decide ((k : Int) = 9) = false := by simp; omega
              have d9' : ((k : Int) == 9) = false := by simp; omega
              have d0 : decide (0 < (k : Int)) = true := by simp; omega
              have d0' : decide (0 < k) = true := by simp; omega
              have y0 : decide ((y : Int) = 0) = false := by simp; omega
              have y0' : ((y : Int) == 0) = false := by simp; omega
              have y0'' : decide (y = 0) = false := by simp; omega
              have y8 : decide (128 ≤ (y : Int)) = true := by simp; omega
              have y8' : decide (128 ≤ y) = true := by simp; omega
              have HE := Lib.hid ((getF_more u hk HX.out (by rw [HY.out]; omega) (by rw [HY.out]; omega)).symm.trans HJ.out)
              clear HJ
              have hk8 : k + 1 ≤ 9 := by omega
              try clear hk0
              try clear hz
              try clear hk9
              try clear h1
              try clear h8
              go_wp2_with fail
              go_step3
              have HE2 := HE.out
              rw [HY.out] at HE2
              exact ⟨rfl, ⟨rfl, k + 1, gadd k y u, by omega, by omega, HE2, _, _, _, _, _, _, _, _, _, _, _, _, _, _, _, _, _, _, _, _, _, _, _, _, _, _, _, _, _, _, _, _, _, _, _, _, _, _, _, _, _, _, _, _, _, _, _, _, _, _, _, rfl⟩, by simp [intOf]; omega⟩
    · obtain hk2 : l[a + k]? = none := List.getElem?_eq_none (by rw [HD.out.len]; omega)
      have HE := Lib.hid ((getF_end u hk hk2).symm.trans HJ.out)
      have e1 : decide ((a : Int) + k = n) = true := by simp; omega
      have e1' : ((a : Int) + k == n) = true := by simp; omega
      clear hk2 HJ
      go_wp2_with fail
      simp only [Exit.jump]
      go_ret3
      have := HE.out
      subst this
      exact ⟨rfl, rfl⟩
end Go.Proofs.Ytfblhcphbcghpaa
end
