/-
  Texts of a proof over the translated program: NxM.
-/
import Derived.Test.YtcogajgikmcfpaaGreatDoorQNxL
set_option linter.unusedVariables false
set_option linter.unusedSimpArgs false
set_option linter.unusedSectionVars false
namespace Go.Proofs.YtcogajgikmcfpaaGreatDoor
open Go.RowKit Go.NW
set_option maxRecDepth 100000
def hexD (k : Nat) : UInt8 := [48, 49, 50, 51, 52, 53, 54, 55, 56, 57, 97, 98, 99, 100, 101, 102].getD k 0
def hexL (l : List UInt8) : List UInt8 := l.flatMap fun c => [hexD (c.toNat / 16), hexD (c.toNat % 16)]
theorem dget (p : Nat) (h : p < (⟨#[48, 49, 50, 51, 52, 53, 54, 55, 56, 57, 97, 98, 99, 100, 101, 102]⟩ : ByteArray).size) : (⟨#[48, 49, 50, 51, 52, 53, 54, 55, 56, 57, 97, 98, 99, 100, 101, 102]⟩ : ByteArray)[p]'h = hexD p := by
  have := bs_get [48, 49, 50, 51, 52, 53, 54, 55, 56, 57, 97, 98, 99, 100, 101, 102] p h
  refine this.trans ?_
  unfold hexD
  rw [List.getD_eq_getElem?_getD, List.getElem?_eq_getElem (show p < 16 from h)]
  rfl
theorem hexL_snoc (l : List UInt8) (i : Nat) (y : UInt8) (h : l[i]? = some y) : hexL (l.take (i + 1)) = hexL (l.take i) ++ [hexD (y.toNat / 16)] ++ [hexD (y.toNat % 16)] := by
  unfold hexL
  rw [List.take_add_one, h, List.flatMap_append]
  simp
theorem hexL_len (l : List UInt8) : (hexL l).length = 2 * l.length := by
  unfold hexL
  induction l with
  | nil => rfl
  | cons c r ih =>
    rw [List.flatMap_cons, List.length_append, ih]
    simp
    omega
theorem bc_snoc (l : List UInt8) (c : UInt8) : Lib.byteCells l ++ [.int .u8 (c.toNat : Int)] = Lib.byteCells (l ++ [c]) := by simp [Lib.byteCells]
theorem bc_len (l : List UInt8) : (Lib.byteCells l).length = l.length := by simp [Lib.byteCells]
theorem Tryz.hex (l : List UInt8) (hl : l.length < 2 ^ 40) (w : World) : Calls Tryz.prog 68 #[.string (bs l)] w fun e w' => e = .returned (.string (bs (hexL l))) ∧ Below w.heap.size w w' := by
  obtain ⟨m, hm⟩ : ∃ m, m = l.length := ⟨_, rfl⟩
  have hS1 : (bs l).size = m := by rw [bs_size, hm]
  have hG := bs_get
  have HM := Lib.hid hm
  rw [← hm] at hl
  clear hm
  go_enter Tryz.func68, Tryz.ntmps68
  go_wp2_with fail
  have hfb := Lib.fresh_isBuilder 90 5 w
  go_loopw [7] (fun t7 W => ∃ i : Nat, i ≤ m ∧ t7 = .int .i64 i ∧ Hid (Lib.IsBuilder 90 5 w.heap.size w.heap.size (Lib.byteCells (hexL (l.take i))) W) ∧ Hid (Below w.heap.size w W)) (fun t7 _ => m - (intO t7).toNat)
  case atStart => exact ⟨0, Nat.zero_le _, rfl, Lib.hid (by simpa [hexL, Lib.byteCells] using hfb), Lib.hid ((Below.refl _ w).alloc (Nat.le_refl _) _)⟩
  case round =>
    rename World => W
    obtain ⟨i, him, rfl, HI, HB⟩ := hrel
    by_cases hlt : i < m
    · have t1 : decide ((i : Int) < m) = true := decide_eq_true (by omega)
      have t2 : decide (i < m) = true := decide_eq_true hlt
      obtain ⟨y, hy⟩ : ∃ y, l[i]'(by rw [← HM.out]; exact hlt) = y := ⟨_, rfl⟩
      have hy2 : l[i]? = some y := by rw [List.getElem?_eq_getElem (by rw [← HM.out]; exact hlt), hy]
      have HSN := Lib.hid (hexL_snoc l i y hy2)
      have hy256 : y.toNat < 256 := y.toNat_lt
      obtain ⟨p, hp⟩ : ∃ p, p = y.toNat / 16 := ⟨_, rfl⟩
      obtain ⟨q, hq⟩ : ∃ q, q = y.toNat % 16 := ⟨_, rfl⟩
      have hpI : (y.toNat : Int) / 16 = (p : Int) := by omega
      have hqI : (y.toNat : Int) % 16 = (q : Int) := by omega
      have hp16 : p < 16 := by omega
      have hq16 : q < 16 := by omega
      have hp16' : (p : Int) < 16 := by omega
      have hq16' : (q : Int) < 16 := by omega
      have hD := dget
      have HP := Lib.hid hp
      have HQ := Lib.hid hq
      have hlen : (Lib.byteCells (hexL (l.take i))).length ≤ 2 * m := by rw [bc_len, hexL_len, List.length_take]; omega
      have HLN := Lib.hid hlen
      obtain ⟨X, hX⟩ : ∃ X, X = hexL (l.take i) := ⟨_, rfl⟩
      rw [← hX] at HI HSN HLN
      have HX := Lib.hid hX
      clear hp hq hy2 hlen hX
      go_wp2_with fail
      refine (Tryz.writeByte _ _ _ _ _ HI.out (by have := HLN.out; omega) HB.out.size).mono ?_
      rintro e W1 ⟨rfl, h1, hb1⟩
      rw [bc_snoc] at h1
      have H1 := Lib.hid h1
      have B1 := Lib.hid (HB.out.trans hb1)
      clear h1 hb1
      go_wp2_with fail
      refine (Tryz.writeByte _ _ _ _ _ H1.out (by have := HLN.out; rw [bc_len] at this ⊢; rw [List.length_append]; simp; omega) B1.out.size).mono ?_
      rintro e W2 ⟨rfl, h2, hb2⟩
      rw [bc_snoc] at h2
      have H2 := Lib.hid h2
      have B2 := Lib.hid (B1.out.trans hb2)
      clear h2 hb2
      go_wp2_with fail
      refine ⟨⟨i + 1, by omega, rfl, Lib.hid ?_, B2⟩, by simp [intO]; omega⟩
      rw [HSN.out, ← HP.out, ← HQ.out]
      exact H2.out
    · obtain rfl : i = m := by omega
      have t1 : decide ((i : Int) < i) = false := decide_eq_false (by omega)
      have t2 : decide (i < i) = false := decide_eq_false (by omega)
      have hI := HI.out
      rw [show l.take i = l by rw [HM.out, List.take_length]] at hI
      have HJ := Lib.hid hI
      clear hI HI
      go_wp2_with fail
      refine (Tryz.Builder_String_any _ _ _ _ HJ.out HB.out.size).mono ?_
      rintro e W1 ⟨rfl, hb1⟩
      have B1 := Lib.hid (HB.out.trans hb1)
      clear hb1
      go_wp2_with fail
      go_ret
      exact ⟨rfl, B1.out⟩
end Go.Proofs.YtcogajgikmcfpaaGreatDoor
