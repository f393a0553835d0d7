/-
  Texts of a proof over the translated program: proved evaluators and walks, part 9 of 14.
-/
import Derived.Test.YtfblhcphbcghpaaPartM8
import Derived.Below
import Derived.Deep.Cut
import Derived.Deep.RegionHeld3
import Derived.Deep.RegionWith
import Derived.Handy
import Derived.IntWalk
import Derived.Laws.AppendOwnNone
import Derived.Laws.BitsLemmas
import Derived.Laws.BytesArg
import Derived.Laws.BytesString
import Derived.Laws.Closers25b
import Derived.Laws.CopyOwn
import Derived.Laws.MakeOwn
import Derived.Laws.StructEq
import Derived.Lib.Hide
import Derived.Lib.SlBytesRow
import Derived.LoopTactic
import Derived.Outline
import Derived.OwnWalk
import Derived.Scope
import Derived.ScopeJumps
import Derived.Test.YtfblhcphbcghpaaProg
import Derived.WalkKit
import Derived.WalkMore
import Derived.WalkSpells
set_option linter.unusedVariables false
set_option linter.unusedSimpArgs false
set_option linter.unusedSectionVars false
set_option linter.unnecessarySimpa false
section
namespace Go.Proofs.Ytfblhcphbcghpaa
open Go.RowKit
set_option maxRecDepth 100000
theorem rtext_le (l : List UInt8) (p : Nat) (e u : Int) : (rtext l p e u).1.length ≤ l.length := by
  unfold rtext
  split
  · split
    · simp only [List.length_take, List.length_drop]; omega
    · simp
  · simp
theorem citer_names (l : List UInt8) (p : Nat) : ∀ (i j : Nat) (q : List UInt8 × Int), (citer l p i).cs[j]? = some q → q.1.length ≤ l.length
  | 0, j, q, h => by simp [citer] at h
  | i + 1, j, q, h => by
    have e : (citer l p (i + 1)).cs = (citer l p i).cs ++ [((rtext l (rnum l (citer l p i).p (citer l p i).e).2.1 (rnum l (citer l p i).p (citer l p i).e).2.2 (rnum l (citer l p i).p (citer l p i).e).1).1, (rbyte l (rtext l (rnum l (citer l p i).p (citer l p i).e).2.1 (rnum l (citer l p i).p (citer l p i).e).2.2 (rnum l (citer l p i).p (citer l p i).e).1).2.1 (rtext l (rnum l (citer l p i).p (citer l p i).e).2.1 (rnum l (citer l p i).p (citer l p i).e).2.2 (rnum l (citer l p i).p (citer l p i).e).1).2.2).1)] := rfl
    rw [e] at h
    rw [List.getElem?_append] at h
    split at h
    · exact citer_names l p i j q h
    · have : j - (citer l p i).cs.length = 0 := by
        have := (List.getElem?_eq_some_iff.1 h).1
        simp at this; omega
      rw [this] at h
      simp at h
      subst h
      exact rtext_le _ _ _ _
theorem sget_arg {l : List UInt8} {a : Int} (h : ¬ (0 ≤ a ∧ a ≤ l.length)) : sgetE l a = 1 := by unfold sgetE; rw [if_neg h]
theorem sget_e {l : List UInt8} {a : Nat} (h : a ≤ l.length) {r : Int × Nat × Int} (hr : rnum l a 0 = r) (he : r.2.2 ≠ 0) : sgetE l a = r.2.2 := by
  unfold sgetE
  rw [if_pos ⟨by omega, by omega⟩, Int.toNat_natCast, hr, if_neg he]
theorem sget_long {l : List UInt8} {a : Nat} (h : a ≤ l.length) {r : Int × Nat × Int} (hr : rnum l a 0 = r) (he : r.2.2 = 0) (hu : ¬ (1 ≤ r.1 ∧ r.1 ≤ 8)) : sgetE l a = 4 := by
  unfold sgetE
  rw [if_pos ⟨by omega, by omega⟩, Int.toNat_natCast, hr, if_pos he, if_neg hu]
theorem sget_in {l : List UInt8} {a U : Nat} (h : a ≤ l.length) {r : Int × Nat × Int} (hr : rnum l a 0 = r) (he : r.2.2 = 0) (hU : r.1 = U) (hu : 1 ≤ U ∧ U ≤ 8) : sgetE l a = if (citer l r.2.1 U).e = 0 then chk (citer l r.2.1 U).cs else (citer l r.2.1 U).e := by
  unfold sgetE
  rw [if_pos ⟨by omega, by omega⟩, Int.toNat_natCast, hr, if_pos he, hU, if_pos (by omega), Int.toNat_natCast]
theorem sget_end {l : List UInt8} {a U : Nat} (h : a ≤ l.length) {r : Int × Nat × Int} (hr : rnum l a 0 = r) (he : r.2.2 = 0) (hU : r.1 = U) (hu : 1 ≤ U ∧ U ≤ 8) (hb : (citer l r.2.1 U).e = 0) : sgetE l a = chk (citer l r.2.1 U).cs := by
  rw [sget_in h hr he hU hu, if_pos hb]
theorem sgetC_no {l : List UInt8} {a : Int} (h : sgetE l a ≠ 0) : sgetC l a = [] := by unfold sgetC; rw [if_neg h]
theorem sgetN_no {l : List UInt8} {a : Int} (h : sgetE l a ≠ 0) : sgetN l a = 0 := by unfold sgetN; rw [if_neg h]
theorem sgetC_ok {l : List UInt8} {a U : Nat} {r : Int × Nat × Int} (hr : rnum l a 0 = r) (hU : r.1 = U) (h : sgetE l a = 0) : sgetC l a = (citer l r.2.1 U).cs := by
  unfold sgetC; rw [if_pos h, Int.toNat_natCast, hr, hU, Int.toNat_natCast]
theorem sgetN_ok {l : List UInt8} {a U : Nat} {r : Int × Nat × Int} (hr : rnum l a 0 = r) (hU : r.1 = U) (h : sgetE l a = 0) : sgetN l a = ((citer l r.2.1 U).p : Int) - a := by
  unfold sgetN; rw [if_pos h, Int.toNat_natCast, hr, hU, Int.toNat_natCast]
def GotS (e : TypeId) (w : World) (l : List UInt8) (a : Int) (x : Ending) (w' : World) : Prop :=
  ∃ v m, x = .returned (.tuple #[v, .int .i64 (sgetN l a), .int .i64 (sgetE l a)]) ∧ w'.ownsRow w.heap.size e 2 v m (flat (sgetC l a)) ∧ m ≤ 8 ∧ Below w.heap.size w w'
theorem gotS_no {e : TypeId} {w w' : World} {l : List UInt8} {a x : Int} (h : sgetE l a = x) (hx : x ≠ 0) (hb : Below w.heap.size w w') : GotS e w l a (.returned (.tuple #[.slice none 0 0, .int .i64 0, .int .i64 x])) w' := by
  refine ⟨.slice none 0 0, 0, ?_, ?_, by omega, hb⟩
  · rw [sgetN_no (by rw [h]; exact hx), h]
  · rw [sgetC_no (by rw [h]; exact hx)]
    exact World.ownsRow_nil _ _ _ _
end Go.Proofs.Ytfblhcphbcghpaa
end

section
namespace Go.Proofs.Ytfblhcphbcghpaa
open Go.RowKit
set_option maxRecDepth 100000
structure GR (w : World) (l : List UInt8) (a p0 i k : Nat) (v : Value) (wr : World) : Prop where
  e : (citer l p0 i).e = 0
  p : (citer l p0 i).p = a + k
  o : wr.ownsRow w.heap.size 69 2 v i (flat (citer l p0 i).cs)
  b : Below w.heap.size w wr
theorem rbyte_some {l : List UInt8} {p : Nat} {x : UInt8} (h : l[p]? = some x) : rbyte l p 0 = ((x.toNat : Int), p + 1, 0) := by unfold rbyte; rw [if_pos rfl, h]
end Go.Proofs.Ytfblhcphbcghpaa
end

section
namespace Go.Proofs.Ytfblhcphbcghpaa
open Go.RowKit
set_option maxRecDepth 100000
theorem made_flat (U : Nat) (h : U ≤ 8) : (madeCells #[.string ⟨#[]⟩, .int .i64 0] (U * 2)).toList = flat (List.replicate U ([], 0)) := by
  apply List.ext_getElem?
  intro k
  unfold madeCells
  rw [Array.getElem?_toList, Array.getElem?_map]
  by_cases hk : k < U * 2
  · rw [Array.getElem?_range, if_pos hk]
    have h2 := flat_at (List.replicate U (([], 0) : List UInt8 × Int)) (k / 2) ([], 0) (by rw [List.getElem?_replicate, if_pos (by omega)])
    rcases Nat.mod_two_eq_zero_or_one k with hm | hm
    · have e : k = k / 2 * 2 := by omega
      rw [e, h2.1]
      simp
      rfl
    · have e : k = k / 2 * 2 + 1 := by omega
      rw [e, h2.2]
      have e2 : (k / 2 * 2 + 1) % 2 = 1 := by omega
      simp [e2]
  · rw [List.getElem?_eq_none (by rw [flat_len, List.length_replicate]; omega), Array.getElem?_eq_none (by simp; omega)]
    rfl
theorem flat_app (A B : List (List UInt8 × Int)) : flat (A ++ B) = flat A ++ flat B := by simp [flat]
theorem flat_set1 (A B : List (List UInt8 × Int)) (q : List UInt8 × Int) (s : List UInt8) (i : Nat) (h : A.length = i) : (flat (A ++ q :: B)).set (i * 2) (.string (strOf s)) = flat (A ++ (s, q.2) :: B) := by
  have hl := flat_len A
  have e : flat (q :: B) = .string (strOf q.1) :: .int .i64 q.2 :: flat B := rfl
  have e' : flat ((s, q.2) :: B) = .string (strOf s) :: .int .i64 q.2 :: flat B := rfl
  rw [flat_app, flat_app, e, e', List.set_append_right _ _ (by omega), hl, h, Nat.sub_self]
  rfl
theorem flat_set2 (A B : List (List UInt8 × Int)) (q : List UInt8 × Int) (y : Int) (i : Nat) (h : A.length = i) : (flat (A ++ q :: B)).set (i * 2 + 1) (.int .i64 y) = flat (A ++ (q.1, y) :: B) := by
  have hl := flat_len A
  have e : flat (q :: B) = .string (strOf q.1) :: .int .i64 q.2 :: flat B := rfl
  have e' : flat ((q.1, y) :: B) = .string (strOf q.1) :: .int .i64 y :: flat B := rfl
  have e1 : i * 2 + 1 - i * 2 = 1 := by omega
  rw [flat_app, flat_app, e, e', List.set_append_right _ _ (by omega), hl, h, e1]
  rfl
theorem flat_get (A B : List (List UInt8 × Int)) (q : List UInt8 × Int) (i : Nat) (h : A.length = i) : (flat (A ++ q :: B))[i * 2]? = some (.string (strOf q.1)) ∧ (flat (A ++ q :: B))[i * 2 + 1]? = some (.int .i64 q.2) :=
  flat_at _ i q (by rw [List.getElem?_append_right (by omega), h, Nat.sub_self]; rfl)
structure SR (w : World) (A : Option Addr) (n c : Nat) (l : List UInt8) (a0 p0 rb sb B0 U i : Nat) (wr : World) : Prop where
  rd : RdIn w wr rb A n c l a0 (citer l p0 i).p (citer l p0 i).e
  o : wr.ownsRow B0 103 2 (.slice (some ⟨sb, 0, none⟩) U U) U (flat ((citer l p0 i).cs ++ List.replicate (U - i) ([], 0)))
set_option maxHeartbeats 8000000 in
theorem Try.getS (w : World) {A : Option Addr} {n c : Nat} {l : List UInt8} (hD : DI w A n c l) (hn : n ≤ 60000) (a : Int) (ha : -9223372036854775808 ≤ a ∧ a ≤ 9223372036854775807) :
    Calls Try.prog 34 #[.slice A n c, .int .i64 a] w (GotS 103 w l a) := by
  have HD := Lib.hid hD
  have hln := hD.len
  have hlc := hD.le
  clear hD
  by_cases hin : 0 ≤ a ∧ a ≤ n
  · obtain ⟨a0, rfl⟩ : ∃ a0 : Nat, a = (a0 : Int) := ⟨a.toNat, by omega⟩
    have ha0 : a0 ≤ n := by omega
    obtain ⟨r, hr⟩ : ∃ r, Proofs.rnum l a0 0 = r := ⟨_, rfl⟩
    have HRN := Lib.hid hr
    have hnin := rnum_in l a0 0 (by omega)
    rw [hr] at hnin
    obtain ⟨u, p0, e⟩ := r
    dsimp only at hnin
    clear hin hr ha
    go_enter Try.func34, Try.ntmps34
    go_wp2_with fail
    refine (Try.rnew w A n c a0 0 hn (by rw [if_pos]; omega)).mono ?_
    rintro x w1 ⟨rb, rfl, hrb, hR1, hb1⟩
    have I1 : Hid (RdIn w w1 rb A n c l a0 a0 0) := Lib.hid ⟨hR1, HD.out, hb1, hrb, hn, ha0⟩
    clear hrb hR1 hb1
    go_wp2_with fail
    refine (Try.rnum I1.out).mono ?_
    rintro x w2 ⟨rfl, hR2⟩
    rw [HRN.out] at hR2 ⊢
    dsimp only at hR2 ⊢
    by_cases he : e = 0
    · subst he
      have I2 := Lib.hid ((I1.out).next hR2 (by omega))
      clear hR2 I1
      by_cases hu : 1 ≤ u ∧ u ≤ 8
      · obtain ⟨U, rfl⟩ : ∃ U : Nat, u = (U : Int) := ⟨u.toNat, by omega⟩
        have HU : Hid (1 ≤ U ∧ U ≤ 8) := Lib.hid (by omega)
        have hU8 : U ≤ 8 := by omega
        have g1 : decide ((1 : Int) ≤ U) = true := decide_eq_true (by omega)
        have g1' : decide (1 ≤ U) = true := decide_eq_true (by omega)
        have g2 : decide ((U : Int) ≤ 8) = true := decide_eq_true (by omega)
        have g2' : decide (U ≤ 8) = true := decide_eq_true (by omega)
        clear hu
        go_wp2_with fail
        refine (Try.rneed (I2.out).rb true 4 0 (by simp)).mono ?_
        rintro x w3 ⟨rfl, hR3⟩
        have I3 := Lib.hid ((I2.out).next hR3 (I2.out).hp)
        clear hR3 I2
        go_wp2_with fail
        refine (Try.rerr (I3.out).rb).mono ?_
        rintro x w4 ⟨rfl, hw4⟩
        rw [hw4]
        clear hw4 w4
        go_upto_region 7 with fail
        have hrbl := (I3.out).rb.lt
        obtain ⟨B0, hB0⟩ : ∃ B0, w3.heap.size = B0 := ⟨_, rfl⟩
        have hB0w : w.heap.size ≤ B0 := by rw [← hB0]; exact (I3.out).bel.size
        rw [hB0] at hrbl
        have HRB := Lib.hid hrbl
        have HBW := Lib.hid hB0w
        have HB0 := Lib.hid hB0
        clear hrbl hB0 hB0w
        obtain ⟨ii, hi0, hz0, hz1, hz2⟩ := infoC 103 (by kernel_rfl)
        have hb2 : ii.bytes * U ≤ 281474976710656 := by rw [hz2]; omega
        have hbs : B0 ≤ w3.heap.size := Nat.le_of_eq HB0.out.symm
        go_wp2_with (at_make; refine wpList_make_full _ rfl _ _ 45 rfl B0 103 ii (.agg #[.string ⟨#[]⟩, .int .i64 0]) 2 Try.underlying45 hi0 hz0 hz1 _ _ _ _ U rfl rfl (by omega) (by omega) hb2 (by unfold maxLen; omega) hbs ?_)
        clear hb2 hbs
        intro w5 hown hg5
        obtain ⟨sb, hsb⟩ : ∃ sb, w3.heap.size = sb := ⟨_, rfl⟩
        rw [hsb] at hown ⊢
        have HS : Hid (SR w A n c l a0 p0 rb sb B0 U 0 w5) := Lib.hid ⟨(I3.out).other (hg5.block rb (I3.out).rb.lt (by simp)) ((I3.out).bel.grown hg5 (I3.out).bel.size (fun k hk => by cases hk)), by rw [made_flat U hU8] at hown; exact hown⟩
        have HSB : Hid (rb ≠ sb) := Lib.hid (by have := HRB.out; have := HB0.out; omega)
        have HSW : Hid (w.heap.size ≤ sb) := Lib.hid (by have := HBW.out; have := HB0.out; omega)
        clear hown hg5 hsb I3 hz0 hz1 hz2 hi0 HB0
        go_wp2_with fail
        go_loopw [11, 35] (fun x11 t wr => ∃ i : Nat, i ≤ U ∧ t = .int .i64 i ∧ SR w A n c l a0 p0 rb sb B0 U i wr) (fun _ t _ => U - (intOf t).toNat)
        case atStart => exact ⟨0, Nat.zero_le _, rfl, HS.out⟩
        case round =>
          obtain ⟨i, hi, rfl, hs⟩ := hrel
          have HR := Lib.hid hs
          clear hs HS
          by_cases hlt : i < U
          · have hD : decide ((i : Int) < U) = true := decide_eq_true (by omega)
            have hD' : decide (i < U) = true := decide_eq_true hlt
            have hcl := citer_len l p0 i
            obtain ⟨S, hS⟩ : ∃ S, citer l p0 i = S := ⟨_, rfl⟩
            obtain ⟨p, e, cs⟩ := S
            rw [hS] at hcl
            dsimp only at hcl
            have HSt := Lib.hid hS
            have hrd := (HR.out).rd
            have ho := (HR.out).o
            rw [hS] at hrd ho
            dsimp only at hrd ho
            have hrep : List.replicate (U - i) (([], 0) : List UInt8 × Int) = ([], 0) :: List.replicate (U - (i + 1)) ([], 0) := by
              rw [show U - i = (U - (i + 1)) + 1 by omega]; rfl
            rw [hrep] at ho
            have RD := Lib.hid hrd
            have OO := Lib.hid ho
            have HCL := Lib.hid hcl
            clear hrd ho hrep hS hcl HR
            obtain ⟨r1, hr1⟩ : ∃ r1, Proofs.rnum l p e = r1 := ⟨_, rfl⟩
            have hn1 := rnum_in l p e (RD.out).len
            rw [hr1] at hn1
            obtain ⟨u1, p1, e1⟩ := r1
            dsimp only at hn1
            obtain ⟨U1, rfl⟩ : ∃ U1 : Nat, u1 = (U1 : Int) := ⟨u1.toNat, by omega⟩
            have HA1 := Lib.hid hr1
            obtain ⟨r2, hr2⟩ : ∃ r2, rtext l p1 e1 U1 = r2 := ⟨_, rfl⟩
            have hn2 := rtext_in l p1 e1 U1 hn1.2.2 (by omega)
            rw [hr2] at hn2
            obtain ⟨wd, p2, e2⟩ := r2
            dsimp only at hn2
            have HA2 := Lib.hid hr2
            obtain ⟨r3, hr3⟩ : ∃ r3, rbyte l p2 e2 = r3 := ⟨_, rfl⟩
            have hn3 := rbyte_in l p2 e2 hn2
            rw [hr3] at hn3
            obtain ⟨y, p3, e3⟩ := r3
            dsimp only at hn3
            obtain ⟨Y, rfl⟩ : ∃ Y : Nat, y = (Y : Int) := ⟨y.toNat, by omega⟩
            have HA3 := Lib.hid hr3
            have hU1 : U1 < 18446744073709551616 := by omega
            have hY : Y < 256 := by omega
            have hp1 : p1 ≤ n := by omega
            have hp2 : p2 ≤ n := by omega
            have hp3 : p3 ≤ n := by omega
            have HST : Hid (citer l p0 (i + 1) = ⟨p3, e3, cs ++ [(wd, (Y : Int))]⟩) := Lib.hid (by
              show cstep l (citer l p0 i) = _
              rw [HSt.out]
              unfold cstep
              simp only [hr1, hr2, hr3])
            clear hr1 hr2 hr3 hn1 hn2 hn3
            go_wp2_with fail
            refine (Try.rnum RD.out).mono ?_
            rintro x w6 ⟨rfl, hR6⟩
            rw [HA1.out] at hR6 ⊢
            dsimp only at hR6 ⊢
            have R6 := Lib.hid ((RD.out).next hR6 hp1)
            have O6 := Lib.hid ((OO.out).kept hR6.2 (.inr (by intro h; cases h; exact HSB.out rfl)))
            clear hR6
            go_wp2_with fail
            refine (Try.textI R6.out U1 hU1).mono ?_
            rintro x w7 ⟨rfl, hR7⟩
            rw [HA2.out] at hR7 ⊢
            dsimp only at hR7 ⊢
            have R7 := Lib.hid ((R6.out).next hR7 hp2)
            have O7 := Lib.hid ((O6.out).kept hR7.2 (.inr (by intro h; cases h; exact HSB.out rfl)))
            clear hR7 R6 O6
            have cX := ((O7.out).cellAt (i * 2) (by omega)).trans (flat_get cs _ _ i HCL.out).1
            have fX := (O7.out).frozenAt (i * 2)
            go_upto_region 12 with fail
            obtain ⟨w8, hw8⟩ : ∃ w8, w7.setCell ⟨sb, i * 2, none⟩ (.string (strOf wd)) = w8 := ⟨_, rfl⟩
            have hst := (O7.out).stored (i * 2) (.string (strOf wd))
            rw [flat_set1 cs _ _ wd i HCL.out, hw8] at hst
            have O8 := Lib.hid hst.1
            have R8 := Lib.hid ((R7.out).other (hst.2.block rb (R7.out).rb.lt (by intro h; cases h; exact HSB.out rfl)) ((R7.out).bel.grown hst.2 (R7.out).bel.size (fun k hk => by cases hk; exact HSW.out)))
            rw [hw8]
            clear hst hw8 cX fX R7 O7
            go_wp2_with fail
            refine (Try.byteI R8.out).mono ?_
            rintro x w9 ⟨rfl, hR9⟩
            rw [HA3.out] at hR9 ⊢
            dsimp only at hR9 ⊢
            have R9 := Lib.hid ((R8.out).next hR9 hp3)
            have O9 := Lib.hid ((O8.out).kept hR9.2 (.inr (by intro h; cases h; exact HSB.out rfl)))
            clear hR9 R8 O8
            have cX := ((O9.out).cellAt (i * 2 + 1) (by omega)).trans (flat_get cs _ _ i HCL.out).2
            have fX := (O9.out).frozenAt (i * 2 + 1)
            have sY : IntKind.i64.wrap (Y : Int) = (Y : Int) := wrapi (by omega) (by omega)
            have hst := (O9.out).stored (i * 2 + 1) (.int .i64 Y)
            rw [flat_set2 cs _ _ (Y : Int) i HCL.out] at hst
            have HN : Hid (SR w A n c l a0 p0 rb sb B0 U (i + 1) (w9.setCell ⟨sb, i * 2 + 1, none⟩ (.int .i64 Y))) := Lib.hid ⟨by
              rw [HST.out]
              exact (R9.out).other (hst.2.block rb (R9.out).rb.lt (by intro h; cases h; exact HSB.out rfl)) ((R9.out).bel.grown hst.2 (R9.out).bel.size (fun k hk => by cases hk; exact HSW.out)), by
              rw [HST.out]
              have := hst.1
              dsimp only at this ⊢
              rw [List.append_assoc]
              exact this⟩
            clear hst R9 O9
            go_wp2_with fail
            exact ⟨⟨i + 1, by omega, rfl, HN.out⟩, by simp [intOf]; omega⟩
          · obtain rfl : i = U := by omega
            have hD : decide ((i : Int) < i) = false := by simp
            have hD' : decide (i < i) = false := by simp
            have hcl := citer_len l p0 i
            have hnm := citer_names l p0 i
            have hin := sget_in (by omega) HRN.out rfl rfl HU.out
            dsimp only at hin
            have hrd := (HR.out).rd
            have ho := (HR.out).o
            rw [Nat.sub_self, List.replicate_zero, List.append_nil] at ho
            have hCC := fun h : sgetE l a0 = 0 => sgetC_ok HRN.out rfl h
            have hNN := fun h : sgetE l a0 = 0 => sgetN_ok HRN.out rfl h
            dsimp only at hCC hNN
            obtain ⟨S, hS⟩ : ∃ S, citer l p0 i = S := ⟨_, rfl⟩
            rw [hS] at hcl hnm hin hrd ho hCC hNN
            obtain ⟨p, e, cs⟩ := S
            dsimp only at hcl hnm hin hrd ho hCC hNN
            have HCC := Lib.hid hCC
            have HNN := Lib.hid hNN
            have hcr : CR wr (some ⟨sb, 0, none⟩) i i cs := by
              obtain ⟨A2, c2, hv, hcr⟩ := own_cr ho
              cases hv
              exact hcr
            have HCR := Lib.hid hcr
            have HNM : Hid (∀ (j : Nat) (q : List UInt8 × Int), cs[j]? = some q → q.1.length ≤ 60000) := Lib.hid (fun j q hq => by have := hnm j q hq; omega)
            obtain ⟨z, hz⟩ : ∃ z, chk cs = z := ⟨_, rfl⟩
            rw [hz] at hin
            have HIN := Lib.hid hin
            have HZ := Lib.hid hz
            have RD := Lib.hid hrd
            have OO := Lib.hid ho
            clear hcl hnm hin hrd ho hCC hNN hS hcr hz HR
            go_wp2_with fail
            refine (Try.check wr _ i i cs HCR.out HNM.out).mono ?_
            rintro x w10 ⟨rfl, hb10⟩
            rw [HZ.out]
            have R10 := Lib.hid ((RD.out).other (hb10.block rb (RD.out).rb.lt) ((RD.out).bel.trans (hb10.mono (RD.out).bel.size)))
            have O10 := Lib.hid (own_below OO.out hb10)
            clear hb10
            go_wp2_with fail
            refine (Try.rfail (R10.out).rb z).mono ?_
            rintro x w11 ⟨rfl, hR11⟩
            obtain ⟨E, hE⟩ : ∃ E, (if e = 0 then z else e) = E := ⟨_, rfl⟩
            rw [hE] at hR11 HIN
            have R11 := Lib.hid ((R10.out).next hR11 (R10.out).hp)
            have O11 := Lib.hid ((O10.out).kept hR11.2 (.inr (by intro h; cases h; exact HSB.out rfl)))
            clear hR11 hE R10 O10
            go_wp2_with fail
            refine (Try.rerr (R11.out).rb).mono ?_
            rintro x w12 ⟨rfl, hw12⟩
            rw [hw12]
            clear hw12 w12
            by_cases hE0 : E = 0
            · subst hE0
              go_wp2_with fail
              refine (Try.rread (R11.out).rb (by have := (R11.out).hp; omega) (by omega)).mono ?_
              rintro x w13 ⟨rfl, hh, hb13⟩
              have O13 := Lib.hid (own_below O11.out hb13)
              have B13 := Lib.hid ((R11.out).bel.trans (hb13.mono (R11.out).bel.size))
              clear hh hb13
              go_wp2_with fail
              go_ret3
              refine ⟨.slice (some ⟨sb, 0, none⟩) i i, i, ?_, ?_, hU8, B13.out⟩
              · rw [HNN.out HIN.out, HIN.out]
                rfl
              · rw [HCC.out HIN.out]
                have h := O13.out
                exact ⟨h.1, by
                  rcases h.2 with q | ⟨g, cap, cur, h1, h2, h3⟩
                  · exact .inl q
                  · exact .inr ⟨g, cap, cur, h1, by have := HBW.out; omega, h3⟩⟩
            · have k1 : (E == 0) = false := by simpa using hE0
              have k2 : decide (E = 0) = false := by simpa using hE0
              have HX := Lib.hid hE0
              have B11 := Lib.hid (R11.out).bel
              clear hE0
              go_wp2_with fail
              go_ret3
              exact gotS_no HIN.out HX.out B11.out
      · have HE := Lib.hid (sget_long (by omega) HRN.out rfl hu)
        by_cases hu1 : 1 ≤ u
        · have g1 : decide (1 ≤ u) = true := decide_eq_true hu1
          have g2 : decide (u ≤ 8) = false := decide_eq_false (by omega)
          clear hu hu1
          go_wp2_with fail
          refine (Try.rneed (I2.out).rb false 4 4 (by simp)).mono ?_
          rintro x w3 ⟨rfl, hR3⟩
          have I3 := Lib.hid ((I2.out).next hR3 (I2.out).hp)
          clear hR3 I2
          go_wp2_with fail
          refine (Try.rerr (I3.out).rb).mono ?_
          rintro x w4 ⟨rfl, hw4⟩
          rw [hw4]
          clear hw4 w4
          go_wp2_with fail
          go_ret3
          exact gotS_no HE.out (by decide) (I3.out).bel
        · have g1 : decide (1 ≤ u) = false := decide_eq_false hu1
          clear hu hu1
          go_wp2_with fail
          refine (Try.rneed (I2.out).rb false 4 4 (by simp)).mono ?_
          rintro x w3 ⟨rfl, hR3⟩
          have I3 := Lib.hid ((I2.out).next hR3 (I2.out).hp)
          clear hR3 I2
          go_wp2_with fail
          refine (Try.rerr (I3.out).rb).mono ?_
          rintro x w4 ⟨rfl, hw4⟩
          rw [hw4]
          clear hw4 w4
          go_wp2_with fail
          go_ret3
          exact gotS_no HE.out (by decide) (I3.out).bel
    · have HE := Lib.hid (sget_e (by omega) HRN.out he)
      have hu0 : u = 0 := by
        have := HRN.out
        unfold Proofs.rnum at this
        rw [if_pos rfl] at this
        split at this
        · exact absurd (congrArg (fun q => q.2.2) this).symm he
        · exact (congrArg (fun q => q.1) this).symm
      subst hu0
      have I2 := Lib.hid ((I1.out).next hR2 (by omega))
      have g1 : (e == 0) = false := by simpa using he
      have g2 : decide (e = 0) = false := by simpa using he
      have HX := Lib.hid he
      clear hR2 I1 he
      go_wp2_with fail
      refine (Try.need_no (I2.out).rb HX false 4).mono ?_
      rintro x w3 ⟨rfl, hR3⟩
      have I3 := Lib.hid ((I2.out).next hR3 (I2.out).hp)
      clear hR3 I2
      go_wp2_with fail
      refine (Try.rerr (I3.out).rb).mono ?_
      rintro x w4 ⟨rfl, hw4⟩
      rw [hw4]
      clear hw4 w4
      go_wp2_with fail
      go_ret3
      exact gotS_no HE.out HX.out (I3.out).bel
  · have HE := Lib.hid (sget_arg (l := l) (a := a) (by omega))
    go_enter Try.func34, Try.ntmps34
    go_wp2_with fail
    refine (Try.rnew w A n c a 1 hn (by rw [if_neg hin])).mono ?_
    rintro x w1 ⟨rb, rfl, hrb, hR1, hb1⟩
    have R1 := Lib.hid hR1
    have B1 := Lib.hid hb1
    have GB := Lib.hid hrb
    clear hrb hR1 hb1
    go_wp2_with fail
    refine (Try.rnum_no R1.out (Lib.hid (by decide))).mono ?_
    rintro x w2 ⟨rfl, hw2⟩
    rw [hw2]
    clear hw2 w2
    go_wp2_with fail
    refine (Try.need_no R1.out (Lib.hid (by decide)) false 4).mono ?_
    rintro x w3 ⟨rfl, hR3⟩
    have R3 := Lib.hid hR3.1
    have B3 := Lib.hid ((B1.out).grown hR3.2 (B1.out).size (fun k hk => by cases hk; exact GB.out))
    clear hR3 B1 R1
    go_wp2_with fail
    refine (Try.rerr R3.out).mono ?_
    rintro x w4 ⟨rfl, hw4⟩
    rw [hw4]
    clear hw4 w4
    go_wp2_with fail
    go_ret3
    exact gotS_no HE.out (by decide) B3.out
end Go.Proofs.Ytfblhcphbcghpaa
end

section
namespace Go.Proofs.Ytfblhcphbcghpaa
open Go.RowKit
set_option maxRecDepth 100000
theorem Try.info5 : (Try.prog.info? 5).map (fun i => (i.zero, i.size, i.bytes)) = some (some (.int .u8 0), 1, 1) := by kernel_rfl
def BY (w : World) (b : Nat) (l : List UInt8) (c : Nat) : Prop := ∃ pad : List Value, w.heap[b]? = some (.cells (l.map u8v ++ pad).toArray 5 (0, 0)) ∧ l.length + pad.length = c ∧ c ≤ maxLen
theorem BY.congr {w w' : World} {b : Nat} {l : List UInt8} {c : Nat} (h : BY w b l c) (e : w'.heap[b]? = w.heap[b]?) : BY w' b l c := by
  obtain ⟨pad, h1, h2⟩ := h
  exact ⟨pad, e.trans h1, h2⟩
theorem BY.lt {w : World} {b : Nat} {l : List UInt8} {c : Nat} (h : BY w b l c) : b < w.heap.size := by
  obtain ⟨pad, h1, h2⟩ := h
  exact (Array.getElem?_eq_some_iff.1 h1).1
theorem BY.cell {w : World} {b : Nat} {l : List UInt8} {c : Nat} (h : BY w b l c) (i : Nat) (hi : i < l.length) : w.cell? ⟨b, i, none⟩ = some (u8v l[i]) := by
  obtain ⟨pad, h1, h2⟩ := h
  rw [cell_of_row w b i _ 5 (0, 0) h1]
  simp [List.getElem?_append, hi]
theorem add_none (b o i : Nat) : (⟨b, o, none⟩ : Addr).add i = ⟨b, o + i, none⟩ := by unfold Addr.add; split <;> simp_all
theorem BY.win {w : World} {b : Nat} {l : List UInt8} {c : Nat} (h : BY w b l c) (o n : Nat) (hn : o + n ≤ l.length) : ∀ j u, (((l.drop o).take n).map u8v)[j]? = some u → w.cell? ((⟨b, o, none⟩ : Addr).add j) = some u := by
  intro j u hu
  rw [add_none]
  rw [List.getElem?_map, List.getElem?_take] at hu
  split at hu
  · rename_i hj
    rw [List.getElem?_drop] at hu
    have hlt : o + j < l.length := by omega
    rw [List.getElem?_eq_getElem hlt] at hu
    rw [h.cell (o + j) hlt]
    simpa using hu
  · simp at hu
theorem BY.all {w : World} {b : Nat} {l : List UInt8} {c : Nat} (h : BY w b l c) : ∀ j u, (l.map u8v)[j]? = some u → w.cell? ((⟨b, 0, none⟩ : Addr).add j) = some u := by
  have := h.win 0 l.length (by omega)
  simpa using this
theorem BY.own {w : World} {B : Nat} {v : Value} {n : Nat} {l : List UInt8} (h : w.ownsRow B 5 1 v n (l.map u8v)) (hv : v ≠ .slice none 0 0) : l.length = n ∧ ∃ b c, v = .slice (some ⟨b, 0, none⟩) n c ∧ B ≤ b ∧ n ≤ c ∧ BY w b l c := by
  obtain ⟨h1, h2⟩ := h
  have hl : l.length = n := by simpa using h1
  refine ⟨hl, ?_⟩
  clear h1
  rcases h2 with ⟨rfl, _⟩ | ⟨g, cap, cur, rfl, hb, hg, hn, hc, hs, ht⟩
  · exact absurd rfl hv
  · refine ⟨g, cap, rfl, hb, hn, cur.toList.drop n, ?_, ?_, hc⟩
    · rw [hg, ← ht]
      simp
    · rw [List.length_drop, Array.length_toList (xs := cur)]; simp only [Nat.mul_one] at hs; omega
theorem Try.blocks (d n m : Nat) (a : Option Addr) (hn : n ≤ 65536) (w : World) (hc : w.cell? ⟨d, 1, none⟩ = some (.slice a n m)) :
    Calls Try.prog 74 #[.pointer (some ⟨d, 0, none⟩)] w fun e w' => e = .returned (.int .i64 ((n / 64 : Nat) : Int)) ∧ w = w' := by
  go_enter Try.func74, Try.ntmps74
  go_wp2
  go_ret
  exact ⟨rfl, rfl⟩
theorem ret_bool {a b : Bool} (h : a = b) : Ending.returned (.bool a) = .returned (.bool b) := by rw [h]
theorem Try.has_yes (d n m : Nat) (a : Option Addr) (i : Int) (hn : n ≤ 65536) (h0 : 0 ≤ i) (hi : i < n / 64) (w : World) (hc : w.cell? ⟨d, 1, none⟩ = some (.slice a n m)) :
    Calls Try.prog 47 #[.pointer (some ⟨d, 0, none⟩), .int .i64 i] w fun e w' => e = .returned (.bool true) ∧ w = w' := by
  have h1 : decide (0 ≤ i) = true := by simpa using h0
  go_enter Try.func47, Try.ntmps47
  go_wp2_with (go_at_call 74; refine (Try.blocks _ _ _ _ hn _ hc).mono ?_; rintro e w' ⟨rfl, rfl⟩)
  go_ret
  exact ⟨ret_bool (by simpa using hi), rfl⟩
theorem ret_slice {a : Option Addr} {n n' m : Nat} (h : n = n') : Ending.returned (.slice a n m) = .returned (.slice a n' m) := by rw [h]
theorem Try.at (g o n m : Nat) (i : Nat) (hn : n ≤ 65536) (hi : i < n / 64) (hm : n ≤ m) (w : World) :
    Calls Try.prog 48 #[.slice (some ⟨g, o, none⟩) n m, .int .i64 i] w fun e w' => e = .returned (.slice (some ⟨g, o + i * 64, none⟩) 64 (m - i * 64)) ∧ w = w' := by
  go_enter Try.func48, Try.ntmps48
  go_wp2
  go_ret
  exact ⟨ret_slice (by omega), rfl⟩
def Cloned (w : World) (n : Nat) (l : List UInt8) (e : Ending) (w' : World) : Prop := ∃ b c, e = .returned (.slice (some ⟨b, 0, none⟩) n c) ∧ w.heap.size ≤ b ∧ n ≤ c ∧ BY w' b l c ∧ Below w.heap.size w w'
theorem cloned_of {w w' : World} {n : Nat} {l : List UInt8} {v : Value} (h : w'.ownsRow w.heap.size 5 1 v n (l.map u8v)) (hv : v ≠ .slice none 0 0) (hb : Below w.heap.size w w') : Cloned w n l (.returned v) w' := by
  obtain ⟨_, b, c, rfl, h2, h3, h4⟩ := BY.own h hv
  exact ⟨b, c, rfl, h2, h3, h4, hb⟩
theorem cells_alloc {w : World} {A : Addr} {xs : List Value} (o : Obj) (h : ∀ j u, xs[j]? = some u → w.cell? (A.add j) = some u) : ∀ j u, xs[j]? = some u → (w.alloc o).cell? (A.add j) = some u := by
  intro j u hu
  have h1 := h j u hu
  have h2 := block_lt_of_cell h1
  exact (World.cell?_of_block (w := w) (Below.heap_alloc w o _ h2)).trans h1
theorem Try.clone (A : Addr) (n m : Nat) (w : World) (hn : n ≤ 65536) (l : List UInt8) (hl : l.length = n) (hc : ∀ j u, (l.map u8v)[j]? = some u → w.cell? (A.add j) = some u) :
    Calls Try.prog 49 #[.slice (some A) n m] w (Cloned w n l) := by
  obtain ⟨i0, hi, hz0, hz1, hz2⟩ := info_parts Try.info5
  have hnil := Lib.run_eql_slice_nil w 50 5 (some A) n m 0 0 Try.underlying50
  have hown := World.ownsRow_made (base := w.heap.size) (e := 5) (size := 1) w #[] 0 (Nat.le_refl _) (Nat.zero_le _) rfl
  have hc' := cells_alloc (.cells #[] 5) hc
  have HL := Lib.hid hl
  have h63 : 0 + n ≤ maxLen := by unfold maxLen; omega
  clear hl hc
  go_enter Try.func49, Try.ntmps49
  go_wp2_with (at_builtin; refine wpList_append_own _ rfl (.tmp 5) (.tmp 6) 50 rfl w.heap.size 5 i0 (.int .u8 0) 1 1 Try.underlying50 hi hz0 hz1 hz2 rfl (by decide) _ _ _ rfl hown A n m (l.map u8v) rfl ?c1 hc' (u8v_one l) h63 ?c2 ?c3 ?c4)
  case c1 => simp [HL.out]
  case c2 => omega
  case c3 => simp
  case c4 =>
    intro v w1 hown1 hg hne
    have hv : v ≠ .slice none 0 0 := by simpa using hne
    have hb : Below w.heap.size w w1 := ((Below.refl _ w).alloc (Nat.le_refl _) _).grown hg (by simp) (fun k hk => by simp [Value.ownBlock] at hk; omega)
    try simp only [Nat.zero_add, List.nil_append] at hown1
    have H := Lib.hid (cloned_of hown1 hv hb)
    clear hown1 hg hne hb hown hc' hnil
    go_wp2
    go_ret
    exact H.out
end Go.Proofs.Ytfblhcphbcghpaa
end
