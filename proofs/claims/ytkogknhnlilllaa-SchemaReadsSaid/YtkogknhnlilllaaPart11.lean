/-
  Texts of a proof over the translated program: proved evaluators and walks, part 11 of 11.
-/
import Derived.Test.YtkogknhnlilllaaPart10
import Derived.Below
import Derived.Deep.Cut
import Derived.Deep.RegionHeld3
import Derived.Deep.RegionWith
import Derived.Handy
import Derived.IntWalk
import Derived.Laws.BytesArg
import Derived.Laws.BytesString
import Derived.Laws.Closers25b
import Derived.Laws.MakeOwn
import Derived.Laws.StructEq
import Derived.Lib.Hide
import Derived.Lib.SlBytesRow
import Derived.LoopTactic
import Derived.Outline
import Derived.OwnWalk
import Derived.Scope
import Derived.ScopeJumps
import Derived.Test.YtkogknhnlilllaaProg
import Derived.WalkKit
import Derived.WalkMore
import Derived.WalkSpells
import Derived.Great.BuildSlice
import Derived.Laws.CopyRow
import Derived.Laws.IdiomStrings
import Derived.MapKept
import Derived.Orders
set_option linter.unusedVariables false
set_option linter.unusedSimpArgs false
set_option linter.unusedSectionVars false
set_option linter.unnecessarySimpa false
section
namespace Go.Proofs
open Go.RowKit
set_option maxRecDepth 100000
set_option maxHeartbeats 4000000 in
theorem Try.same (w : World) (A B : Option Addr) (n c d : Nat) (cs : List (List UInt8 × Int)) (hC : CR w A n c cs) (hE : CR w B n d cs) (hn : n ≤ 8) :
    Calls Try.prog 7 #[.slice A n c, .slice B n d] w fun x w' => x = .returned (.bool true) ∧ Below w.heap.size w w' := by
  have HC := Lib.hid hC
  have HE := Lib.hid hE
  have hlc := hC.le
  have hld := hE.le
  clear hC hE
  go_enter Try.func7, Try.ntmps7
  go_wp2_with fail
  go_loopw [5] (fun t wr => ∃ i : Nat, i ≤ n ∧ t = .int .i64 i ∧ Below w.heap.size w wr) (fun t _ => n - (intOf t).toNat)
  case atStart => exact ⟨0, Nat.zero_le _, rfl, Below.refl _ _⟩
  case round =>
    obtain ⟨i, hi, rfl, hb⟩ := hrel
    have HB := Lib.hid hb
    clear hb
    by_cases hlt : i < n
    · have hD : decide ((i : Int) < n) = true := decide_eq_true (by omega)
      have hD' : decide (i < n) = true := decide_eq_true hlt
      obtain ⟨q, hq⟩ : ∃ q, cs[i]? = some q := ⟨_, List.getElem?_eq_getElem (by rw [HC.out.len]; exact hlt)⟩
      obtain ⟨X, hX, c0, c1⟩ := ((HC.out).below HB.out).at' _ _ hq
      obtain ⟨Y, hY, e0, e1⟩ := ((HE.out).below HB.out).at' _ _ hq
      subst hX
      subst hY
      obtain ⟨nm, kd⟩ := q
      dsimp only at c0 c1 e0 e1
      clear hq
      go_upto_region 6 with fail
      refine wp_region_noPanic ?_
      refine wp_region_held_drew (S := (fun W => W.cell? ⟨X, i * 2, none⟩ = some (.string (strOf nm)) ∧ W.cell? ⟨X, i * 2 + 1, none⟩ = some (.int .i64 kd) ∧ W.cell? ⟨Y, i * 2, none⟩ = some (.string (strOf nm)) ∧ W.cell? ⟨Y, i * 2 + 1, none⟩ = some (.int .i64 kd))) (by kernel_rfl) ?_ (fun hHeld => ?_)
      · exact ⟨c0, c1, e0, e1⟩
      refine wpAnyH_take (i := 0) (oi := { dst := some 17, op := Op.move (Operand.tmp 0), type := 29, pos := "ref.go:1289", after := #[], guard := none }) (v := ?_) rfl (by kernel_rfl) (by kernel_rfl) (by kernel_rfl) (fun _ _ _ h => h) (Or.inl ⟨by rfl, ?_⟩) (by assumption) ?_
      rotate_left
      · (intro w hSw; (try dsimp only at hSw); go_simp; try with_reducible rfl)
      try simp only [Act.put, List.setIfInBounds_toArray, List.set_cons_zero, List.set_cons_succ]
      refine wpAnyH_take (i := 1) (oi := { dst := some 18, op := Op.move (Operand.tmp 5), type := 3, pos := "ref.go:1289", after := #[], guard := none }) (v := ?_) rfl (by kernel_rfl) (by kernel_rfl) (by kernel_rfl) (fun _ _ _ h => h) (Or.inl ⟨by rfl, ?_⟩) (by assumption) ?_
      rotate_left
      · (intro w hSw; (try dsimp only at hSw); go_simp; try with_reducible rfl)
      try simp only [Act.put, List.setIfInBounds_toArray, List.set_cons_zero, List.set_cons_succ]
      refine wpAnyH_take (i := 2) (oi := { dst := some 19, op := Op.indexAddr 29 (Operand.tmp 17) (Operand.tmp 18), type := 0, pos := "ref.go:1289", after := #[{ on := 0, ground := Ground.data }, { on := 1, ground := Ground.data }], guard := none }) (v := ?_) rfl (by kernel_rfl) (by kernel_rfl) (by kernel_rfl) (fun _ _ _ h => h) (Or.inl ⟨by rfl, ?_⟩) (by assumption) ?_
      rotate_left
      · (intro w hSw; (try dsimp only at hSw); go_simp; try with_reducible rfl)
      try simp only [Act.put, List.setIfInBounds_toArray, List.set_cons_zero, List.set_cons_succ]
      refine wpAnyH_take (i := 3) (oi := { dst := some 20, op := Op.load 69 (Operand.tmp 19), type := 69, pos := "ref.go:1289", after := #[{ on := 2, ground := Ground.data }], guard := none }) (v := ?_) rfl (by kernel_rfl) (by kernel_rfl) (by kernel_rfl) (fun _ _ _ h => h) (Or.inl ⟨by rfl, ?_⟩) (by assumption) ?_
      rotate_left
      · (intro w hSw; (try dsimp only at hSw); go_simp; try with_reducible rfl)
      try simp only [Act.put, List.setIfInBounds_toArray, List.set_cons_zero, List.set_cons_succ]
      refine wpAnyH_take (i := 4) (oi := { dst := some 21, op := Op.move (Operand.tmp 1), type := 29, pos := "ref.go:1289", after := #[], guard := none }) (v := ?_) rfl (by kernel_rfl) (by kernel_rfl) (by kernel_rfl) (fun _ _ _ h => h) (Or.inl ⟨by rfl, ?_⟩) (by assumption) ?_
      rotate_left
      · (intro w hSw; (try dsimp only at hSw); go_simp; try with_reducible rfl)
      try simp only [Act.put, List.setIfInBounds_toArray, List.set_cons_zero, List.set_cons_succ]
      refine wpAnyH_take (i := 5) (oi := { dst := some 22, op := Op.move (Operand.tmp 5), type := 3, pos := "ref.go:1289", after := #[], guard := none }) (v := ?_) rfl (by kernel_rfl) (by kernel_rfl) (by kernel_rfl) (fun _ _ _ h => h) (Or.inl ⟨by rfl, ?_⟩) (by assumption) ?_
      rotate_left
      · (intro w hSw; (try dsimp only at hSw); go_simp; try with_reducible rfl)
      try simp only [Act.put, List.setIfInBounds_toArray, List.set_cons_zero, List.set_cons_succ]
      refine wpAnyH_take (i := 6) (oi := { dst := some 23, op := Op.indexAddr 29 (Operand.tmp 21) (Operand.tmp 22), type := 0, pos := "ref.go:1289", after := #[{ on := 4, ground := Ground.data }, { on := 5, ground := Ground.data }], guard := none }) (v := ?_) rfl (by kernel_rfl) (by kernel_rfl) (by kernel_rfl) (fun _ _ _ h => h) (Or.inl ⟨by rfl, ?_⟩) (by assumption) ?_
      rotate_left
      · (intro w hSw; (try dsimp only at hSw); go_simp; try with_reducible rfl)
      try simp only [Act.put, List.setIfInBounds_toArray, List.set_cons_zero, List.set_cons_succ]
      refine wpAnyH_take (i := 7) (oi := { dst := some 24, op := Op.load 69 (Operand.tmp 23), type := 69, pos := "ref.go:1289", after := #[{ on := 6, ground := Ground.data }], guard := none }) (v := ?_) rfl (by kernel_rfl) (by kernel_rfl) (by kernel_rfl) (fun _ _ _ h => h) (Or.inl ⟨by rfl, ?_⟩) (by assumption) ?_
      rotate_left
      · (intro w hSw; (try dsimp only at hSw); go_simp; try with_reducible rfl)
      try simp only [Act.put, List.setIfInBounds_toArray, List.set_cons_zero, List.set_cons_succ]
      refine wpAnyH_take (i := 8) (oi := { dst := some 25, op := Op.binOp BinOp.neq 69 (Operand.tmp 20) (Operand.tmp 24) 69, type := 4, pos := "ref.go:1289", after := #[{ on := 3, ground := Ground.data }, { on := 7, ground := Ground.data }], guard := none }) (v := ?_) rfl (by kernel_rfl) (by kernel_rfl) (by kernel_rfl) (fun _ _ _ h => h) (Or.inl ⟨by rfl, ?_⟩) (by assumption) ?_
      rotate_left
      · (intro w hSw; (try dsimp only at hSw); go_simp; try with_reducible rfl)
      try simp only [Act.put, List.setIfInBounds_toArray, List.set_cons_zero, List.set_cons_succ]
      refine wpAnyH_done (by kernel_rfl) ?_ _
      refine NoPanic.normal ?_
      go_wp2_with fail
      exact ⟨⟨i + 1, by omega, rfl, (HB.out).drew⟩, by simp [intOf]; omega⟩
    · obtain rfl : i = n := by omega
      have hD : decide ((i : Int) < i) = false := by simp
      have hD' : decide (i < i) = false := by simp
      go_wp2_with fail
      go_ret
      exact ⟨rfl, HB.out⟩
end Go.Proofs
end

section
namespace Go.Proofs
open Go.RowKit
set_option maxRecDepth 100000
theorem rtext_le (l : List UInt8) (p : Nat) (e u : Int) : (rtext l p e u).1.length ≤ l.length := by
  unfold rtext
  split
  · split
    · simp only [List.length_take, List.length_drop]; omega
    · simp
  · simp
theorem citer_names (l : List UInt8) (p : Nat) : ∀ (i j : Nat) (q : List UInt8 × Int), (citer l p i).cs[j]? = some q → q.1.length ≤ l.length
  | 0, j, q, h => by simp [citer] at h
  | i + 1, j, q, h => by
    have e : (citer l p (i + 1)).cs = (citer l p i).cs ++ [((rtext l (rnum l (citer l p i).p (citer l p i).e).2.1 (rnum l (citer l p i).p (citer l p i).e).2.2 (rnum l (citer l p i).p (citer l p i).e).1).1, (rbyte l (rtext l (rnum l (citer l p i).p (citer l p i).e).2.1 (rnum l (citer l p i).p (citer l p i).e).2.2 (rnum l (citer l p i).p (citer l p i).e).1).2.1 (rtext l (rnum l (citer l p i).p (citer l p i).e).2.1 (rnum l (citer l p i).p (citer l p i).e).2.2 (rnum l (citer l p i).p (citer l p i).e).1).2.2).1)] := rfl
    rw [e] at h
    rw [List.getElem?_append] at h
    split at h
    · exact citer_names l p i j q h
    · have : j - (citer l p i).cs.length = 0 := by
        have := (List.getElem?_eq_some_iff.1 h).1
        simp at this; omega
      rw [this] at h
      simp at h
      subst h
      exact rtext_le _ _ _ _
theorem sget_arg {l : List UInt8} {a : Int} (h : ¬ (0 ≤ a ∧ a ≤ l.length)) : sgetE l a = 1 := by unfold sgetE; rw [if_neg h]
theorem sget_e {l : List UInt8} {a : Nat} (h : a ≤ l.length) {r : Int × Nat × Int} (hr : rnum l a 0 = r) (he : r.2.2 ≠ 0) : sgetE l a = r.2.2 := by
  unfold sgetE
  rw [if_pos ⟨by omega, by omega⟩, Int.toNat_natCast, hr, if_neg he]
theorem sget_long {l : List UInt8} {a : Nat} (h : a ≤ l.length) {r : Int × Nat × Int} (hr : rnum l a 0 = r) (he : r.2.2 = 0) (hu : ¬ (1 ≤ r.1 ∧ r.1 ≤ 8)) : sgetE l a = 4 := by
  unfold sgetE
  rw [if_pos ⟨by omega, by omega⟩, Int.toNat_natCast, hr, if_pos he, if_neg hu]
theorem sget_in {l : List UInt8} {a U : Nat} (h : a ≤ l.length) {r : Int × Nat × Int} (hr : rnum l a 0 = r) (he : r.2.2 = 0) (hU : r.1 = U) (hu : 1 ≤ U ∧ U ≤ 8) : sgetE l a = if (citer l r.2.1 U).e = 0 then chk (citer l r.2.1 U).cs else (citer l r.2.1 U).e := by
  unfold sgetE
  rw [if_pos ⟨by omega, by omega⟩, Int.toNat_natCast, hr, if_pos he, hU, if_pos (by omega), Int.toNat_natCast]
theorem sget_bad {l : List UInt8} {a U i : Nat} (h : a ≤ l.length) {r : Int × Nat × Int} (hr : rnum l a 0 = r) (he : r.2.2 = 0) (hU : r.1 = U) (hu : 1 ≤ U ∧ U ≤ 8) (hi : i ≤ U) (hb : (citer l r.2.1 i).e ≠ 0) : sgetE l a = (citer l r.2.1 i).e := by
  have := citer_bad l r.2.1 i hb (U - i)
  rw [show i + (U - i) = U by omega] at this
  rw [sget_in h hr he hU hu, if_neg (by rw [this]; exact hb), this]
theorem sget_end {l : List UInt8} {a U : Nat} (h : a ≤ l.length) {r : Int × Nat × Int} (hr : rnum l a 0 = r) (he : r.2.2 = 0) (hU : r.1 = U) (hu : 1 ≤ U ∧ U ≤ 8) (hb : (citer l r.2.1 U).e = 0) : sgetE l a = chk (citer l r.2.1 U).cs := by
  rw [sget_in h hr he hU hu, if_pos hb]
theorem sgetC_no {l : List UInt8} {a : Int} (h : sgetE l a ≠ 0) : sgetC l a = [] := by unfold sgetC; rw [if_neg h]
theorem sgetN_no {l : List UInt8} {a : Int} (h : sgetE l a ≠ 0) : sgetN l a = 0 := by unfold sgetN; rw [if_neg h]
theorem sgetC_ok {l : List UInt8} {a U : Nat} {r : Int × Nat × Int} (hr : rnum l a 0 = r) (hU : r.1 = U) (h : sgetE l a = 0) : sgetC l a = (citer l r.2.1 U).cs := by
  unfold sgetC; rw [if_pos h, Int.toNat_natCast, hr, hU, Int.toNat_natCast]
theorem sgetN_ok {l : List UInt8} {a U : Nat} {r : Int × Nat × Int} (hr : rnum l a 0 = r) (hU : r.1 = U) (h : sgetE l a = 0) : sgetN l a = ((citer l r.2.1 U).p : Int) - a := by
  unfold sgetN; rw [if_pos h, Int.toNat_natCast, hr, hU, Int.toNat_natCast]
def GotS (e : TypeId) (w : World) (l : List UInt8) (a : Int) (x : Ending) (w' : World) : Prop :=
  ∃ v m, x = .returned (.tuple #[v, .int .i64 (sgetN l a), .int .i64 (sgetE l a)]) ∧ w'.ownsRow w.heap.size e 2 v m (flat (sgetC l a)) ∧ m ≤ 8 ∧ Below w.heap.size w w'
theorem gotS_no {e : TypeId} {w w' : World} {l : List UInt8} {a x : Int} (h : sgetE l a = x) (hx : x ≠ 0) (hb : Below w.heap.size w w') : GotS e w l a (.returned (.tuple #[.slice none 0 0, .int .i64 0, .int .i64 x])) w' := by
  refine ⟨.slice none 0 0, 0, ?_, ?_, by omega, hb⟩
  · rw [sgetN_no (by rw [h]; exact hx), h]
  · rw [sgetC_no (by rw [h]; exact hx)]
    exact World.ownsRow_nil _ _ _ _
end Go.Proofs
end

section
namespace Go.Proofs
open Go.RowKit
set_option maxRecDepth 100000
theorem rnum_ok {l : List UInt8} {a k : Nat} {u : Int} (h : getN l a = (u, k, 0)) : rnum l a 0 = (u, a + k, 0) := by
  unfold rnum; rw [h]; simp
theorem rnum_er {l : List UInt8} {a k : Nat} {u e : Int} (h : getN l a = (u, k, e)) (he : e ≠ 0) : rnum l a 0 = (0, a, e) := by
  unfold rnum; rw [h]; simp [he]
structure GR (w : World) (l : List UInt8) (a p0 i k : Nat) (v : Value) (wr : World) : Prop where
  e : (citer l p0 i).e = 0
  p : (citer l p0 i).p = a + k
  o : wr.ownsRow w.heap.size 69 2 v i (flat (citer l p0 i).cs)
  b : Below w.heap.size w wr
theorem two_one (s : ByteArray) (k : Int) : ∀ u ∈ ([Value.string s, .int .i64 k] : List Value), u.oneCell' = true := by
  intro u hu
  simp at hu
  rcases hu with rfl | rfl <;> rfl
theorem gword_in {l : List UInt8} {p : Nat} (hp : p ≤ l.length) {W : List UInt8} {wn : Nat} (h : gword l p = (W, wn, 0)) : p + wn ≤ l.length := by
  have hk := getN_ok l p
  unfold gword at h
  by_cases h1 : (getN l p).2.2 = 0
  · have h3 := hk.ok h1
    rw [if_pos h1] at h
    by_cases h2 : (getN l p).1 ≤ (l.length : Int) - (p + (getN l p).2.1 : Nat)
    · rw [if_pos h2] at h
      have := congrArg (fun q => q.2.1) h
      simp only at this
      omega
    · rw [if_neg h2] at h
      have := congrArg (fun q => q.2.2) h
      simp at this
  · rw [if_neg h1] at h
    have := congrArg (fun q => q.2.2) h
    simp only at this
    exact absurd this h1
theorem GR.bad {w wr : World} {l : List UInt8} {a p0 i k : Nat} {v : Value} (h : GR w l a p0 i k v wr) {W : List UInt8} {wn : Nat} {f : Int} (hg : gword l (a + k) = (W, wn, f)) (hf : f ≠ 0) : (citer l p0 (i + 1)).e = f := by
  have e : citer l p0 (i + 1) = cstep l (citer l p0 i) := rfl
  have := cstep_word l (citer l p0 i) h.e (by rw [h.p, hg]; exact hf)
  rw [e, this, h.p, hg]
theorem GR.word {w wr : World} {l : List UInt8} {a p0 i k : Nat} {v : Value} (h : GR w l a p0 i k v wr) {W : List UInt8} {wn : Nat} (hg : gword l (a + k) = (W, wn, 0)) :
    citer l p0 (i + 1) = ⟨(rbyte l (a + k + wn) 0).2.1, (rbyte l (a + k + wn) 0).2.2, (citer l p0 i).cs ++ [(W, (rbyte l (a + k + wn) 0).1)]⟩ := by
  have e : citer l p0 (i + 1) = cstep l (citer l p0 i) := rfl
  have := cstep_word0 l (citer l p0 i) h.e (by rw [h.p, hg])
  rw [e, this, h.p, hg]
theorem rbyte_none {l : List UInt8} {p : Nat} (h : l[p]? = none) : rbyte l p 0 = (0, p, 5) := by unfold rbyte; rw [if_pos rfl, h]
theorem rbyte_some {l : List UInt8} {p : Nat} {x : UInt8} (h : l[p]? = some x) : rbyte l p 0 = ((x.toNat : Int), p + 1, 0) := by unfold rbyte; rw [if_pos rfl, h]
set_option maxHeartbeats 8000000 in
theorem Try.getR (w : World) {A : Option Addr} {n c : Nat} {l : List UInt8} (hD : DI w A n c l) (hn : n ≤ 400) (a : Int) (ha : -9223372036854775808 ≤ a ∧ a ≤ 9223372036854775807) :
    Calls Try.prog 6 #[.slice A n c, .int .i64 a] w (GotS 69 w l a) := by
  have HD := Lib.hid hD
  have hln := hD.len
  have hlc := hD.le
  clear hD
  by_cases hin : 0 ≤ a ∧ a ≤ n
  · obtain ⟨a0, rfl⟩ : ∃ a0 : Nat, a = (a0 : Int) := ⟨a.toNat, by omega⟩
    have ha0 : a0 ≤ n := by omega
    have hok := getN_ok l a0
    obtain ⟨g, hg⟩ : ∃ g, getN l a0 = g := ⟨_, rfl⟩
    rw [hg] at hok
    obtain ⟨u, k0, e⟩ := g
    have HG := Lib.hid hg
    clear hin hg ha
    go_enter Try.func6, Try.ntmps6
    go_wp2_with fail
    refine (Try.rget w HD.out hn a0 ha0).mono ?_
    rintro x w1 ⟨rfl, hw1⟩
    rw [hw1, HG.out]
    clear hw1 w1
    dsimp only
    by_cases he : e = 0
    · subst he
      have hin := hok.ok rfl
      dsimp only at hin
      have HRN := Lib.hid (rnum_ok HG.out)
      clear hok
      by_cases hu : 1 ≤ u ∧ u ≤ 8
      · obtain ⟨U, rfl⟩ : ∃ U : Nat, u = (U : Int) := ⟨u.toNat, by omega⟩
        have HU : Hid (1 ≤ U ∧ U ≤ 8) := Lib.hid (by omega)
        have hU8 : U ≤ 8 := by omega
        have g1 : decide ((U : Int) < 1) = false := decide_eq_false (by omega)
        have g1' : decide (U < 1) = false := decide_eq_false (by omega)
        have g2 : decide ((8 : Int) < U) = false := decide_eq_false (by omega)
        have g2' : decide (8 < U) = false := decide_eq_false (by omega)
        have s7 : IntKind.i64.wrap (U : Int) = (U : Int) := wrapi (by omega) (by omega)
        have hak : a0 + k0 ≤ n := by omega
        obtain ⟨p0, hp0⟩ : ∃ p0, a0 + k0 = p0 := ⟨_, rfl⟩
        rw [hp0] at HRN
        have H0 : Hid (GR w l a0 p0 0 k0 (.slice none 0 0) w) := Lib.hid ⟨rfl, hp0.symm, World.ownsRow_nil _ _ _ _, Below.refl _ _⟩
        have HP0 := Lib.hid hp0
        clear hu hin hp0
        go_wp2_with fail
        go_loopw [8, 10, 11, 12, 13, 14] (fun t8 v t x12 x13 x14 wr => ∃ i k : Nat, i ≤ U ∧ t = .int .i64 i ∧ t8 = .int .i64 k ∧ GR w l a0 p0 i k v wr) (fun _ _ t _ _ _ _ => U - (intOf t).toNat)
        case atStart => exact ⟨0, k0, Nat.zero_le _, rfl, rfl, H0.out⟩
        case round =>
          obtain ⟨i, k, hi, rfl, rfl, hr⟩ := hrel
          have HR := Lib.hid hr
          clear hr H0
          by_cases hlt : i < U
          · have hD : decide ((i : Int) < U) = true := decide_eq_true (by omega)
            have hD' : decide (i < U) = true := decide_eq_true hlt
            have hpn : a0 + k ≤ n := by
              have := citer_p l p0 (by have := HP0.out; omega) i
              rw [(HR.out).p] at this; omega
            obtain ⟨P, hP⟩ : ∃ P, a0 + k = P := ⟨_, rfl⟩
            have hq0 : (a0 : Int) + k = (P : Int) := by omega
            have hPn : P ≤ n := by omega
            have HPk := Lib.hid hP
            obtain ⟨G, hG⟩ : ∃ G, gword l P = G := ⟨_, rfl⟩
            obtain ⟨W, wn, f⟩ := G
            have HGW := Lib.hid hG
            clear hpn hP hG
            go_wp2_with fail
            refine (Try.getWord wr ((HD.out).below (HR.out).b) hn P hPn).mono ?_
            rintro x w1 ⟨rfl, hw1⟩
            rw [hw1, HGW.out]
            clear hw1 w1
            dsimp only
            have HGW2 : Hid (gword l (a0 + k) = (W, wn, f)) := Lib.hid (by rw [HPk.out]; exact HGW.out)
            by_cases hf : f = 0
            · subst hf
              have hP2 : P + wn ≤ n := by rw [← hln]; exact gword_in (by omega) HGW.out
              obtain ⟨P2, hP2e⟩ : ∃ P2, P + wn = P2 := ⟨_, rfl⟩
              obtain ⟨k2, hk2⟩ : ∃ k2, k + wn = k2 := ⟨_, rfl⟩
              have q1 : (k : Int) + wn = (k2 : Int) := by omega
              have q2 : (a0 : Int) + k2 = (P2 : Int) := by have := HPk.out; omega
              have hk400 : k2 ≤ 400 := by have := HPk.out; omega
              have HW := Lib.hid ((HR.out).word HGW2.out)
              have HP2 : Hid (a0 + k + wn = P2) := Lib.hid (by rw [HPk.out]; exact hP2e)
              have HK2 := Lib.hid hk2
              clear hk2 hP2e HGW HGW2
              by_cases hend : P2 = n
              · have e1 : decide ((P2 : Int) = n) = true := decide_eq_true (by omega)
                have e1' : ((P2 : Int) == n) = true := by simpa using e1
                have HE : Hid (sgetE l a0 = 5) := Lib.hid (by
                  have hw := HW.out
                  rw [HP2.out, rbyte_none (List.getElem?_eq_none (by omega))] at hw
                  have := sget_bad (i := i + 1) (by omega) HRN.out rfl rfl HU.out (by omega) (by rw [hw]; show (5 : Int) ≠ 0; decide)
                  rw [this, hw])
                have HB := Lib.hid (HR.out).b
                clear hend
                go_wp2_with fail
                go_ret3
                exact gotS_no HE.out (by decide) HB.out
              · have e1 : decide ((P2 : Int) = n) = false := decide_eq_false (by omega)
                have e1' : ((P2 : Int) == n) = false := by simpa using e1
                obtain ⟨x, hx⟩ : ∃ x, l[P2]? = some x := ⟨_, List.getElem?_eq_getElem (by omega)⟩
                obtain ⟨X, hX, hcell⟩ := ((HD.out).below (HR.out).b).at' _ _ hx
                subst hX
                unfold u8v at hcell
                have HW2 : Hid (citer l p0 (i + 1) = ⟨P2 + 1, 0, (citer l p0 i).cs ++ [(W, (x.toNat : Int))]⟩) := Lib.hid (by
                  have hw := HW.out
                  rw [HP2.out, rbyte_some hx] at hw
                  exact hw)
                obtain ⟨y, hy⟩ : ∃ y, x.toNat = y := ⟨_, rfl⟩
                have hy2 : y < 256 := by rw [← hy]; exact x.toNat_lt
                rw [hy] at hcell HW2
                have OB := Lib.hid ((HR.out).o.alloc (.cells #[.string (strOf W), .int .i64 y] 69))
                have CB := Lib.hid (built_own wr 69 (W, (y : Int)) 0 (Nat.zero_le _))
                have BB := Lib.hid ((HR.out).b.alloc (HR.out).b.size (.cells #[.string (strOf W), .int .i64 y] 69))
                obtain ⟨ii, hi0, hz0, hz1, hz2⟩ := infoC 69 (by kernel_rfl)
                have hP2n : P2 < n := by omega
                clear hend hx hy HW
                go_wp2_with (at_builtin; refine wpList_append_own _ rfl (.tmp 58) (.tmp 68) 29 rfl w.heap.size 69 ii (.agg #[.string ⟨#[]⟩, .int .i64 0]) 2 24 Try.underlying29 hi0 hz0 hz1 hz2 rfl (by decide) _ _ _ rfl (OB.out) _ _ _ ([Value.string (strOf W), .int .i64 y]) rfl rfl (CB.out) (two_one _ _) ?a1 ?a2 ?a3 ?a4)
                case a1 => unfold maxLen; omega
                case a2 => omega
                case a3 => have := (BB.out).size; simp at this; omega
                case a4 =>
                  intro v' w5 hown1 hg5 hne
                  have B5 := Lib.hid ((BB.out).grown hg5 (BB.out).size (fun k hk => ((OB.out).lt k hk).1))
                  have HN : Hid (GR w l a0 p0 (i + 1) (k2 + 1) v' w5) := Lib.hid ⟨by rw [HW2.out], by rw [HW2.out]; show P2 + 1 = a0 + (k2 + 1); omega, by rw [HW2.out, flat_snoc]; exact hown1, B5.out⟩
                  clear hown1 hg5 hne
                  go_wp2_with fail
                  exact ⟨⟨i + 1, k2 + 1, by omega, rfl, rfl, HN.out⟩, by simp [intOf]; omega⟩
            · have g1 : (f == 0) = false := by simpa using hf
              have g2 : decide (f = 0) = false := by simpa using hf
              have HE : Hid (sgetE l a0 = f) := Lib.hid (by
                have hb := (HR.out).bad HGW2.out hf
                have := sget_bad (i := i + 1) (by omega) HRN.out rfl rfl HU.out (by omega) (by rw [hb]; exact hf)
                rw [this, hb])
              have HX := Lib.hid hf
              have HB := Lib.hid (HR.out).b
              clear hf
              go_wp2_with fail
              go_ret3
              exact gotS_no HE.out HX.out HB.out
          · obtain rfl : i = U := by omega
            have hD : decide ((i : Int) < i) = false := by simp
            have hD' : decide (i < i) = false := by simp
            obtain ⟨A2, c2, hv, hcr⟩ := own_cr (HR.out).o
            subst hv
            have HCR := Lib.hid hcr
            have HNM : Hid (∀ (j : Nat) (q : List UInt8 × Int), (citer l p0 i).cs[j]? = some q → q.1.length ≤ 400) := Lib.hid (fun j q hq => by have := citer_names l p0 i j q hq; omega)
            have HEN := Lib.hid (sget_end (by omega) HRN.out rfl rfl HU.out (HR.out).e)
            obtain ⟨z, hz⟩ : ∃ z, chk (citer l p0 i).cs = z := ⟨_, rfl⟩
            dsimp only at HEN
            rw [hz] at HEN
            have HZ := Lib.hid hz
            clear hcr hz
            go_wp2_with fail
            refine (Try.checkR wr A2 i c2 _ HCR.out HNM.out).mono ?_
            rintro x w4 ⟨rfl, hb4⟩
            rw [HZ.out]
            have B4 := Lib.hid ((HR.out).b.trans (hb4.mono (HR.out).b.size))
            have O4 := Lib.hid (own_below (HR.out).o hb4)
            clear hb4
            by_cases hz0 : z = 0
            · subst hz0
              have HPP := Lib.hid (HR.out).p
              have HC := Lib.hid (sgetC_ok HRN.out rfl HEN.out)
              have HNN := Lib.hid (sgetN_ok HRN.out rfl HEN.out)
              go_wp2_with fail
              go_ret3
              refine ⟨_, i, ?_, by rw [HC.out]; exact O4.out, hU8, B4.out⟩
              rw [HNN.out, HEN.out]
              dsimp only
              rw [HPP.out]
              have : ((a0 + k : Nat) : Int) - a0 = (k : Int) := by omega
              rw [this]
              rfl
            · have g1 : (z == 0) = false := by simpa using hz0
              have g2 : decide (z = 0) = false := by simpa using hz0
              have HX := Lib.hid hz0
              clear hz0
              go_wp2_with fail
              go_ret3
              exact gotS_no HEN.out HX.out B4.out
      · have HE := Lib.hid (sget_long (by omega) HRN.out rfl hu)
        by_cases hu1 : u < 1
        · have g1 : decide (u < 1) = true := decide_eq_true hu1
          clear hu hu1
          go_wp2_with fail
          go_ret3
          exact gotS_no HE.out (by decide) (Below.refl _ _)
        · have g1 : decide (u < 1) = false := decide_eq_false hu1
          have g2 : decide (8 < u) = true := decide_eq_true (by omega)
          clear hu hu1
          go_wp2_with fail
          go_ret3
          exact gotS_no HE.out (by decide) (Below.refl _ _)
    · have g1 : (e == 0) = false := by simpa using he
      have g2 : decide (e = 0) = false := by simpa using he
      have HE := Lib.hid (sget_e (by omega) (rnum_er HG.out he) he)
      have HX := Lib.hid he
      clear hok he
      go_wp2_with fail
      go_ret3
      exact gotS_no HE.out HX.out (Below.refl _ _)
  · have HE := Lib.hid (sget_arg (l := l) (a := a) (by omega))
    go_enter Try.func6, Try.ntmps6
    go_wp2_with fail
    refine (Try.rget_no w A n c a (by omega)).mono ?_
    rintro x w1 ⟨rfl, hw1⟩
    rw [hw1]
    clear hw1 w1
    go_wp2_with fail
    go_ret3
    exact gotS_no HE.out (by decide) (Below.refl _ _)
end Go.Proofs
end

section
namespace Go.Proofs
open Go.RowKit
set_option maxRecDepth 100000
theorem RdIn.other {W w w' : World} {b : Nat} {A : Option Addr} {n c : Nat} {l : List UInt8} {f : Int} {p : Nat} {e : Int} (h : RdIn W w b A n c l f p e) (k : w'.heap[b]? = w.heap[b]?) (hb : Below W.heap.size W w') : RdIn W w' b A n c l f p e :=
  ⟨h.rb.eq k, h.di, hb, h.box, h.hn, h.hp⟩
theorem made_flat (U : Nat) (h : U ≤ 8) : (madeCells #[.string ⟨#[]⟩, .int .i64 0] (U * 2)).toList = flat (List.replicate U ([], 0)) := by
  apply List.ext_getElem?
  intro k
  unfold madeCells
  rw [Array.getElem?_toList, Array.getElem?_map]
  by_cases hk : k < U * 2
  · rw [Array.getElem?_range, if_pos hk]
    have h2 := flat_at (List.replicate U (([], 0) : List UInt8 × Int)) (k / 2) ([], 0) (by rw [List.getElem?_replicate, if_pos (by omega)])
    rcases Nat.mod_two_eq_zero_or_one k with hm | hm
    · have e : k = k / 2 * 2 := by omega
      rw [e, h2.1]
      simp
      rfl
    · have e : k = k / 2 * 2 + 1 := by omega
      rw [e, h2.2]
      have e2 : (k / 2 * 2 + 1) % 2 = 1 := by omega
      simp [e2]
  · rw [List.getElem?_eq_none (by rw [flat_len, List.length_replicate]; omega), Array.getElem?_eq_none (by simp; omega)]
    rfl
theorem flat_app (A B : List (List UInt8 × Int)) : flat (A ++ B) = flat A ++ flat B := by simp [flat]
theorem flat_set1 (A B : List (List UInt8 × Int)) (q : List UInt8 × Int) (s : List UInt8) (i : Nat) (h : A.length = i) : (flat (A ++ q :: B)).set (i * 2) (.string (strOf s)) = flat (A ++ (s, q.2) :: B) := by
  have hl := flat_len A
  have e : flat (q :: B) = .string (strOf q.1) :: .int .i64 q.2 :: flat B := rfl
  have e' : flat ((s, q.2) :: B) = .string (strOf s) :: .int .i64 q.2 :: flat B := rfl
  rw [flat_app, flat_app, e, e', List.set_append_right _ _ (by omega), hl, h, Nat.sub_self]
  rfl
theorem flat_set2 (A B : List (List UInt8 × Int)) (q : List UInt8 × Int) (y : Int) (i : Nat) (h : A.length = i) : (flat (A ++ q :: B)).set (i * 2 + 1) (.int .i64 y) = flat (A ++ (q.1, y) :: B) := by
  have hl := flat_len A
  have e : flat (q :: B) = .string (strOf q.1) :: .int .i64 q.2 :: flat B := rfl
  have e' : flat ((q.1, y) :: B) = .string (strOf q.1) :: .int .i64 y :: flat B := rfl
  have e1 : i * 2 + 1 - i * 2 = 1 := by omega
  rw [flat_app, flat_app, e, e', List.set_append_right _ _ (by omega), hl, h, e1]
  rfl
theorem flat_get (A B : List (List UInt8 × Int)) (q : List UInt8 × Int) (i : Nat) (h : A.length = i) : (flat (A ++ q :: B))[i * 2]? = some (.string (strOf q.1)) ∧ (flat (A ++ q :: B))[i * 2 + 1]? = some (.int .i64 q.2) :=
  flat_at _ i q (by rw [List.getElem?_append_right (by omega), h, Nat.sub_self]; rfl)
structure SR (w : World) (A : Option Addr) (n c : Nat) (l : List UInt8) (a0 p0 rb sb B0 U i : Nat) (wr : World) : Prop where
  rd : RdIn w wr rb A n c l a0 (citer l p0 i).p (citer l p0 i).e
  o : wr.ownsRow B0 54 2 (.slice (some ⟨sb, 0, none⟩) U U) U (flat ((citer l p0 i).cs ++ List.replicate (U - i) ([], 0)))
set_option maxHeartbeats 8000000 in
theorem Try.getS (w : World) {A : Option Addr} {n c : Nat} {l : List UInt8} (hD : DI w A n c l) (hn : n ≤ 400) (a : Int) (ha : -9223372036854775808 ≤ a ∧ a ≤ 9223372036854775807) :
    Calls Try.prog 5 #[.slice A n c, .int .i64 a] w (GotS 54 w l a) := by
  have HD := Lib.hid hD
  have hln := hD.len
  have hlc := hD.le
  clear hD
  by_cases hin : 0 ≤ a ∧ a ≤ n
  · obtain ⟨a0, rfl⟩ : ∃ a0 : Nat, a = (a0 : Int) := ⟨a.toNat, by omega⟩
    have ha0 : a0 ≤ n := by omega
    obtain ⟨r, hr⟩ : ∃ r, Proofs.rnum l a0 0 = r := ⟨_, rfl⟩
    have HRN := Lib.hid hr
    have hnin := rnum_in l a0 0 (by omega)
    rw [hr] at hnin
    obtain ⟨u, p0, e⟩ := r
    dsimp only at hnin
    clear hin hr ha
    go_enter Try.func5, Try.ntmps5
    go_wp2_with fail
    refine (Try.rnew w A n c a0 0 hn (by rw [if_pos]; omega)).mono ?_
    rintro x w1 ⟨rb, rfl, hrb, hR1, hb1⟩
    have I1 : Hid (RdIn w w1 rb A n c l a0 a0 0) := Lib.hid ⟨hR1, HD.out, hb1, hrb, hn, ha0⟩
    clear hrb hR1 hb1
    go_wp2_with fail
    refine (Try.rnum I1.out).mono ?_
    rintro x w2 ⟨rfl, hR2⟩
    rw [HRN.out] at hR2 ⊢
    dsimp only at hR2 ⊢
    by_cases he : e = 0
    · subst he
      have I2 := Lib.hid ((I1.out).next hR2 (by omega))
      clear hR2 I1
      by_cases hu : 1 ≤ u ∧ u ≤ 8
      · obtain ⟨U, rfl⟩ : ∃ U : Nat, u = (U : Int) := ⟨u.toNat, by omega⟩
        have HU : Hid (1 ≤ U ∧ U ≤ 8) := Lib.hid (by omega)
        have hU8 : U ≤ 8 := by omega
        have g1 : decide ((1 : Int) ≤ U) = true := decide_eq_true (by omega)
        have g1' : decide (1 ≤ U) = true := decide_eq_true (by omega)
        have g2 : decide ((U : Int) ≤ 8) = true := decide_eq_true (by omega)
        have g2' : decide (U ≤ 8) = true := decide_eq_true (by omega)
        clear hu
        go_wp2_with fail
        refine (Try.rneed (I2.out).rb true 4 0 (by simp)).mono ?_
        rintro x w3 ⟨rfl, hR3⟩
        have I3 := Lib.hid ((I2.out).next hR3 (I2.out).hp)
        clear hR3 I2
        go_wp2_with fail
        refine (Try.rerr (I3.out).rb).mono ?_
        rintro x w4 ⟨rfl, hw4⟩
        rw [hw4]
        clear hw4 w4
        go_upto_region 7 with fail
        have hrbl := (I3.out).rb.lt
        obtain ⟨B0, hB0⟩ : ∃ B0, w3.heap.size = B0 := ⟨_, rfl⟩
        have hB0w : w.heap.size ≤ B0 := by rw [← hB0]; exact (I3.out).bel.size
        rw [hB0] at hrbl
        have HRB := Lib.hid hrbl
        have HBW := Lib.hid hB0w
        have HB0 := Lib.hid hB0
        clear hrbl hB0 hB0w
        obtain ⟨ii, hi0, hz0, hz1, hz2⟩ := infoC 54 (by kernel_rfl)
        have hb2 : ii.bytes * U ≤ 281474976710656 := by rw [hz2]; omega
        have hbs : B0 ≤ w3.heap.size := Nat.le_of_eq HB0.out.symm
        go_wp2_with (at_make; refine wpList_make_full _ rfl _ _ 25 rfl B0 54 ii (.agg #[.string ⟨#[]⟩, .int .i64 0]) 2 Try.underlying25 hi0 hz0 hz1 _ _ _ _ U rfl rfl (by omega) (by omega) hb2 (by unfold maxLen; omega) hbs ?_)
        clear hb2 hbs
        intro w5 hown hg5
        obtain ⟨sb, hsb⟩ : ∃ sb, w3.heap.size = sb := ⟨_, rfl⟩
        rw [hsb] at hown ⊢
        have HS : Hid (SR w A n c l a0 p0 rb sb B0 U 0 w5) := Lib.hid ⟨(I3.out).other (hg5.block rb (I3.out).rb.lt (by simp)) ((I3.out).bel.grown hg5 (I3.out).bel.size (fun k hk => by cases hk)), by rw [made_flat U hU8] at hown; exact hown⟩
        have HSB : Hid (rb ≠ sb) := Lib.hid (by have := HRB.out; have := HB0.out; omega)
        have HSW : Hid (w.heap.size ≤ sb) := Lib.hid (by have := HBW.out; have := HB0.out; omega)
        clear hown hg5 hsb I3 hz0 hz1 hz2 hi0 HB0
        go_wp2_with fail
        go_loopw [11, 35] (fun x11 t wr => ∃ i : Nat, i ≤ U ∧ t = .int .i64 i ∧ SR w A n c l a0 p0 rb sb B0 U i wr) (fun _ t _ => U - (intOf t).toNat)
        case atStart => exact ⟨0, Nat.zero_le _, rfl, HS.out⟩
        case round =>
          obtain ⟨i, hi, rfl, hs⟩ := hrel
          have HR := Lib.hid hs
          clear hs HS
          by_cases hlt : i < U
          · have hD : decide ((i : Int) < U) = true := decide_eq_true (by omega)
            have hD' : decide (i < U) = true := decide_eq_true hlt
            have hcl := citer_len l p0 i
            obtain ⟨S, hS⟩ : ∃ S, citer l p0 i = S := ⟨_, rfl⟩
            obtain ⟨p, e, cs⟩ := S
            rw [hS] at hcl
            dsimp only at hcl
            have HSt := Lib.hid hS
            have hrd := (HR.out).rd
            have ho := (HR.out).o
            rw [hS] at hrd ho
            dsimp only at hrd ho
            have hrep : List.replicate (U - i) (([], 0) : List UInt8 × Int) = ([], 0) :: List.replicate (U - (i + 1)) ([], 0) := by
              rw [show U - i = (U - (i + 1)) + 1 by omega]; rfl
            rw [hrep] at ho
            have RD := Lib.hid hrd
            have OO := Lib.hid ho
            have HCL := Lib.hid hcl
            clear hrd ho hrep hS hcl HR
            obtain ⟨r1, hr1⟩ : ∃ r1, Proofs.rnum l p e = r1 := ⟨_, rfl⟩
            have hn1 := rnum_in l p e (RD.out).len
            rw [hr1] at hn1
            obtain ⟨u1, p1, e1⟩ := r1
            dsimp only at hn1
            obtain ⟨U1, rfl⟩ : ∃ U1 : Nat, u1 = (U1 : Int) := ⟨u1.toNat, by omega⟩
            have HA1 := Lib.hid hr1
            obtain ⟨r2, hr2⟩ : ∃ r2, rtext l p1 e1 U1 = r2 := ⟨_, rfl⟩
            have hn2 := rtext_in l p1 e1 U1 hn1.2.2 (by omega)
            rw [hr2] at hn2
            obtain ⟨wd, p2, e2⟩ := r2
            dsimp only at hn2
            have HA2 := Lib.hid hr2
            obtain ⟨r3, hr3⟩ : ∃ r3, rbyte l p2 e2 = r3 := ⟨_, rfl⟩
            have hn3 := rbyte_in l p2 e2 hn2
            rw [hr3] at hn3
            obtain ⟨y, p3, e3⟩ := r3
            dsimp only at hn3
            obtain ⟨Y, rfl⟩ : ∃ Y : Nat, y = (Y : Int) := ⟨y.toNat, by omega⟩
            have HA3 := Lib.hid hr3
            have hU1 : U1 < 18446744073709551616 := by omega
            have hY : Y < 256 := by omega
            have hp1 : p1 ≤ n := by omega
            have hp2 : p2 ≤ n := by omega
            have hp3 : p3 ≤ n := by omega
            have HST : Hid (citer l p0 (i + 1) = ⟨p3, e3, cs ++ [(wd, (Y : Int))]⟩) := Lib.hid (by
              show cstep l (citer l p0 i) = _
              rw [HSt.out]
              unfold cstep
              simp only [hr1, hr2, hr3])
            clear hr1 hr2 hr3 hn1 hn2 hn3
            go_wp2_with fail
            refine (Try.rnum RD.out).mono ?_
            rintro x w6 ⟨rfl, hR6⟩
            rw [HA1.out] at hR6 ⊢
            dsimp only at hR6 ⊢
            have R6 := Lib.hid ((RD.out).next hR6 hp1)
            have O6 := Lib.hid ((OO.out).kept hR6.2 (.inr (by intro h; cases h; exact HSB.out rfl)))
            clear hR6
            go_wp2_with fail
            refine (Try.textI R6.out U1 hU1).mono ?_
            rintro x w7 ⟨rfl, hR7⟩
            rw [HA2.out] at hR7 ⊢
            dsimp only at hR7 ⊢
            have R7 := Lib.hid ((R6.out).next hR7 hp2)
            have O7 := Lib.hid ((O6.out).kept hR7.2 (.inr (by intro h; cases h; exact HSB.out rfl)))
            clear hR7 R6 O6
            have cX := ((O7.out).cellAt (i * 2) (by omega)).trans (flat_get cs _ _ i HCL.out).1
            have fX := (O7.out).frozenAt (i * 2)
            go_upto_region 12 with fail
            obtain ⟨w8, hw8⟩ : ∃ w8, w7.setCell ⟨sb, i * 2, none⟩ (.string (strOf wd)) = w8 := ⟨_, rfl⟩
            have hst := (O7.out).stored (i * 2) (.string (strOf wd))
            rw [flat_set1 cs _ _ wd i HCL.out, hw8] at hst
            have O8 := Lib.hid hst.1
            have R8 := Lib.hid ((R7.out).other (hst.2.block rb (R7.out).rb.lt (by intro h; cases h; exact HSB.out rfl)) ((R7.out).bel.grown hst.2 (R7.out).bel.size (fun k hk => by cases hk; exact HSW.out)))
            rw [hw8]
            clear hst hw8 cX fX R7 O7
            go_wp2_with fail
            refine (Try.byteI R8.out).mono ?_
            rintro x w9 ⟨rfl, hR9⟩
            rw [HA3.out] at hR9 ⊢
            dsimp only at hR9 ⊢
            have R9 := Lib.hid ((R8.out).next hR9 hp3)
            have O9 := Lib.hid ((O8.out).kept hR9.2 (.inr (by intro h; cases h; exact HSB.out rfl)))
            clear hR9 R8 O8
            have cX := ((O9.out).cellAt (i * 2 + 1) (by omega)).trans (flat_get cs _ _ i HCL.out).2
            have fX := (O9.out).frozenAt (i * 2 + 1)
            have sY : IntKind.i64.wrap (Y : Int) = (Y : Int) := wrapi (by omega) (by omega)
            have hst := (O9.out).stored (i * 2 + 1) (.int .i64 Y)
            rw [flat_set2 cs _ _ (Y : Int) i HCL.out] at hst
            have HN : Hid (SR w A n c l a0 p0 rb sb B0 U (i + 1) (w9.setCell ⟨sb, i * 2 + 1, none⟩ (.int .i64 Y))) := Lib.hid ⟨by
              rw [HST.out]
              exact (R9.out).other (hst.2.block rb (R9.out).rb.lt (by intro h; cases h; exact HSB.out rfl)) ((R9.out).bel.grown hst.2 (R9.out).bel.size (fun k hk => by cases hk; exact HSW.out)), by
              rw [HST.out]
              have := hst.1
              dsimp only at this ⊢
              rw [List.append_assoc]
              exact this⟩
            clear hst R9 O9
            go_wp2_with fail
            exact ⟨⟨i + 1, by omega, rfl, HN.out⟩, by simp [intOf]; omega⟩
          · obtain rfl : i = U := by omega
            have hD : decide ((i : Int) < i) = false := by simp
            have hD' : decide (i < i) = false := by simp
            have hcl := citer_len l p0 i
            have hnm := citer_names l p0 i
            have hin := sget_in (by omega) HRN.out rfl rfl HU.out
            dsimp only at hin
            have hrd := (HR.out).rd
            have ho := (HR.out).o
            rw [Nat.sub_self, List.replicate_zero, List.append_nil] at ho
            have hCC := fun h : sgetE l a0 = 0 => sgetC_ok HRN.out rfl h
            have hNN := fun h : sgetE l a0 = 0 => sgetN_ok HRN.out rfl h
            dsimp only at hCC hNN
            obtain ⟨S, hS⟩ : ∃ S, citer l p0 i = S := ⟨_, rfl⟩
            rw [hS] at hcl hnm hin hrd ho hCC hNN
            obtain ⟨p, e, cs⟩ := S
            dsimp only at hcl hnm hin hrd ho hCC hNN
            have HCC := Lib.hid hCC
            have HNN := Lib.hid hNN
            have hcr : CR wr (some ⟨sb, 0, none⟩) i i cs := by
              obtain ⟨A2, c2, hv, hcr⟩ := own_cr ho
              cases hv
              exact hcr
            have HCR := Lib.hid hcr
            have HNM : Hid (∀ (j : Nat) (q : List UInt8 × Int), cs[j]? = some q → q.1.length ≤ 400) := Lib.hid (fun j q hq => by have := hnm j q hq; omega)
            obtain ⟨z, hz⟩ : ∃ z, chk cs = z := ⟨_, rfl⟩
            rw [hz] at hin
            have HIN := Lib.hid hin
            have HZ := Lib.hid hz
            have RD := Lib.hid hrd
            have OO := Lib.hid ho
            clear hcl hnm hin hrd ho hCC hNN hS hcr hz HR
            go_wp2_with fail
            refine (Try.check wr _ i i cs HCR.out HNM.out).mono ?_
            rintro x w10 ⟨rfl, hb10⟩
            rw [HZ.out]
            have R10 := Lib.hid ((RD.out).other (hb10.block rb (RD.out).rb.lt) ((RD.out).bel.trans (hb10.mono (RD.out).bel.size)))
            have O10 := Lib.hid (own_below OO.out hb10)
            clear hb10
            go_wp2_with fail
            refine (Try.rfail (R10.out).rb z).mono ?_
            rintro x w11 ⟨rfl, hR11⟩
            obtain ⟨E, hE⟩ : ∃ E, (if e = 0 then z else e) = E := ⟨_, rfl⟩
            rw [hE] at hR11 HIN
            have R11 := Lib.hid ((R10.out).next hR11 (R10.out).hp)
            have O11 := Lib.hid ((O10.out).kept hR11.2 (.inr (by intro h; cases h; exact HSB.out rfl)))
            clear hR11 hE R10 O10
            go_wp2_with fail
            refine (Try.rerr (R11.out).rb).mono ?_
            rintro x w12 ⟨rfl, hw12⟩
            rw [hw12]
            clear hw12 w12
            by_cases hE0 : E = 0
            · subst hE0
              go_wp2_with fail
              refine (Try.rread (R11.out).rb (by have := (R11.out).hp; omega) (by omega)).mono ?_
              rintro x w13 ⟨rfl, hh, hb13⟩
              have O13 := Lib.hid (own_below O11.out hb13)
              have B13 := Lib.hid ((R11.out).bel.trans (hb13.mono (R11.out).bel.size))
              clear hh hb13
              go_wp2_with fail
              go_ret3
              refine ⟨.slice (some ⟨sb, 0, none⟩) i i, i, ?_, ?_, hU8, B13.out⟩
              · rw [HNN.out HIN.out, HIN.out]
                rfl
              · rw [HCC.out HIN.out]
                have h := O13.out
                exact ⟨h.1, by
                  rcases h.2 with q | ⟨g, cap, cur, h1, h2, h3⟩
                  · exact .inl q
                  · exact .inr ⟨g, cap, cur, h1, by have := HBW.out; omega, h3⟩⟩
            · have k1 : (E == 0) = false := by simpa using hE0
              have k2 : decide (E = 0) = false := by simpa using hE0
              have HX := Lib.hid hE0
              have B11 := Lib.hid (R11.out).bel
              clear hE0
              go_wp2_with fail
              go_ret3
              exact gotS_no HIN.out HX.out B11.out
      · have HE := Lib.hid (sget_long (by omega) HRN.out rfl hu)
        by_cases hu1 : 1 ≤ u
        · have g1 : decide (1 ≤ u) = true := decide_eq_true hu1
          have g2 : decide (u ≤ 8) = false := decide_eq_false (by omega)
          clear hu hu1
          go_wp2_with fail
          refine (Try.rneed (I2.out).rb false 4 4 (by simp)).mono ?_
          rintro x w3 ⟨rfl, hR3⟩
          have I3 := Lib.hid ((I2.out).next hR3 (I2.out).hp)
          clear hR3 I2
          go_wp2_with fail
          refine (Try.rerr (I3.out).rb).mono ?_
          rintro x w4 ⟨rfl, hw4⟩
          rw [hw4]
          clear hw4 w4
          go_wp2_with fail
          go_ret3
          exact gotS_no HE.out (by decide) (I3.out).bel
        · have g1 : decide (1 ≤ u) = false := decide_eq_false hu1
          clear hu hu1
          go_wp2_with fail
          refine (Try.rneed (I2.out).rb false 4 4 (by simp)).mono ?_
          rintro x w3 ⟨rfl, hR3⟩
          have I3 := Lib.hid ((I2.out).next hR3 (I2.out).hp)
          clear hR3 I2
          go_wp2_with fail
          refine (Try.rerr (I3.out).rb).mono ?_
          rintro x w4 ⟨rfl, hw4⟩
          rw [hw4]
          clear hw4 w4
          go_wp2_with fail
          go_ret3
          exact gotS_no HE.out (by decide) (I3.out).bel
    · have HE := Lib.hid (sget_e (by omega) HRN.out he)
      have hu0 : u = 0 := by
        have := HRN.out
        unfold Proofs.rnum at this
        rw [if_pos rfl] at this
        split at this
        · exact absurd (congrArg (fun q => q.2.2) this).symm he
        · exact (congrArg (fun q => q.1) this).symm
      subst hu0
      have I2 := Lib.hid ((I1.out).next hR2 (by omega))
      have g1 : (e == 0) = false := by simpa using he
      have g2 : decide (e = 0) = false := by simpa using he
      have HX := Lib.hid he
      clear hR2 I1 he
      go_wp2_with fail
      refine (Try.need_no (I2.out).rb HX false 4).mono ?_
      rintro x w3 ⟨rfl, hR3⟩
      have I3 := Lib.hid ((I2.out).next hR3 (I2.out).hp)
      clear hR3 I2
      go_wp2_with fail
      refine (Try.rerr (I3.out).rb).mono ?_
      rintro x w4 ⟨rfl, hw4⟩
      rw [hw4]
      clear hw4 w4
      go_wp2_with fail
      go_ret3
      exact gotS_no HE.out HX.out (I3.out).bel
  · have HE := Lib.hid (sget_arg (l := l) (a := a) (by omega))
    go_enter Try.func5, Try.ntmps5
    go_wp2_with fail
    refine (Try.rnew w A n c a 1 hn (by rw [if_neg hin])).mono ?_
    rintro x w1 ⟨rb, rfl, hrb, hR1, hb1⟩
    have R1 := Lib.hid hR1
    have B1 := Lib.hid hb1
    have GB := Lib.hid hrb
    clear hrb hR1 hb1
    go_wp2_with fail
    refine (Try.rnum_no R1.out (Lib.hid (by decide))).mono ?_
    rintro x w2 ⟨rfl, hw2⟩
    rw [hw2]
    clear hw2 w2
    go_wp2_with fail
    refine (Try.need_no R1.out (Lib.hid (by decide)) false 4).mono ?_
    rintro x w3 ⟨rfl, hR3⟩
    have R3 := Lib.hid hR3.1
    have B3 := Lib.hid ((B1.out).grown hR3.2 (B1.out).size (fun k hk => by cases hk; exact GB.out))
    clear hR3 B1 R1
    go_wp2_with fail
    refine (Try.rerr R3.out).mono ?_
    rintro x w4 ⟨rfl, hw4⟩
    rw [hw4]
    clear hw4 w4
    go_wp2_with fail
    go_ret3
    exact gotS_no HE.out (by decide) B3.out
end Go.Proofs
end

section
namespace Go.Proofs
open Go.RowKit
set_option maxRecDepth 100000
def YesV (w : World) (e : Ending) (w' : World) : Prop := e = .returned (.bool true) ∧ Below w.heap.size w w'
theorem Try.reads_cut (w : World) (A : Option Addr) (n c : Nat) (a : Int) (h : 400 < n) : Calls Try.prog 3 #[.slice A n c, .int .i64 a] w (YesV w) := by
  have g1 : decide ((400 : Int) < n) = true := decide_eq_true (by omega)
  have g1' : decide (400 < n) = true := decide_eq_true h
  clear h
  go_enter Try.func3, Try.ntmps3
  go_wp2_with fail
  refine (Try.known4 w).mono ?_
  rintro x w1 ⟨rfl, hb⟩
  have HB := Lib.hid hb
  clear hb
  go_wp2_with fail
  go_ret
  exact ⟨rfl, HB.out⟩
set_option maxHeartbeats 4000000 in
theorem Try.reads (w : World) {A : Option Addr} {n c : Nat} {l : List UInt8} (hD : DI w A n c l) (hn : n ≤ 400) (a : Int) (ha : -9223372036854775808 ≤ a ∧ a ≤ 9223372036854775807) :
    Calls Try.prog 3 #[.slice A n c, .int .i64 a] w (YesV w) := by
  have HD := Lib.hid hD
  have HA := Lib.hid ha
  have g1 : decide ((400 : Int) < n) = false := decide_eq_false (by omega)
  have g1' : decide (400 < n) = false := decide_eq_false (by omega)
  clear hD ha
  go_enter Try.func3, Try.ntmps3
  go_wp2_with fail
  refine (Try.known4 w).mono ?_
  rintro x w1 ⟨rfl, hb⟩
  have HB1 := Lib.hid hb
  clear hb
  go_wp2_with fail
  refine (Try.getS w1 ((HD.out).below HB1.out) hn a HA.out).mono ?_
  rintro x w2 ⟨v1, m1, rfl, ho1, hm1, hb2⟩
  obtain ⟨A1, c1, hv1, hcr1⟩ := own_cr ho1
  subst hv1
  have C1 := Lib.hid hcr1
  have HB2 := Lib.hid ((HB1.out).trans (hb2.mono (HB1.out).size))
  clear ho1 hcr1 hb2
  go_wp2_with fail
  refine (Try.getR w2 ((HD.out).below HB2.out) hn a HA.out).mono ?_
  rintro x w3 ⟨v2, m2, rfl, ho2, hm2, hb3⟩
  obtain ⟨A2, c2, hv2, hcr2⟩ := own_cr ho2
  subst hv2
  have hmm : m2 = m1 := by rw [← hcr2.len, ← (C1.out).len]
  subst hmm
  have C2 := Lib.hid hcr2
  have C3 := Lib.hid ((C1.out).below hb3)
  have HB3 := Lib.hid ((HB2.out).trans (hb3.mono (HB2.out).size))
  clear ho2 hcr2 hb3 C1
  obtain ⟨cs, hcs⟩ : ∃ cs, sgetC l a = cs := ⟨_, rfl⟩
  obtain ⟨E, hE⟩ : ∃ E, sgetE l a = E := ⟨_, rfl⟩
  obtain ⟨N, hN⟩ : ∃ N, sgetN l a = N := ⟨_, rfl⟩
  rw [hcs] at C2 C3
  rw [hE, hN]
  clear hcs hE hN
  go_wp2_with fail
  refine (Try.of w3 A1 m2 c1 cs C3.out hm1).mono ?_
  rintro x w4 ⟨v3, rfl, ho3, hb4⟩
  obtain ⟨A3, c3, hv3, hcr3⟩ := own_cr ho3
  subst hv3
  have C4 := Lib.hid hcr3
  have C5 := Lib.hid ((C2.out).below hb4)
  have HB4 := Lib.hid ((HB3.out).trans (hb4.mono (HB3.out).size))
  clear ho3 hcr3 hb4
  go_wp2_with fail
  refine (Try.same w4 A3 A2 m2 c3 c2 cs C4.out C5.out hm1).mono ?_
  rintro x w5 ⟨rfl, hb5⟩
  have HB5 := Lib.hid ((HB4.out).trans (hb5.mono (HB4.out).size))
  clear hb5
  go_wp2_with fail
  go_ret
  exact ⟨rfl, HB5.out⟩
def IsRow (k : IntKind) (w : World) (a : Option Addr) (len cap : Nat) (zs : List Int) : Prop :=
  (a = none ∧ len = 0 ∧ cap = 0 ∧ zs = []) ∨
  ∃ x, a = some x ∧ len ≤ cap ∧ cap ≤ maxLen ∧ zs.length = cap ∧ (∀ i, i < zs.length → w.cell? (x.add i) = some (.int k (zs.getD i 0))) ∧ ∀ n ∈ zs, (Lit.int k n).wf = true
theorem wf_i64 {n : Int} (h : (Lit.int .i64 n).wf = true) : -9223372036854775808 ≤ n ∧ n ≤ 9223372036854775807 := by
  simp [Lit.wf, IntKind.min, IntKind.max, IntKind.bits, IntKind.signed] at h
  omega
theorem wf_u8n {n : Int} (h : (Lit.int .u8 n).wf = true) : 0 ≤ n ∧ n < 256 := by
  simp [Lit.wf, IntKind.min, IntKind.max, IntKind.bits, IntKind.signed] at h
  omega
theorem IsRow.di {w : World} {a : Option Addr} {len cap : Nat} {zs : List Int} (h : IsRow .u8 w a len cap zs) : DI w a len cap ((zs.take len).map (fun z => UInt8.ofNat z.toNat)) := by
  rcases h with ⟨rfl, rfl, rfl, rfl⟩ | ⟨x, rfl, p, q, hl, hc, hw⟩
  · exact ⟨rfl, Nat.le_refl _, Nat.zero_le _, fun j y hj => by simp at hj⟩
  · refine ⟨by rw [List.length_map, List.length_take]; omega, p, q, fun j y hj => ⟨x, rfl, ?_⟩⟩
    rw [List.getElem?_map] at hj
    obtain ⟨z, hz, rfl⟩ := Option.map_eq_some_iff.1 hj
    rw [List.getElem?_take] at hz
    split at hz
    · have hjz : j < zs.length := by omega
      have e := hc j hjz
      rw [List.getD_eq_getElem?_getD, hz] at e
      have hm := wf_u8n (hw z (List.mem_of_getElem? hz))
      rw [e]
      unfold u8v
      simp only [Option.getD_some]
      congr 2
      have : (UInt8.ofNat z.toNat).toNat = z.toNat := by
        rw [UInt8.toNat_ofNat']; omega
      rw [this]; omega
    · cases hz
theorem Try.reads_all (w : World) (A : Option Addr) (n c : Nat) (zs : List Int) (a : Int) (w0 : IsRow .u8 w A n c zs) (w1 : (Lit.int .i64 a).wf = true) : Calls Try.prog 3 #[.slice A n c, .int .i64 a] w (YesV w) := by
  by_cases h : 400 < n
  · exact Try.reads_cut w A n c a h
  · exact Try.reads w w0.di (by omega) a (wf_i64 w1)
end Go.Proofs
end
