/-
  Texts of a proof over the translated program: proved evaluators and walks, part 10 of 13.
-/
import Derived.Test.YtockbmppocbpjaaPartT9
import Derived.Below
import Derived.Deep.RegionHeld3
import Derived.Deep.RegionWith
import Derived.Handy
import Derived.IntWalk
import Derived.Laws.StructEq
import Derived.Lib.Hide
import Derived.LoopTactic
import Derived.Outline
import Derived.OwnWalk
import Derived.Scope
import Derived.ScopeJumps
import Derived.Test.YtockbmppocbpjaaProg
import Derived.WalkKit
import Derived.WalkMore
import Derived.WalkSpells
set_option linter.unusedVariables false
set_option linter.unusedSimpArgs false
set_option linter.unusedSectionVars false
set_option linter.unnecessarySimpa false
section
namespace Go.Proofs
open Go.RowKit
set_option maxRecDepth 100000
theorem Try.held28 : Try.prog.stoodInHeld 28 = false := by kernel_rfl
theorem Try.guard28 : Try.prog.eqGuardType Try.prog.depth 28 = false := by kernel_rfl
theorem fields28 : ∃ f1 f2 f3 f4 : Field, (Try.prog.fieldsOf 28).toList = [f1, f2, f3, f4] ∧ (f1.name ≠ "_" ∧ f1.type = 3 ∧ f1.offset = 0) ∧ (f2.name ≠ "_" ∧ f2.type = 2 ∧ f2.offset = 1) ∧ (f3.name ≠ "_" ∧ f3.type = 9 ∧ f3.offset = 2) ∧ (f4.name ≠ "_" ∧ f4.type = 26 ∧ f4.offset = 3) :=
  by
  have h : (Try.prog.fieldsOf 28).toList.map (fun f => (f.name == "_", f.type, f.offset)) = [(false, 3, 0), (false, 2, 1), (false, 9, 2), (false, 26, 3)] := by kernel_rfl
  generalize (Try.prog.fieldsOf 28).toList = L at h
  rcases L with _ | ⟨f1, _ | ⟨f2, _ | ⟨f3, _ | ⟨f4, _ | ⟨f5, L⟩⟩⟩⟩⟩ <;> simp at h
  exact ⟨f1, f2, f3, f4, rfl, h.1, h.2.1, h.2.2.1, h.2.2.2⟩
theorem eqC (w : World) (d : Nat) : (Op.equalIn (d + 1) 26 (.complex .f64 0 0) (.complex .f64 0 0)).run Try.prog w = .ok true w := by
  simp [Op.equalIn, run_underlying Try.underlying26]
  kernel_rfl
theorem Try.st28 : Try.prog.underlying 28 = some (.struct (Try.prog.fieldsOf 28)) := by kernel_rfl
theorem eqA (w : World) (k a k' b : Int) : (Op.equalIn 10000 28 (.agg #[.int .i64 k, .int .i64 a, .string ⟨#[]⟩, .complex .f64 0 0]) (.agg #[.int .i64 k', .int .i64 b, .string ⟨#[]⟩, .complex .f64 0 0])).run Try.prog w = .ok ((k == k') && (a == b)) w := by
  rw [run_equalIn_agg w 9999 28 _ _ Try.st28 Try.held28]
  obtain ⟨f1, f2, f3, f4, h, ⟨a1, a2, a3⟩, ⟨b1, b2, b3⟩, ⟨c1, c2, c3⟩, d1, d2, d3⟩ := fields28
  rw [h]
  have q3 : (Op.equalIn 9999 3 (.int .i64 k) (.int .i64 k')).run Try.prog w = .ok (k == k') w := run_equalIn_int w 9998 3 .i64 .i64 k k' Try.underlying3
  have q2 : (Op.equalIn 9999 2 (.int .i64 a) (.int .i64 b)).run Try.prog w = .ok (a == b) w := run_equalIn_int w 9998 2 .i64 .i64 a b Try.underlying2
  have q9 : (Op.equalIn 9999 9 (.string ⟨#[]⟩) (.string ⟨#[]⟩)).run Try.prog w = .ok true w := by rw [run_equalIn_string w 9998 9 _ _ Try.underlying9, beq_self_eq_true]
  have q26 : (Op.equalIn 9999 26 (.complex .f64 0 0) (.complex .f64 0 0)).run Try.prog w = .ok true w := eqC w 9998
  simp only [Op.eqFields, a1, a2, a3, b1, b2, b3, c1, c2, c3, d1, d2, d3, if_true, ne_eq, not_false_eq_true]
  simp [part, go_sem, q26]
  by_cases hk : k = k' <;> by_cases ha : a = b <;> simp [hk, ha]
theorem eqG (op : BinOp) (x y : Operand) (xs ys : Array Value) (w : World) : (eqGuard op 28 x y (.agg xs) (.agg ys)).run Try.prog w = .ok () w := run_eqGuard_agg w op 28 x y xs ys Try.guard28
theorem eqlV (w : World) (k a k' b : Int) : (binOp .eql 28 (.agg #[.int .i64 k, .int .i64 a, .string ⟨#[]⟩, .complex .f64 0 0]) (.agg #[.int .i64 k', .int .i64 b, .string ⟨#[]⟩, .complex .f64 0 0])).run Try.prog w = .ok (.bool ((k == k') && (a == b))) w := by
  rw [run_eql_struct, eqA, Result.andThen_ok]
theorem neqV (w : World) (k a k' b : Int) : (binOp .neq 28 (.agg #[.int .i64 k, .int .i64 a, .string ⟨#[]⟩, .complex .f64 0 0]) (.agg #[.int .i64 k', .int .i64 b, .string ⟨#[]⟩, .complex .f64 0 0])).run Try.prog w = .ok (.bool (!((k == k') && (a == b)))) w := by
  rw [run_neq_struct, eqA, Result.andThen_ok]
end Go.Proofs
end

section
namespace Go.Proofs
open Go.RowKit
set_option maxRecDepth 100000
theorem Try.vcheckN (n : Int) (w : World) : Calls Try.prog 51 #[vN n] w fun e w' => e = .returned (.int .i64 0) ∧ Below w.heap.size w w' := by
  unfold vN
  have hsc := storeC
  have heq := eqlV
  have hne := neqV
  have hgd := eqG
  go_enter Try.func51, Try.ntmps51
  go_wp2
  refine wp_scope_fwd 2 ?_
  go_wp2_with fail
  go_step3
  refine ⟨_, rfl, ?_⟩
  go_wp2_with fail
  go_step3
  refine ⟨_, rfl, ?_⟩
  go_wp2_with fail
  refine (Fwd.other (by intro l; simp)).2 ?_
  go_ret
  refine ⟨rfl, ?_⟩
  exact ((Below.refl _ w).alloc (Nat.le_refl _) _).alloc (by simp) _
theorem Try.vcheck0 (w : World) : Calls Try.prog 51 #[v0] w fun e w' => e = .returned (.int .i64 0) ∧ Below w.heap.size w w' := by
  unfold v0
  have hsc := storeC
  have heq := eqlV
  have hne := neqV
  have hgd := eqG
  go_enter Try.func51, Try.ntmps51
  go_wp2
  refine wp_scope_fwd 2 ?_
  go_wp2_with fail
  go_step3
  refine ⟨_, rfl, ?_⟩
  go_wp2_with fail
  refine (Fwd.other (by intro l; simp)).2 ?_
  go_ret
  refine ⟨rfl, ?_⟩
  exact ((Below.refl _ w).alloc (Nat.le_refl _) _).alloc (by simp) _
theorem Try.fitsN (n : Int) (w : World) : Calls Try.prog 52 #[vN n, .int .i64 1] w fun e w' => e = .returned (.bool true) ∧ Below w.heap.size w w' := by
  unfold vN
  go_enter Try.func52, Try.ntmps52
  go_wp2_with fail
  go_ret
  exact ⟨rfl, (Below.refl _ w).alloc (Nat.le_refl _) _⟩
theorem Try.fits0 (w : World) : Calls Try.prog 52 #[v0, .int .i64 1] w fun e w' => e = .returned (.bool true) ∧ Below w.heap.size w w' := by
  unfold v0
  go_enter Try.func52, Try.ntmps52
  go_wp2_with fail
  go_ret
  exact ⟨rfl, (Below.refl _ w).alloc (Nat.le_refl _) _⟩
theorem Try.isKind (w : World) : Calls Try.prog 50 #[.int .i64 1] w fun e w' => e = .returned (.bool true) ∧ w = w' := by
  go_enter Try.func50, Try.ntmps50
  go_wp2_with fail
  go_ret
  exact ⟨rfl, rfl⟩
end Go.Proofs
end

section
namespace Go.Proofs
open Go.RowKit
set_option maxRecDepth 100000
def vc (q : Int × Int) : List Value := [.int .i64 q.1, .int .i64 q.2, .string ⟨#[]⟩, .complex .f64 0 0]
def vV (q : Int × Int) : Value := .agg #[.int .i64 q.1, .int .i64 q.2, .string ⟨#[]⟩, .complex .f64 0 0]
def flat (qs : List (Int × Int)) : List Value := qs.flatMap vc
theorem flat_len (qs : List (Int × Int)) : (flat qs).length = qs.length * 4 := by
  induction qs with
  | nil => rfl
  | cons q qs ih =>
    have : flat (q :: qs) = vc q ++ flat qs := rfl
    rw [this, List.length_append, ih, List.length_cons]
    simp [vc]
    omega
theorem flat_snoc (qs : List (Int × Int)) (q : Int × Int) : flat (qs ++ [q]) = flat qs ++ vc q := by simp [flat]
theorem flat_get : ∀ (qs : List (Int × Int)) (i : Nat) (hi : i < qs.length) (j : Nat), j < 4 → (flat qs)[4 * i + j]? = (vc (qs[i]))[j]?
  | q :: qs, 0, _, j, hj => by
    have : flat (q :: qs) = vc q ++ flat qs := rfl
    rw [this, List.getElem?_append_left (by simp [vc]; omega)]
    simp
  | q :: qs, i + 1, hi, j, hj => by
    have : flat (q :: qs) = vc q ++ flat qs := rfl
    have hl : (vc q).length = 4 := rfl
    rw [this, List.getElem?_append_right (by omega), hl, show 4 * (i + 1) + j - 4 = 4 * i + j by omega, flat_get qs i (by simpa using hi) j hj]
    rfl
abbrev VO (w : World) (B : Nat) (v : Value) (n : Nat) (qs : List (Int × Int)) : Prop := w.ownsRow B 28 4 v n (flat qs)
theorem VO.len {w : World} {B : Nat} {v : Value} {n : Nat} {qs : List (Int × Int)} (h : VO w B v n qs) : qs.length = n := by
  have h1 := h.1
  rw [flat_len] at h1
  omega
structure VAt (w : World) (g n cap : Nat) (qs : List (Int × Int)) : Prop where
  nc : n ≤ cap
  cm : cap ≤ maxLen
  lt : g < w.heap.size
  at4 : ∀ i, (hi : i < qs.length) → w.cell? ⟨g, i * 4, none⟩ = some (.int .i64 (qs[i]).1) ∧ w.cell? ⟨g, i * 4 + 1, none⟩ = some (.int .i64 (qs[i]).2) ∧ w.cell? ⟨g, i * 4 + 2, none⟩ = some (.string ⟨#[]⟩) ∧ w.cell? ⟨g, i * 4 + 3, none⟩ = some (.complex .f64 0 0)
theorem VO.at {w : World} {B : Nat} {v : Value} {n : Nat} {qs : List (Int × Int)} (h : VO w B v n qs) : (v = .slice none 0 0 ∧ n = 0) ∨ ∃ g cap, v = .slice (some ⟨g, 0, none⟩) n cap ∧ B ≤ g ∧ VAt w g n cap qs := by
  have hl := h.len
  rcases h.2 with q | ⟨g, cap, cur, rfl, h1, h2, h3, h4, h5, h6⟩
  · exact .inl q
  · refine .inr ⟨g, cap, rfl, h1, h3, h4, ?_, fun i hi => ?_⟩
    · by_cases hx : g < w.heap.size
      · exact hx
      · rw [Array.getElem?_eq_none (by omega)] at h2; cases h2
    · have key : ∀ j, j < 4 → w.cell? ⟨g, i * 4 + j, none⟩ = (vc (qs[i]))[j]? := by
        intro j hj
        rw [← flat_get qs i hi j hj, ← h6, List.getElem?_take_of_lt (by omega)]
        simp only [World.cell?, h2]
        rw [Array.getElem?_toList, Nat.mul_comm]
        simp
      exact ⟨key 0 (by omega), key 1 (by omega), key 2 (by omega), key 3 (by omega)⟩
theorem VAt.below {w w' : World} {g n cap : Nat} {qs : List (Int × Int)} (h : VAt w g n cap qs) (hb : Below w.heap.size w w') : VAt w' g n cap qs := by
  refine ⟨h.nc, h.cm, Nat.lt_of_lt_of_le h.lt hb.size, fun i hi => ?_⟩
  obtain ⟨a, b, c, d⟩ := h.at4 i hi
  exact ⟨(hb.cell (p := ⟨g, i * 4, none⟩) h.lt).trans a, (hb.cell (p := ⟨g, i * 4 + 1, none⟩) h.lt).trans b, (hb.cell (p := ⟨g, i * 4 + 2, none⟩) h.lt).trans c, (hb.cell (p := ⟨g, i * 4 + 3, none⟩) h.lt).trans d⟩
structure VB (w : World) (b : Nat) (q : Int × Int) : Prop where
  lt : b < w.heap.size
  e1 : w.cell? ⟨b, 0, none⟩ = some (.int .i64 q.1)
  e2 : w.cell? ⟨b, 1, none⟩ = some (.int .i64 q.2)
  e3 : w.cell? ⟨b, 2, none⟩ = some (.string ⟨#[]⟩)
  e4 : w.cell? ⟨b, 3, none⟩ = some (.complex .f64 0 0)
theorem alloc_here (w : World) (o : Obj) : (w.alloc o).heap[w.heap.size]? = some o := by unfold World.alloc; simp
theorem vb_alloc (w : World) (q : Int × Int) : VB (w.alloc (.cells #[.int .i64 q.1, .int .i64 q.2, .string ⟨#[]⟩, .complex .f64 0 0] 28)) w.heap.size q := by
  have h := alloc_here w (.cells #[.int .i64 q.1, .int .i64 q.2, .string ⟨#[]⟩, .complex .f64 0 0] 28)
  refine ⟨by rw [World.size_alloc]; exact Nat.lt_succ_self _, ?_, ?_, ?_, ?_⟩ <;> (simp only [World.cell?]; rw [h]; rfl)
theorem VB.below {w w' : World} {b : Nat} {q : Int × Int} (h : VB w b q) (hb : Below w.heap.size w w') : VB w' b q :=
  ⟨Nat.lt_of_lt_of_le h.lt hb.size, (hb.cell (p := ⟨b, 0, none⟩) h.lt).trans h.e1, (hb.cell (p := ⟨b, 1, none⟩) h.lt).trans h.e2, (hb.cell (p := ⟨b, 2, none⟩) h.lt).trans h.e3, (hb.cell (p := ⟨b, 3, none⟩) h.lt).trans h.e4⟩
def NumV (q : Int × Int) : Prop := q.1 = 1 ∨ q = (0, 0)
theorem Try.vcheck {q : Int × Int} (h : NumV q) (w : World) : Calls Try.prog 51 #[vV q] w fun e w' => e = .returned (.int .i64 0) ∧ Below w.heap.size w w' := by
  obtain ⟨a, b⟩ := q
  rcases h with h | h
  · have h' : a = 1 := h
    subst h'; exact Try.vcheckN b w
  · obtain ⟨rfl, rfl⟩ := Prod.mk.inj h
    exact Try.vcheck0 w
theorem Try.fits {q : Int × Int} (h : NumV q) (w : World) : Calls Try.prog 52 #[vV q, .int .i64 1] w fun e w' => e = .returned (.bool true) ∧ Below w.heap.size w w' := by
  obtain ⟨a, b⟩ := q
  rcases h with h | h
  · have h' : a = 1 := h
    subst h'; exact Try.fitsN b w
  · obtain ⟨rfl, rfl⟩ := Prod.mk.inj h
    exact Try.fits0 w
set_option maxHeartbeats 1000000 in
theorem Try.colcheck {w : World} {g n cap : Nat} {qs : List (Int × Int)} (h : VAt w g n cap qs) (hl : qs.length = n) (hn : n ≤ 64) (hq : ∀ i, (hi : i < qs.length) → NumV (qs[i])) :
    Calls Try.prog 22 #[.slice (some ⟨g, 0, none⟩) n cap, .int .i64 1] w fun e w' => e = .returned (.int .i64 0) ∧ Below w.heap.size w w' := by
  have H := Lib.hid h
  have HL := Lib.hid hl
  have HQ := Lib.hid hq
  have d1 : decide (64 < (n : Int)) = false := by simp; omega
  have d1' : decide (64 < n) = false := by simp; omega
  have hsc := storeC
  clear h hl hq
  go_enter Try.func22, Try.ntmps22
  go_wp2_with (go_at_call 50; refine (Try.isKind _).mono ?_; rintro e w' ⟨rfl, rfl⟩)
  go_loopw [16] (fun t wr => ∃ i : Nat, i ≤ n ∧ t = .int .i64 i ∧ Below w.heap.size w wr) (fun t _ => n - (intOf t).toNat)
  case atStart => exact ⟨0, Nat.zero_le _, rfl, Below.refl _ _⟩
  case round =>
    obtain ⟨i, hi, rfl, hb⟩ := hrel
    have HB := Lib.hid hb
    clear hb
    by_cases hlt : i < n
    · have hD : decide ((i : Int) < n) = true := by simpa using hlt
      obtain ⟨e1, e2, e3, e4⟩ := ((H.out).below HB.out).at4 i (by have := HL.out; omega)
      have HQ1 := Lib.hid (HQ.out i (by have := HL.out; omega))
      generalize qs[i]'(by have := HL.out; omega) = q at e1 e2 HQ1
      go_wp2_with fail
      have hp := Try.vcheck HQ1.out (wr.alloc (.cells #[.int .i64 q.1, .int .i64 q.2, .string ⟨#[]⟩, .complex .f64 0 0] 28))
      refine hp.mono ?_
      clear hp
      rintro e w1 ⟨rfl, hb1⟩
      have HB1 : Hid (Below w.heap.size w w1) := Lib.hid ((HB.out.alloc HB.out.size _).trans (hb1.mono (Nat.le_trans HB.out.size (by simp))))
      obtain ⟨_, f1, f2, f3, f4⟩ := (vb_alloc wr q).below hb1
      clear hb1 e1 e2 e3 e4
      go_wp2_with fail
      have hp := Try.fits HQ1.out w1
      refine hp.mono ?_
      clear hp
      rintro e w2 ⟨rfl, hb2⟩
      have HB2 := Lib.hid ((HB1.out).trans (hb2.mono (HB1.out).size))
      clear hb2 f1 f2 f3 f4
      go_wp2_with fail
      go_roundw
      case rel => first | exact ⟨i + 1, hlt, rfl, HB2.out⟩ | ((repeat apply Exists.intro); exact ⟨⟨i + 1, hlt, rfl, HB2.out⟩, rfl⟩)
      case measure => simp [intOf]; omega
    · obtain rfl : i = n := by omega
      have hD : decide ((i : Int) < i) = false := by simp
      go_wp2_with fail
      go_ret
      exact ⟨rfl, HB.out⟩
end Go.Proofs
end
