/-
  Texts of a proof over the translated program: NdPq.
-/
import Derived.Test.YtcmjccjbgidinaaNdPl
import Derived.Test.YtcmjccjbgidinaaNdArg
import Derived.Deep.Slices
import Derived.Deep.Grids
import Derived.Lib.SmallJoins
import Derived.ProofKit
import Derived.OpenShut
set_option linter.unusedVariables false
set_option linter.unnecessarySimpa false
set_option linter.unusedSimpArgs false
namespace Go.Proofs
open Go.RowKit Go.ChangeShapes Go.WideShapes Joins
set_option maxRecDepth 100000
/-- A slice of acts that came in. -/
def IsActs (w : World) (a : Option Addr) (len cap : Nat) : Prop :=
  (a = none ∧ len = 0 ∧ cap = 0) ∨ ∃ x, a = some x ∧ len ≤ cap ∧ cap ≤ maxLen ∧ ∀ i, i < len → ActAt w (x.add (i * 4))
theorem data_at {w : World} {a : Option Addr} {len cap : Nat} {zs : List Int} (h : IsRow .u8 w a len cap zs) : ∃ bb : List UInt8, bb.length = len ∧ len ≤ 9223372036854775807 ∧ (0 < len → ∃ X, a = some X ∧ ∀ j u, (bb.map u8v)[j]? = some u → w.cell? (X.add j) = some u) := by
  have hm : len ≤ 9223372036854775807 := by
    rcases h with ⟨_, rfl, _⟩ | ⟨x, _, h1, h2, _⟩
    · omega
    · unfold maxLen at h2; omega
  obtain ⟨l8, h8⟩ := h.u8
  refine ⟨(List.range len).map l8, by simp, hm, fun h0 => ?_⟩
  obtain ⟨X, rfl, _⟩ := h8 0 h0
  refine ⟨X, rfl, fun j u hu => ?_⟩
  rw [List.getElem?_map, List.getElem?_map] at hu
  by_cases hj : j < len
  · rw [List.getElem?_range hj] at hu
    obtain ⟨y, hy, hc⟩ := h8 j hj
    obtain rfl : X = y := Option.some.inj hy
    simp at hu
    rw [hc, hu]
  · rw [List.getElem?_eq_none (by simp; omega)] at hu
    simp at hu
theorem act_at {w : World} {p : Addr} {op I : Int} {XA KA : Option Addr} {xn xm kn km : Nat} {zs : List Int} {B : Nat → Bool} (h0 : w.cell? p = some (.int .i64 op)) (h1 : w.cell? (p.add 1) = some (.int .i64 I)) (h2 : w.cell? (p.add 2) = some (.slice XA xn xm)) (h3 : w.cell? (p.add 3) = some (.slice KA kn km))
    (hx : IsRow .u8 w XA xn xm zs) (hk : IsBits w KA kn km B) : ActAt w p := by
  obtain ⟨bb, b1, b2, b3⟩ := data_at hx
  obtain ⟨kb, k1, k2, k3⟩ := hk.keep
  exact ⟨op, I, XA, xn, xm, KA, kn, km, bb, kb, h0, h1, h2, h3, b1, b3, k1, k2, b2, k3⟩
theorem acts_of {H : Type} {enc : TypeId × Value → H} {w : World} {held : Bool} {fuel : Nat} {a : Option Addr} {len cap : Nat} {x : DataW H × List MemPlace} (h : DataW.trod enc Try.prog w 0 (fun _ => true) held fuel 22 [.slice a len cap] = some x) : IsActs w a len cap := by
  rcases Go.Deep.open_slice Try.underlying22 h with ⟨hcs, _⟩ | ⟨y, l, c, m, n, D, Pl, hcs, _, hl, hm, hmm, _, hel⟩
  · simp at hcs
    obtain ⟨rfl, rfl, rfl⟩ := hcs
    exact .inl ⟨rfl, rfl, rfl⟩
  · simp at hcs
    obtain ⟨rfl, rfl, rfl⟩ := hcs
    simp only [if_true] at hmm
    refine .inr ⟨y, rfl, hl, hm, fun i hi => ?_⟩
    obtain ⟨cs, hc, ht⟩ := hel i (by omega)
    have h4 : Try.prog.cellsOf 34 = 4 := by kernel_rfl
    have h31 : Try.prog.cellsOf 31 = 1 := by kernel_rfl
    have h32 : Try.prog.cellsOf 32 = 1 := by kernel_rfl
    have h3' : Try.prog.cellsOf 3 = 1 := by kernel_rfl
    rw [h4] at hc
    obtain ⟨_, hcl, hcc⟩ := World.cells?_some hc
    obtain ⟨y0, y1, y2, y3, n', _, _, t0, t1, t2, t3⟩ := trod_struct4 Try.underlying34 ht
    match cs, hcl with
    | [q0, q1, q2, q3], _ =>
      have g0 := hcc 0 (by omega)
      have g1 := hcc 1 (by omega)
      have g2 := hcc 2 (by omega)
      have g3 := hcc 3 (by omega)
      simp [h31, h32, h3'] at t0 t1 t2 t3 g0 g1 g2 g3
      obtain ⟨op, e0, _⟩ := DataW.trod_int Try.underlying3 t0
      obtain ⟨I, e1, _⟩ := DataW.trod_int Try.underlying3 t1
      simp at e0 e1
      subst e0
      subst e1
      obtain ⟨XA, xn, xm, zs, rfl, hx⟩ : ∃ XA xn xm zs, q2 = .slice XA xn xm ∧ IsRow .u8 w XA xn xm zs := by
        rcases open_ints Try.underlying31 Try.underlying5 (by kernel_rfl) t2 with ⟨hcs, _⟩ | ⟨x, l, c, zs, hcs, _, hl, hm, hz, _, hcell, hwz⟩
        · simp at hcs
          exact ⟨none, 0, 0, [], hcs, .inl ⟨rfl, rfl, rfl, rfl⟩⟩
        · simp at hcs
          exact ⟨some x, l, c, zs, hcs, .inr ⟨_, rfl, hl, hm, by simpa using hz, hcell, hwz⟩⟩
      obtain ⟨KA, kn, km, B, rfl, hk⟩ : ∃ KA kn km B, q3 = .slice KA kn km ∧ IsBits w KA kn km B := by
        rcases Go.Deep.open_bools Try.underlying32 Try.underlying4 (by kernel_rfl) t3 with ⟨hcs, _⟩ | ⟨x, l, c, B, hcs, _, hl, hm, _, hcell⟩
        · simp at hcs
          exact ⟨none, 0, 0, fun _ => false, hcs, .inl ⟨rfl, rfl, rfl⟩⟩
        · simp at hcs
          exact ⟨some x, l, c, B, hcs, .inr ⟨_, rfl, hl, hm, hcell⟩⟩
      refine act_at (op := op) (I := I) ?_ g1 g2 g3 hx hk
      simpa [Addr.add] using g0
theorem plays_all (w : World) (a0 : Int) (a1 : Option Addr) (len1 cap1 : Nat) (w1 : IsActs w a1 len1 cap1) : Calls Try.prog 3 #[.int .i64 a0, .slice a1 len1 cap1] w (YesP w) := by
  by_cases hc : 40 < len1 ∨ (64 < a0 ∧ a0 ≤ 1024)
  · exact Try.plays_cut w a0 a1 len1 cap1 hc
  · by_cases hb : a0 < 4 ∨ 1024 < a0
    · exact Try.plays_none w a0 a1 len1 cap1 (by omega) hb
    · obtain ⟨k, rfl⟩ : ∃ k : Nat, a0 = k := ⟨a0.toNat, by omega⟩
      refine Try.plays w k (by omega) (by omega) a1 len1 cap1 (by omega) ?_
      rcases w1 with ⟨_, rfl, _⟩ | ⟨x, rfl, h1, h2, h3⟩
      · intro i hi; omega
      · exact fun i hi => ⟨x, rfl, h3 i hi⟩
end Go.Proofs
