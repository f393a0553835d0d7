/-
  Texts of a proof over the translated program: proved evaluators and walks, part 1 of 14.
-/
import Derived.Below
import Derived.Laws.Closers25b
set_option linter.unusedVariables false
set_option linter.unusedSimpArgs false
set_option linter.unusedSectionVars false
set_option linter.unnecessarySimpa false
section
namespace Go.Proofs
open Go.RowKit
def gadd (n c : Nat) (u : Int) : Int := bits .or .u64 u (IntKind.u64.wrap ((c : Int) % 128 * 2 ^ (7 * n)))
theorem gadd_in (n c : Nat) (u : Int) : 0 ≤ gadd n c u ∧ gadd n c u < 18446744073709551616 := by
  have h1 := bits_lo_u64 .or u (IntKind.u64.wrap ((c : Int) % 128 * 2 ^ (7 * n)))
  have h2 := bits_hi_u64 .or u (IntKind.u64.wrap ((c : Int) % 128 * 2 ^ (7 * n)))
  unfold gadd
  omega
def getF (l : List UInt8) (a : Nat) : Nat → Nat → Int → Int × Nat × Int
  | 0, _, _ => (0, 0, 2)
  | f + 1, n, u =>
    match l[a + n]? with
    | none => (0, 0, 5)
    | some c => if (n = 9 ∧ 1 < c.toNat) ∨ (0 < n ∧ c.toNat = 0) then (0, 0, 2) else if c.toNat < 128 then (gadd n c.toNat u, n + 1, 0) else getF l a f (n + 1) (gadd n c.toNat u)
def getN (l : List UInt8) (a : Nat) : Int × Nat × Int := getF l a 10 0 0
structure GetOk (l : List UInt8) (a : Nat) (r : Int × Nat × Int) : Prop where
  ok : r.2.2 = 0 → 0 ≤ r.1 ∧ r.1 < 18446744073709551616 ∧ a + r.2.1 ≤ l.length ∧ 1 ≤ r.2.1 ∧ r.2.1 ≤ 10
  no : r.2.2 ≠ 0 → r.1 = 0 ∧ r.2.1 = 0
  e : r.2.2 = 0 ∨ r.2.2 = 2 ∨ r.2.2 = 5
theorem getF_ok (l : List UInt8) (a : Nat) : ∀ f n u, n + f ≤ 10 → GetOk l a (getF l a f n u)
  | 0, n, u, h => ⟨fun h => by simp [getF] at h, fun _ => ⟨rfl, rfl⟩, .inr (.inl rfl)⟩
  | f + 1, n, u, h => by
    unfold getF
    cases hc : l[a + n]? with
    | none => exact ⟨fun h => by simp at h, fun _ => ⟨rfl, rfl⟩, .inr (.inr rfl)⟩
    | some c =>
      have hlt : a + n < l.length := (List.getElem?_eq_some_iff.1 hc).1
      simp only
      split
      · exact ⟨fun h => by simp at h, fun _ => ⟨rfl, rfl⟩, .inr (.inl rfl)⟩
      · split
        · have := gadd_in n c.toNat u
          exact ⟨fun _ => ⟨this.1, this.2, by simp only; omega, by simp only; omega, by simp only; omega⟩, fun h => absurd rfl h, .inl rfl⟩
        · exact getF_ok l a f (n + 1) _ (by omega)
theorem getN_ok (l : List UInt8) (a : Nat) : GetOk l a (getN l a) := getF_ok l a 10 0 0 (by omega)
def rnum (l : List UInt8) (p : Nat) (e : Int) : Int × Nat × Int :=
  if e = 0 then (if (getN l p).2.2 = 0 then ((getN l p).1, p + (getN l p).2.1, 0) else (0, p, (getN l p).2.2)) else (0, p, e)
def rtext (l : List UInt8) (p : Nat) (e u : Int) : List UInt8 × Nat × Int :=
  if e = 0 then (if u ≤ (l.length : Int) - p then ((l.drop p).take u.toNat, p + u.toNat, 0) else ([], p, 5)) else ([], p, e)
def rbyte (l : List UInt8) (p : Nat) (e : Int) : Int × Nat × Int :=
  if e = 0 then (match l[p]? with | some c => ((c.toNat : Int), p + 1, 0) | none => (0, p, 5)) else (0, p, e)
def gword (l : List UInt8) (p : Nat) : List UInt8 × Nat × Int :=
  if (getN l p).2.2 = 0 then (if (getN l p).1 ≤ (l.length : Int) - (p + (getN l p).2.1 : Nat) then ((l.drop (p + (getN l p).2.1)).take (getN l p).1.toNat, (getN l p).2.1 + (getN l p).1.toNat, 0) else ([], 0, 5)) else ([], 0, (getN l p).2.2)
structure CSt where
  p : Nat
  e : Int
  cs : List (List UInt8 × Int)
def cstep (l : List UInt8) (s : CSt) : CSt :=
  let a := rnum l s.p s.e
  let b := rtext l a.2.1 a.2.2 a.1
  let c := rbyte l b.2.1 b.2.2
  ⟨c.2.1, c.2.2, s.cs ++ [(b.1, c.1)]⟩
def citer (l : List UInt8) (p : Nat) : Nat → CSt
  | 0 => ⟨p, 0, []⟩
  | i + 1 => cstep l (citer l p i)
theorem cstep_len (l : List UInt8) (s : CSt) : (cstep l s).cs.length = s.cs.length + 1 := by simp [cstep]
theorem citer_len (l : List UInt8) (p : Nat) : ∀ i, (citer l p i).cs.length = i
  | 0 => rfl
  | i + 1 => by rw [citer, cstep_len, citer_len l p i]
theorem rnum_in (l : List UInt8) (p : Nat) (e : Int) (hp : p ≤ l.length) : 0 ≤ (rnum l p e).1 ∧ (rnum l p e).1 < 18446744073709551616 ∧ (rnum l p e).2.1 ≤ l.length := by
  have h := getN_ok l p
  unfold rnum
  split
  · split
    · rename_i h0
      have := h.ok h0
      exact ⟨this.1, this.2.1, this.2.2.1⟩
    · exact ⟨by simp, by simp, hp⟩
  · exact ⟨by simp, by simp, hp⟩
theorem rtext_in (l : List UInt8) (p : Nat) (e u : Int) (hp : p ≤ l.length) (hu : 0 ≤ u) : (rtext l p e u).2.1 ≤ l.length := by
  unfold rtext
  split
  · split
    · simp only; omega
    · exact hp
  · exact hp
theorem rbyte_in (l : List UInt8) (p : Nat) (e : Int) (hp : p ≤ l.length) : (rbyte l p e).2.1 ≤ l.length ∧ 0 ≤ (rbyte l p e).1 ∧ (rbyte l p e).1 < 256 := by
  unfold rbyte
  split
  · cases hc : l[p]? with
    | none => exact ⟨hp, by simp, by simp⟩
    | some c =>
      have := (List.getElem?_eq_some_iff.1 hc).1
      have := c.toNat_lt
      exact ⟨by simp only; omega, by simp only; omega, by simp only; omega⟩
  · exact ⟨hp, by simp, by simp⟩
def isName (s : List UInt8) : Bool := decide (1 ≤ s.length) && decide (s.length ≤ 8) && s.all (fun c => decide (97 ≤ c.toNat) && decide (c.toNat ≤ 122))
def chkAt (cs : List (List UInt8 × Int)) (i : Nat) : Int :=
  if isName (cs.getD i ([], 0)).1 = true then (if (cs.getD i ([], 0)).1 ∈ (cs.take i).map Prod.fst then 7 else if 1 ≤ (cs.getD i ([], 0)).2 ∧ (cs.getD i ([], 0)).2 ≤ 3 then 0 else 6) else 3
def chkTo (cs : List (List UInt8 × Int)) : Nat → Int
  | 0 => 0
  | i + 1 => if chkTo cs i = 0 then chkAt cs i else chkTo cs i
theorem chkTo_bad (cs : List (List UInt8 × Int)) (i : Nat) (h : chkTo cs i ≠ 0) : ∀ k, chkTo cs (i + k) = chkTo cs i
  | 0 => rfl
  | k + 1 => by
    have ih := chkTo_bad cs i h k
    have e : chkTo cs (i + (k + 1)) = if chkTo cs (i + k) = 0 then chkAt cs (i + k) else chkTo cs (i + k) := rfl
    rw [e, if_neg (by rw [ih]; exact h), ih]
def chk (cs : List (List UInt8 × Int)) : Int := if 1 ≤ cs.length ∧ cs.length ≤ 8 then chkTo cs cs.length else 4
theorem chkTo_end (cs : List (List UInt8 × Int)) (i : Nat) (hi : i < cs.length) (h0 : chkTo cs i = 0) (h : chkAt cs i ≠ 0) (hl : 1 ≤ cs.length ∧ cs.length ≤ 8) : chk cs = chkAt cs i := by
  unfold chk
  rw [if_pos hl]
  have e : chkTo cs (i + 1) = chkAt cs i := by rw [chkTo, if_pos h0]
  have := chkTo_bad cs (i + 1) (by rw [e]; exact h) (cs.length - (i + 1))
  rw [show i + 1 + (cs.length - (i + 1)) = cs.length by omega] at this
  rw [this, e]
def sgetE (l : List UInt8) (a : Int) : Int :=
  if 0 ≤ a ∧ a ≤ l.length then
    (if (rnum l a.toNat 0).2.2 = 0 then
      (if 1 ≤ (rnum l a.toNat 0).1 ∧ (rnum l a.toNat 0).1 ≤ 8 then
        (if (citer l (rnum l a.toNat 0).2.1 (rnum l a.toNat 0).1.toNat).e = 0 then chk (citer l (rnum l a.toNat 0).2.1 (rnum l a.toNat 0).1.toNat).cs else (citer l (rnum l a.toNat 0).2.1 (rnum l a.toNat 0).1.toNat).e)
       else 4)
     else (rnum l a.toNat 0).2.2)
  else 1
def sgetC (l : List UInt8) (a : Int) : List (List UInt8 × Int) := if sgetE l a = 0 then (citer l (rnum l a.toNat 0).2.1 (rnum l a.toNat 0).1.toNat).cs else []
def sgetN (l : List UInt8) (a : Int) : Int := if sgetE l a = 0 then ((citer l (rnum l a.toNat 0).2.1 (rnum l a.toNat 0).1.toNat).p : Int) - a else 0
end Go.Proofs
end
