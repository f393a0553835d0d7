/-
  Pages: how many blocks, what stands in them.
-/
import Derived.Test.YtbfeilpjkcmfhaaN1Sp5
set_option linter.unusedVariables false
namespace Sp
open Go Go.AbsM
def psz (n : Int) : Int := if n < 0 ∨ 8192 < n then 0 else (4 + (enc n).length + n + 63) / 64
def padn (n : Nat) : Nat := (64 - (4 + n) % 64) % 64
def padd (x : List Int) : List Int := x ++ List.replicate (padn x.length) 0
def page (b : List Int) : List Int := padd (enc b.length ++ b)
def wrap (b : List Int) : List Int := four (sum (page b)) ++ page b
def zeros (l : List Int) : Bool := l.all fun x => decide (x = 0)
/-- What a page tells, or 12. -/
def unwB (b : List Int) : Bool :=
  decide (b.length ≠ 0 ∧ b.length % 64 = 0 ∧ sum (b.drop 4) = (get4 b 0).1 ∧ (get (b.drop 4) 0).2.2 = 0 ∧ (get (b.drop 4) 0).1 ≤ 8192 ∧ psz (get (b.drop 4) 0).1 * 64 = b.length) && zeros ((b.drop 4).drop ((get (b.drop 4) 0).2.1 + (get (b.drop 4) 0).1).toNat)
def unwD (b : List Int) : List Int := ((b.drop 4).take ((get (b.drop 4) 0).2.1 + (get (b.drop 4) 0).1).toNat).drop (get (b.drop 4) 0).2.1.toNat
end Sp
namespace Sp
open Go Go.AbsM
theorem lay1 {E R : List Int} (h : E.length ≤ R.length) : W.app (W.take (W.nmin (W.len E) (W.len R)) E) (W.drop (W.nmin (W.len E) (W.len R)) R) = E ++ R.drop E.length := by
  have e : W.nmin (W.len E) (W.len R) = E.length := Nat.min_eq_left h
  rw [e]
  show E.take E.length ++ R.drop E.length = _
  rw [List.take_length]
theorem lay2 {E T b : List Int} (h : b.length ≤ T.length) : W.app (W.take (W.toNat (W.ofNat (W.len E))) (E ++ T)) (W.app (W.take (W.nmin (W.len b) (W.nsub (W.len (E ++ T)) (W.toNat (W.ofNat (W.len E))))) b) (W.drop (W.nadd (W.toNat (W.ofNat (W.len E))) (W.nmin (W.len b) (W.nsub (W.len (E ++ T)) (W.toNat (W.ofNat (W.len E)))))) (E ++ T))) = E ++ (b ++ T.drop b.length) := by
  have e0 : W.toNat (W.ofNat (W.len E)) = E.length := Int.toNat_natCast _
  have e1 : W.nsub (W.len (E ++ T)) E.length = T.length := by show (E ++ T).length - E.length = _; simp
  rw [e0, e1]
  have e2 : W.nmin (W.len b) T.length = b.length := Nat.min_eq_left h
  rw [e2]
  show (E ++ T).take E.length ++ (b.take b.length ++ (E ++ T).drop (E.length + b.length)) = _
  rw [List.take_left, List.take_length, List.drop_append, List.drop_eq_nil_of_le (by omega), Nat.add_sub_cancel_left, List.nil_append]
theorem psz_in {n : Int} (h : ¬ (n < 0 ∨ 8192 < n)) : psz n = (4 + (enc n).length + n + 63) / 64 := if_neg h
theorem psz_out {n : Int} (h : n < 0 ∨ 8192 < n) : psz n = 0 := if_pos h
theorem page_len {b : List Int} (h : b.length ≤ 8192) : ((page b).length : Int) = psz b.length * 64 - 4 := by
  rw [psz_in (by omega)]
  simp only [page, padd, padn, List.length_append, List.length_replicate]
  omega
theorem page_bytes {b : List Int} (hb : bytes b) : bytes (page b) := by
  refine bytes_app (bytes_app (enc_bytes _) hb) fun x hx => ?_
  rw [(List.mem_replicate.1 hx).2]; omega
/-- What the program lays is a page. -/
theorem page_laid {b : List Int} (h : b.length ≤ 8192) : enc b.length ++ (b ++ (List.replicate ((psz b.length * 64 - 4).toNat - (enc b.length).length) (0 : Int)).drop b.length) = page b := by
  rw [psz_in (by omega), page, padd, padn, List.drop_replicate, ← List.append_assoc]
  congr 2
  simp only [List.length_append]
  omega
theorem psz_le {n : Int} (h0 : -9223372036854775808 ≤ n) (h1 : n < 9223372036854775808) : 0 ≤ psz n ∧ psz n ≤ 129 := by
  by_cases h : n < 0 ∨ 8192 < n
  · rw [psz_out h]; omega
  · rw [psz_in h]
    have := enc_len (u := n) (by omega) (by omega)
    omega
end Sp
namespace Sp
open Go Go.AbsM
theorem zeros_step {t : List Int} {k : Nat} (h : k < t.length) : zeros (t.drop k) = (decide (t.getD k 0 = 0) && zeros (t.drop (k + 1))) := by
  rw [List.drop_eq_getElem_cons h, List.getD_eq_getElem?_getD, List.getElem?_eq_getElem h]
  rfl
theorem zeros_end {t : List Int} {k : Nat} (h : t.length ≤ k) : zeros (t.drop k) = true := by
  rw [List.drop_eq_nil_of_le h]; rfl
theorem getF_drop {b : List Int} {p : Nat} (hp : p ≤ b.length) : ∀ (k : Nat) (a : Nat) (n u : Int), 0 ≤ n → getF b (p + a) k n u = getF (b.drop p) a k n u
  | 0, a, n, u, _ => rfl
  | k + 1, a, n, u, h => by
    have e1 : (b.drop p).getD (a + n.toNat) 0 = b.getD (p + a + n.toNat) 0 := by
      rw [List.getD_eq_getElem?_getD, List.getD_eq_getElem?_getD, List.getElem?_drop, Nat.add_assoc]
    have e2 : ((p + a : Nat) : Int) + n = b.length ↔ (a : Int) + n = (b.drop p).length := by
      rw [List.length_drop]; omega
    simp only [getF, e1]
    by_cases hc : ((p + a : Nat) : Int) + n = b.length
    · rw [if_pos hc, if_pos (e2.1 hc)]
    · rw [if_neg hc, if_neg (fun h => hc (e2.2 h)), getF_drop hp k a (n + 1) _ (by omega)]
theorem get_drop {b : List Int} (h : 4 ≤ b.length) : get b 4 = get (b.drop 4) 0 := by
  rw [get_in (by omega) (by omega), get_in (by omega) (by omega)]
  exact getF_drop (p := 4) h 10 0 0 0 (by omega)
theorem unwB_eq {b : List Int} {u n e : Int} (h : get (b.drop 4) 0 = (u, n, e)) : unwB b = (decide (b.length ≠ 0 ∧ b.length % 64 = 0 ∧ sum (b.drop 4) = (get4 b 0).1 ∧ e = 0 ∧ u ≤ 8192 ∧ psz u * 64 = b.length) && zeros ((b.drop 4).drop (n + u).toNat)) := by
  unfold unwB; rw [h]
theorem unwD_eq {b : List Int} {u n e : Int} (h : get (b.drop 4) 0 = (u, n, e)) : unwD b = ((b.drop 4).take (n + u).toNat).drop n.toNat := by
  unfold unwD; rw [h]
theorem unwB_no {b : List Int} (h : ¬ (b.length ≠ 0 ∧ b.length % 64 = 0 ∧ sum (b.drop 4) = (get4 b 0).1 ∧ (get (b.drop 4) 0).2.2 = 0 ∧ (get (b.drop 4) 0).1 ≤ 8192 ∧ psz (get (b.drop 4) 0).1 * 64 = b.length)) : unwB b = false := by
  unfold unwB; rw [decide_eq_false h]; rfl
/-- What is read first fits. -/
theorem unw_fit {b : List Int} (hb : bytes b) {u n : Int} (h : get (b.drop 4) 0 = (u, n, 0)) (h1 : u ≤ 8192) (h2 : psz u * 64 = b.length) (h4 : 4 ≤ b.length) : 0 ≤ u ∧ 0 ≤ n ∧ n + u ≤ (b.drop 4).length ∧ enc u = (b.drop 4).take n.toNat ∧ (enc u).length = n := by
  obtain ⟨q1, q2, _, q4, q5, q6⟩ := get_ok (fun x hx => hb x (List.mem_of_mem_drop hx)) h
  have q6' : enc u = (b.drop 4).take n.toNat := by rw [q6]; rfl
  have hlen : ((enc u).length : Int) = n := by
    rw [q6', List.length_take]; omega
  rw [psz_in (by omega)] at h2
  rw [List.length_drop] at q5 ⊢
  exact ⟨q1, q4, by omega, q6', hlen⟩
theorem take_drop4 {b : List Int} (n m : Nat) : (b.take (4 + m)).drop (4 + n) = ((b.drop 4).take m).drop n := by
  rw [List.take_drop, List.drop_drop]
theorem drop4 {b : List Int} (n : Nat) : (b.drop 4).drop n = b.drop (4 + n) := by rw [List.drop_drop]
end Sp
