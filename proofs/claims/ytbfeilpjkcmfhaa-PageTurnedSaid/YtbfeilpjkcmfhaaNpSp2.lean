/-
  Pages: there and back; one byte turned.
-/
import Derived.Test.YtbfeilpjkcmfhaaNpSp
set_option linter.unusedVariables false
namespace Sp
open Go Go.AbsM
theorem get_head {u : Int} {T : List Int} (h0 : 0 ≤ u) (h1 : u < 18446744073709551616) : get (enc u ++ T) 0 = (u, ((enc u).length : Int), 0) := by
  rw [get_in (by omega) (by omega)]
  have := getF_enc (enc u ++ T) 0 u.toNat 0 0 (by omega) (by decide) (fun h => by omega) (by simp only [Nat.pow_zero, Nat.mul_one, Nat.zero_add]; omega) (by simp) (fun j hj1 hj2 => by
    rw [List.getD_eq_getElem?_getD, List.getElem?_append_left (by simp only [Nat.zero_add]; exact hj2), Nat.zero_add, ← List.getD_eq_getElem?_getD]; rfl)
  simp only [Nat.pow_zero, Nat.mul_one, Nat.zero_add, Nat.add_zero] at this
  have e3 : ((u.toNat : Nat) : Int) = u := Int.toNat_of_nonneg h0
  rw [e3] at this
  have e4 : (encN u.toNat).length ≤ (enc u ++ T).length := by
    rw [List.length_append]; show _ ≤ (encN u.toNat).length + _; omega
  rw [if_pos e4] at this
  exact this
theorem e4_sum {b : List Int} (hb : bytes b) : e4 b 0 = b.getD 0 0 + b.getD 1 0 * 256 + b.getD 2 0 * 65536 + b.getD 3 0 * 16777216 := by
  have q0 := bytes_get hb 0
  have q1 := bytes_get hb 1
  have q2 := bytes_get hb 2
  have q3 := bytes_get hb 3
  have t0 : (0 : Int).toNat = 0 := rfl
  have t1 : ((0 : Int) + 1).toNat = 1 := rfl
  have t2 : ((0 : Int) + 2).toNat = 2 := rfl
  have t3 : ((0 : Int) + 3).toNat = 3 := rfl
  unfold e4
  rw [t0, t1, t2, t3, W.wu32_in (a := b.getD 0 0) q0.1 (by omega), W.wu32_in (a := b.getD 1 0) q1.1 (by omega), W.wu32_in (a := b.getD 2 0) q2.1 (by omega), W.wu32_in (a := b.getD 3 0) q3.1 (by omega)]
  rw [or_u32 8 q0.1 (by omega) q1.1 (by omega) (by omega) 8 rfl (by omega)]
  rw [or_u32 16 (by omega) (by omega) q2.1 (by omega) (by omega) 16 rfl (by omega)]
  rw [or_u32 24 (by omega) (by omega) q3.1 (by omega) (by omega) 24 rfl (by omega)]
  omega
theorem four_e4 {b : List Int} (hb : bytes b) (hl : 4 ≤ b.length) : four (e4 b 0) = b.take 4 := by
  rw [e4_sum hb]
  have q0 := bytes_get hb 0
  have q1 := bytes_get hb 1
  have q2 := bytes_get hb 2
  have q3 := bytes_get hb 3
  match b, hl with
  | x0 :: x1 :: x2 :: x3 :: r, _ =>
    simp only [List.getD_cons_zero, List.getD_cons_succ] at q0 q1 q2 q3 ⊢
    simp only [four, List.take_succ_cons, List.take_zero]
    have h1 : (x0 + x1 * 256 + x2 * 65536 + x3 * 16777216) % 256 = x0 := by omega
    have h2 : (x0 + x1 * 256 + x2 * 65536 + x3 * 16777216) / 256 % 256 = x1 := by omega
    have h3 : (x0 + x1 * 256 + x2 * 65536 + x3 * 16777216) / 65536 % 256 = x2 := by omega
    have h4 : (x0 + x1 * 256 + x2 * 65536 + x3 * 16777216) / 16777216 % 256 = x3 := by omega
    rw [h1, h2, h3, h4]
theorem e4_four {n : Int} {P : List Int} (h0 : 0 ≤ n) (h1 : n < 4294967296) (hP : bytes P) : e4 (four n ++ P) 0 = n := by
  rw [e4_sum (bytes_app (four_bytes n) hP)]
  simp only [four, List.cons_append, List.getD_cons_zero, List.getD_cons_succ]
  omega
theorem zeros_rep {l : List Int} (h : zeros l = true) : l = List.replicate l.length 0 := by
  refine List.eq_replicate_iff.2 ⟨rfl, fun x hx => ?_⟩
  exact of_decide_eq_true (List.all_eq_true.1 h x hx)
theorem rep_zeros (n : Nat) : zeros (List.replicate n (0 : Int)) = true := List.all_eq_true.2 fun x hx => by rw [(List.mem_replicate.1 hx).2]; rfl
theorem wrap_bytes {b : List Int} (hb : bytes b) : bytes (wrap b) := bytes_app (four_bytes _) (page_bytes hb)
theorem wrap_len {b : List Int} (h : b.length ≤ 8192) : ((wrap b).length : Int) = psz b.length * 64 := by
  have := page_len h
  simp only [wrap, four, List.length_append, List.length_cons, List.length_nil]
  omega
theorem wrap_drop (b : List Int) : (wrap b).drop 4 = page b := rfl
theorem page_get {b : List Int} (h : b.length ≤ 8192) : get (page b) 0 = ((b.length : Int), ((enc b.length).length : Int), 0) := by
  unfold page padd
  rw [List.append_assoc]
  exact get_head (by omega) (by omega)
theorem page_tail (b : List Int) : (page b).drop ((enc b.length).length + b.length) = List.replicate (padn (enc b.length ++ b).length) 0 := by
  unfold page padd
  rw [← List.length_append, List.drop_left]
theorem unwB_wrap {b : List Int} (hb : bytes b) (h : b.length ≤ 8192) : unwB (wrap b) = true := by
  have hg : get ((wrap b).drop 4) 0 = ((b.length : Int), ((enc b.length).length : Int), 0) := page_get h
  have hs := sum_in (page_bytes hb)
  have hp := psz_in (n := (b.length : Int)) (by omega)
  have hl := wrap_len h
  have h4 : (get4 (wrap b) 0).1 = sum (page b) := by
    rw [get4_in (by omega) (by omega)]
    exact e4_four hs.1 hs.2 (page_bytes hb)
  have ht : ((wrap b).drop 4).drop (((enc b.length).length : Int) + (b.length : Int)).toNat = List.replicate (padn (enc b.length ++ b).length) 0 := by
    have e : (((enc b.length).length : Int) + (b.length : Int)).toNat = (enc b.length).length + b.length := by omega
    rw [e, wrap_drop, page_tail]
  rw [unwB_eq hg, ht, rep_zeros, Bool.and_true]
  exact decide_eq_true ⟨by omega, by omega, by rw [h4, wrap_drop], rfl, by omega, by omega⟩
theorem unwD_wrap {b : List Int} (h : b.length ≤ 8192) : unwD (wrap b) = b := by
  have hg : get ((wrap b).drop 4) 0 = ((b.length : Int), ((enc b.length).length : Int), 0) := page_get h
  rw [unwD_eq hg]
  have e : (((enc b.length).length : Int) + (b.length : Int)).toNat = (enc b.length ++ b).length := by rw [List.length_append]; omega
  have e2 : (((enc b.length).length : Int)).toNat = (enc b.length).length := Int.toNat_natCast _
  rw [e, e2, wrap_drop]
  unfold page padd
  rw [List.take_left, List.drop_left]
theorem unw_facts {b : List Int} (h : unwB b = true) : ∃ u n : Int, get (b.drop 4) 0 = (u, n, 0) ∧ b.length ≠ 0 ∧ b.length % 64 = 0 ∧ sum (b.drop 4) = (get4 b 0).1 ∧ u ≤ 8192 ∧ psz u * 64 = b.length ∧ zeros ((b.drop 4).drop (n + u).toNat) = true := by
  rcases hg : get (b.drop 4) 0 with ⟨u, n, e⟩
  rw [unwB_eq hg] at h
  simp only [Bool.and_eq_true, decide_eq_true_eq] at h
  obtain ⟨⟨h1, h2, h3, rfl, h5, h6⟩, h7⟩ := h
  exact ⟨u, n, rfl, h1, h2, h3, h5, h6, h7⟩
theorem unwD_len {b : List Int} (hb : bytes b) (h : unwB b = true) : (unwD b).length ≤ 8192 ∧ bytes (unwD b) ∧ (unwD b).length ≤ b.length := by
  obtain ⟨u, n, hg, h1, h2, h3, h5, h6, h7⟩ := unw_facts h
  obtain ⟨q1, q2, q3, _, _⟩ := unw_fit hb hg h5 h6 (by omega)
  rw [unwD_eq hg]
  refine ⟨?_, fun x hx => hb x (List.mem_of_mem_drop (List.mem_of_mem_take (List.mem_of_mem_drop hx))), ?_⟩
  · rw [List.length_drop, List.length_take]; omega
  · rw [List.length_drop, List.length_take, List.length_drop]; omega
theorem wrap_unw {b : List Int} (hb : bytes b) (h : unwB b = true) : wrap (unwD b) = b := by
  obtain ⟨u, n, hg, h1, h2, h3, h5, h6, h7⟩ := unw_facts h
  obtain ⟨q1, q2, q3, q4, q5⟩ := unw_fit hb hg h5 h6 (by omega)
  have hD := unwD_eq hg
  have hlen : (((unwD b).length : Nat) : Int) = u := by rw [hD, List.length_drop, List.length_take]; omega
  have hcat : enc (unwD b).length ++ unwD b = (b.drop 4).take (n + u).toNat := by
    rw [hlen, q4, hD]
    have e : (b.drop 4).take n.toNat = ((b.drop 4).take (n + u).toNat).take n.toNat := by
      rw [List.take_take]; congr 1; omega
    rw [e, List.take_append_drop]
  have hpage : page (unwD b) = b.drop 4 := by
    unfold page padd
    rw [hcat]
    conv => rhs; rw [← List.take_append_drop (n + u).toNat (b.drop 4)]
    congr 1
    rw [zeros_rep h7]
    congr 1
    have hl4 : (b.drop 4).length = b.length - 4 := List.length_drop
    have hp := psz_in (n := u) (by omega)
    have hld : ((b.drop 4).drop (n + u).toNat).length = (b.drop 4).length - (n + u).toNat := List.length_drop
    unfold padn
    rw [List.length_take, hld, hl4]
    omega
  unfold wrap
  rw [hpage, h3, get4_in (by omega) (by omega)]
  show four (e4 b 0) ++ _ = _
  rw [four_e4 hb (by omega), List.take_append_drop]
theorem unwB_set {b : List Int} {i : Nat} {y : Int} (hb : bytes b) (h : b.length ≤ 8192) (hi : i < (wrap b).length) (h0 : 0 ≤ y) (h1 : y < 256) (hne : y ≠ (wrap b).getD i 0) : unwB ((wrap b).set i y) = false := by
  have hwb := wrap_bytes hb
  have hwl := wrap_len h
  have hp := psz_in (n := (b.length : Int)) (by omega)
  have hs := sum_in (page_bytes hb)
  have hsb := bytes_set (i := i) hwb h0 h1
  refine unwB_no fun hh => ?_
  have h3 := hh.2.2.1
  rw [get4_in (b := (wrap b).set i y) (by omega) (by rw [List.length_set]; omega)] at h3
  have h3 : sum (((wrap b).set i y).drop 4) = e4 ((wrap b).set i y) 0 := h3
  have he : e4 (wrap b) 0 = sum (page b) := e4_four hs.1 hs.2 (page_bytes hb)
  by_cases hlt : i < 4
  · have hd : ((wrap b).set i y).drop 4 = page b := by rw [List.drop_set_of_lt hlt]; rfl
    rw [hd, ← he] at h3
    have f1 := four_e4 hsb (by rw [List.length_set]; omega)
    rw [← h3, four_e4 hwb (by omega)] at f1
    have := congrArg (fun l : List Int => l.getD i 0) f1
    simp only [List.getD_eq_getElem?_getD, List.getElem?_take, if_pos hlt, List.getElem?_set_self hi, Option.getD_some] at this
    rw [← List.getD_eq_getElem?_getD] at this
    exact hne this.symm
  · have hd : ((wrap b).set i y).drop 4 = (page b).set (i - 4) y := by
      rw [List.drop_set, if_neg hlt]; rfl
    have he' : e4 ((wrap b).set i y) 0 = e4 (wrap b) 0 := by
      rw [e4_sum hsb, e4_sum hwb]
      have g : ∀ j, j < 4 → ((wrap b).set i y).getD j 0 = (wrap b).getD j 0 := fun j hj => by
        rw [List.getD_eq_getElem?_getD, List.getElem?_set_ne (by omega), ← List.getD_eq_getElem?_getD]
      rw [g 0 (by omega), g 1 (by omega), g 2 (by omega), g 3 (by omega)]
    rw [hd, he', he] at h3
    have hg : (wrap b).getD i 0 = (page b).getD (i - 4) 0 := by
      rw [← wrap_drop, List.getD_eq_getElem?_getD, List.getD_eq_getElem?_getD, List.getElem?_drop]
      congr 2; omega
    have hpl := page_len h
    exact sum_set (page_bytes hb) h0 h1 (by omega) (by rw [← hg]; exact hne) h3
end Sp
