/-
  Texts of a proof over the translated program: NeSp2.
-/
import Derived.Test.YtpohkoijbocpcaaNeExt2Nf
set_option linter.unusedVariables false
namespace Sp
open Go Go.AbsM
theorem ext_getD {a b : List Bool} (hl : a.length = b.length) (h : ∀ i, i < a.length → a.getD i false = b.getD i false) : a = b := by
  refine List.ext_getElem hl fun i h1 h2 => ?_
  have := h i h1
  rwa [List.getD_eq_getElem?_getD, List.getD_eq_getElem?_getD, List.getElem?_eq_getElem h1, List.getElem?_eq_getElem h2] at this
theorem mark_len (e : Int) (l : List Rm) : (mark e l).length = 1024 := by simp [mark]
theorem mark_get {e : Int} {l : List Rm} {i : Nat} (h : i < 1024) : (mark e l).getD i false = tk e l i := by
  rw [List.getD_eq_getElem?_getD, mark, List.getElem?_map, List.getElem?_range h]; rfl
theorem fill_len : ∀ (n : Nat) (t : List Bool) (a : Nat), (fill t a n).length = t.length
  | 0, t, a => rfl
  | n + 1, t, a => by rw [fill, fill_len n]; simp
theorem fill_get : ∀ (n : Nat) (t : List Bool) (a i : Nat), (fill t a n).getD i false = (decide (a ≤ i ∧ i < a + n ∧ i < t.length) || t.getD i false)
  | 0, t, a, i => by
    have : ¬ (a ≤ i ∧ i < a + 0 ∧ i < t.length) := by omega
    rw [decide_eq_false this]; rfl
  | n + 1, t, a, i => by
    rw [fill, fill_get n]
    rw [List.length_set]
    by_cases hi : a = i
    · subst hi
      by_cases hl : a < t.length
      · have e1 : (t.set a true).getD a false = true := by
          rw [List.getD_eq_getElem?_getD, List.getElem?_set_self hl]; rfl
        rw [e1, decide_eq_true (p := a ≤ a ∧ a < a + (n + 1) ∧ a < t.length) ⟨Nat.le_refl _, by omega, hl⟩]; simp
      · have e1 : (t.set a true).getD a false = t.getD a false := by
          rw [List.set_eq_of_length_le (by omega)]
        rw [e1]
        congr 1
        exact bool_dec (by omega)
    · have e1 : (t.set a true).getD i false = t.getD i false := by
        rw [List.getD_eq_getElem?_getD, List.getElem?_set_ne hi, List.getD_eq_getElem?_getD]
      rw [e1]
      congr 1
      exact bool_dec (by omega)
theorem tk_app (e : Int) (l : List Rm) (u : Rm) (i : Nat) : tk e (l ++ [u]) i = (tk e l i || decide (check u.1 u.2.1 e = 0 ∧ u.1 ≤ i ∧ (i : Int) < u.1 + u.2.1)) := by
  simp [tk]
theorem mark_nil (e : Int) : mark e [] = W.rep 1024 false := by
  refine ext_getD (by rw [mark_len]; exact List.length_replicate.symm) fun i hi => ?_
  rw [mark_len] at hi
  rw [mark_get hi]
  show _ = (List.replicate 1024 false).getD i false
  rw [List.getD_eq_getElem?_getD, List.getElem?_replicate, if_pos hi]; rfl
theorem mark_skip {e : Int} {l : List Rm} {u : Rm} (h : check u.1 u.2.1 e ≠ 0) : mark e (l ++ [u]) = mark e l := by
  unfold mark
  refine List.map_congr_left fun i _ => ?_
  rw [tk_app, decide_eq_false (fun hc => h hc.1), Bool.or_false]
theorem mark_fill {e : Int} {l : List Rm} {u : Rm} (h : check u.1 u.2.1 e = 0) (h1 : 0 ≤ u.1) (h2 : 0 ≤ u.2.1) : fill (mark e l) u.1.toNat u.2.1.toNat = mark e (l ++ [u]) := by
  refine ext_getD (by rw [fill_len, mark_len, mark_len]) fun i hi => ?_
  rw [fill_len, mark_len] at hi
  rw [fill_get, mark_get hi, mark_get hi, tk_app, Bool.or_comm, mark_len]
  congr 1
  refine bool_dec ⟨fun hc => ⟨h, by omega, by omega⟩, fun hc => ⟨by omega, by omega, hi⟩⟩
theorem take_succ {l : List Rm} {k : Nat} (h : k < l.length) : l.take (k + 1) = l.take k ++ [W.nth l k ((0 : Int), (0 : Int), ())] := by
  rw [List.take_add_one, List.getElem?_eq_getElem h]
  simp [W.nth, List.getD_eq_getElem?_getD, List.getElem?_eq_getElem h]
/-! rooms -/
theorem room_end {t : List Bool} {a e : Int} (h : e ≤ a) : room t a e = 0 := by
  unfold room
  have : (e - a).toNat = 0 := by omega
  rw [this]; rfl
theorem room_next {t : List Bool} {a e : Int} (h0 : 0 ≤ a) (h : a < e) (ht : t.getD a.toNat false = false) : room t a e = 1 + room t (a + 1) e := by
  unfold room
  obtain ⟨n, hn⟩ : ∃ n, (e - a).toNat = n + 1 := ⟨(e - a).toNat - 1, by omega⟩
  have h2 : (e - (a + 1)).toNat = n := by omega
  have h3 : (a + 1).toNat = a.toNat + 1 := by omega
  rw [hn, h2, h3, roomN, if_neg (by rw [ht]; decide)]
  omega
theorem room_stop {t : List Bool} {a e : Int} (h : a < e) (ht : t.getD a.toNat false = true) : room t a e = 0 := by
  unfold room
  obtain ⟨n, hn⟩ : ∃ n, (e - a).toNat = n + 1 := ⟨(e - a).toNat - 1, by omega⟩
  rw [hn, roomN, if_pos ht]; rfl
theorem roomN_spec : ∀ (n : Nat) (t : List Bool) (a : Nat), roomN t a n ≤ n ∧ (∀ j, j < roomN t a n → t.getD (a + j) false = false) ∧ (roomN t a n < n → t.getD (a + roomN t a n) false = true)
  | 0, t, a => ⟨Nat.le_refl _, fun j h => by simp [roomN] at h, fun h => by simp [roomN] at h⟩
  | n + 1, t, a => by
    rw [roomN]
    by_cases ht : t.getD a false = true
    · rw [if_pos ht]
      exact ⟨by omega, fun j h => by omega, fun _ => ht⟩
    · rw [if_neg ht]
      obtain ⟨q1, q2, q3⟩ := roomN_spec n t (a + 1)
      refine ⟨by omega, fun j h => ?_, fun h => ?_⟩
      · cases j with
        | zero => simpa using ht
        | succ j =>
          have := q2 j (by omega)
          rw [show a + (j + 1) = a + 1 + j by omega]; exact this
      · have := q3 (by omega)
        rw [show a + (1 + roomN t (a + 1) n) = a + 1 + roomN t (a + 1) n by omega]; exact this
/-! what is free -/
theorem fr_pos {t : List Bool} {k : Nat} (h : t.getD (2 + k) false = true) : fr t (k + 1) = fr t k := by rw [fr, if_pos h]
theorem fr_neg {t : List Bool} {k : Nat} (h : t.getD (2 + k) false = false) : fr t (k + 1) = snoc (2 + k) (fr t k) := by rw [fr, if_neg (by rw [h]; decide)]
theorem snoc_last (j : Nat) (l : List Rm) : ∃ u, (snoc j l).getLast? = some u ∧ u.1 + u.2.1 = j + 1 := by
  unfold snoc
  split
  · rename_i u hu
    split
    · rename_i h
      exact ⟨(u.1, u.2.1 + 1, ()), by simp, by show u.1 + (u.2.1 + 1) = _; omega⟩
    · exact ⟨((j : Int), 1, ()), by simp, rfl⟩
  · exact ⟨((j : Int), 1, ()), by simp, rfl⟩
theorem fr_last {t : List Bool} : ∀ (k : Nat) (u : Rm), (fr t k).getLast? = some u → u.1 + u.2.1 ≤ 2 + k ∧ (u.1 + u.2.1 = 2 + k → 1 ≤ k ∧ t.getD (2 + k - 1) false = false)
  | 0, u, h => by simp [fr] at h
  | k + 1, u, h => by
    cases ht : t.getD (2 + k) false with
    | true =>
      rw [fr_pos ht] at h
      have := (fr_last k u h).1
      exact ⟨by omega, fun h2 => by omega⟩
    | false =>
      rw [fr_neg ht] at h
      obtain ⟨v, h1, h2⟩ := snoc_last (2 + k) (fr t k)
      rw [h1] at h
      simp only [Option.some.injEq] at h; subst h
      exact ⟨by omega, fun _ => ⟨by omega, ht⟩⟩
theorem snoc_new {j : Nat} {l : List Rm} (h : ∀ u, l.getLast? = some u → u.1 + u.2.1 ≠ j) : snoc j l = l ++ [((j : Int), 1, ())] := by
  unfold snoc
  split
  · rename_i u hu
    rw [if_neg (h u hu)]
  · rename_i hn
    rw [List.getLast?_eq_none_iff.1 hn]; rfl
theorem fr_run {t : List Bool} {k : Nat} (hk : k = 0 ∨ t.getD (2 + k - 1) false = true) : ∀ (r : Nat), (∀ j, j < r + 1 → t.getD (2 + k + j) false = false) → fr t (k + (r + 1)) = fr t k ++ [((2 : Int) + k, ((r + 1 : Nat) : Int), ())]
  | 0, h => by
    have h0 := h 0 (by omega)
    rw [Nat.add_zero] at h0
    show fr t (k + 1) = _
    rw [fr_neg h0, snoc_new fun u hu he => ?_]
    · rfl
    · obtain ⟨_, q⟩ := fr_last k u hu
      obtain ⟨q1, q2⟩ := q (by omega)
      rcases hk with hk | hk
      · omega
      · rw [hk] at q2; cases q2
  | r + 1, h => by
    have ih := fr_run hk r fun j hj => h j (by omega)
    have h0 := h (r + 1) (by omega)
    have e : 2 + k + (r + 1) = 2 + (k + (r + 1)) := by omega
    rw [e] at h0
    show fr t ((k + (r + 1)) + 1) = _
    rw [fr_neg h0, ih]
    unfold snoc
    rw [List.getLast?_append, List.getLast?_singleton]
    simp only [Option.some_or]
    rw [if_pos (by show (2 : Int) + k + ((r + 1 : Nat) : Int) = _; omega), List.dropLast_concat]
    congr 2
theorem snoc_len (j : Nat) (l : List Rm) : (snoc j l).length ≤ l.length + 1 := by
  unfold snoc
  split
  · split
    · simp
    · simp
  · simp
theorem fr_len {t : List Bool} : ∀ (k : Nat), (fr t k).length ≤ k
  | 0 => Nat.le_refl _
  | k + 1 => by
    have := fr_len (t := t) k
    rw [fr]
    split
    · omega
    · have := snoc_len (2 + k) (fr t k); omega
theorem frOk_zero (e : Int) (t : List Bool) : frOk e t 2 [] := ⟨0, rfl, by simp [fr], .inl rfl⟩
theorem frOk_len {e a : Int} {t : List Bool} {o : List Rm} (h : frOk e t a o) : (o.length : Int) ≤ a := by
  obtain ⟨k, rfl, rfl, _⟩ := h
  have := fr_len (t := t) (min k (e - 2).toNat)
  omega
theorem frOk_end {e a : Int} {t : List Bool} {o : List Rm} (h : frOk e t a o) (h2 : e ≤ a) : o = fr t (e - 2).toNat := by
  obtain ⟨k, rfl, rfl, _⟩ := h
  rw [Nat.min_eq_right (by omega)]
theorem frOk_step {e a : Int} {t : List Bool} {o : List Rm} (h : frOk e t a o) (h2 : a < e) : (0 < room t a e → frOk e t (a + room t a e + 1) (o ++ [(a, room t a e, ())])) ∧ (room t a e = 0 → frOk e t (a + 1) o) ∧ 0 ≤ room t a e ∧ a + room t a e ≤ e := by
  obtain ⟨k, rfl, rfl, hk⟩ := h
  obtain ⟨E, hE⟩ : ∃ E, (e - 2).toNat = E := ⟨_, rfl⟩
  have hkE : k < E := by omega
  have h1 : (e - (2 + (k : Int))).toNat = E - k := by omega
  have h3 : ((2 : Int) + (k : Int)).toNat = 2 + k := by omega
  have hr : room t (2 + (k : Int)) e = (roomN t (2 + k) (E - k) : Nat) := by unfold room; rw [h1, h3]
  obtain ⟨q1, q2, q3⟩ := roomN_spec (E - k) t (2 + k)
  rw [hr, hE, Nat.min_eq_left (by omega)]
  have hk' : k = 0 ∨ t.getD (2 + k - 1) false = true := by
    rcases hk with hk | hk | hk
    · exact .inl hk
    · omega
    · exact .inr hk
  generalize roomN t (2 + k) (E - k) = r at q1 q2 q3 ⊢
  refine ⟨fun hp => ⟨k + r + 1, by omega, ?_, ?_⟩, fun hz => ⟨k + 1, by omega, ?_, ?_⟩, by omega, by omega⟩
  · obtain ⟨s, rfl⟩ : ∃ s, r = s + 1 := ⟨r - 1, by omega⟩
    have hrun := fr_run hk' s q2
    rw [hE, ← hrun]
    by_cases hlt : s + 1 < E - k
    · have ht := q3 hlt
      rw [Nat.min_eq_left (by omega), fr_pos (by rw [← ht]; congr 1; omega)]
    · rw [Nat.min_eq_right (by omega)]
      congr 1; omega
  · rw [hE]
    by_cases hlt : r < E - k
    · have ht := q3 hlt
      exact .inr (.inr (by rw [← ht]; congr 1; omega))
    · exact .inr (.inl (by omega))
  · have hz : r = 0 := by omega
    subst hz
    have ht := q3 (by omega)
    rw [hE, Nat.min_eq_left (by omega), fr_pos ht]
  · have hz : r = 0 := by omega
    subst hz
    have ht := q3 (by omega)
    exact .inr (.inr (by rw [← ht]; congr 1))
theorem frees_eq (b : Int) (l : List Rm) : frees b l = fr (mark (W.imin b 1024) l) (W.imin b 1024 - 2).toNat := rfl
end Sp
