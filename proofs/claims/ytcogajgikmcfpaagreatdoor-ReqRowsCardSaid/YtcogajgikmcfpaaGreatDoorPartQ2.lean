/-
  Texts of a proof over the translated program: proved evaluators and walks, part 2 of 23.
-/
import Derived.Test.YtcogajgikmcfpaaGreatDoorPartQ1
import Derived.Laws.CopyRow
import Derived.WalkKit
set_option linter.unusedVariables false
set_option linter.unusedSimpArgs false
set_option linter.unusedSectionVars false
set_option linter.unnecessarySimpa false
section
namespace Go.FM
noncomputable section
variable [Env]
structure Ext (w w' : World) : Prop where
  os : w'.os = w.os
  tape : w'.tape = w.tape
  out : w'.output = w.output
  sz : w.heap.size ≤ w'.heap.size
  heap : ∀ b, b < w.heap.size → w'.heap[b]? = w.heap[b]?
theorem Ext.refl (w : World) : Ext w w := ⟨rfl, rfl, rfl, Nat.le_refl _, fun _ _ => rfl⟩
theorem Ext.trans {a b c : World} (h : Ext a b) (k : Ext b c) : Ext a c :=
  ⟨k.os.trans h.os, k.tape.trans h.tape, k.out.trans h.out, Nat.le_trans h.sz k.sz, fun x hx => (k.heap x (Nat.lt_of_lt_of_le hx h.sz)).trans (h.heap x hx)⟩
theorem Ext.alloc (w : World) (o : Obj) : Ext w (w.alloc o) := ⟨rfl, rfl, rfl, by simp, fun b hb => Go.RowKit.Below.heap_alloc w o b hb⟩
theorem Ext.drew (w : World) : Ext w w.drew := ⟨rfl, rfl, rfl, Nat.le_refl _, fun _ _ => rfl⟩
def upd (h : Nat → HO) (k : Nat) (o : HO) : Nat → HO := fun j => if j = k then o else h j
def Gm.new (g : Gm) (k : Nat) (a : At) : Gm := fun j => if j = k then a else g j
section
variable {g : Gm} {h : Nat → HO} {c : Nat} {w w' : World}
theorem HInv.ext (hi : HInv g h c w) (hx : Ext w w') : HInv g h c w' where
  own := fun k pre b hk => (hi.own k pre b hk).mono (fun _ _ => rfl) (Nat.le_refl _) (hx.heap _ (hi.own k pre b hk).lt)
  sh := fun k b hk => (hi.sh k b hk).mono (fun _ _ => rfl) (Nat.le_refl _) (hx.heap _ (hi.sh k b hk).lt)
  apart := hi.apart
  inj := hi.inj
  lt := hi.lt
  pre := hi.pre
theorem Post.ext (hi : HInv g h c w) (hx : Ext w w') : Post g h c w g h c w' :=
  ⟨fun _ _ => rfl, Nat.le_refl _, hi.ext hx, fun b hb _ => hx.heap b hb, fun _ h => .inr h, fun _ h => .inr h, hx.sz, hx.os, hx.tape, hx.out⟩
theorem Post.new (hi : HInv g h c w) (hx : Ext w w') {a : At} {b : HB} (ha : w.heap.size ≤ a.b) (hb : BOk (g.new c a) (c + 1) a b w') :
    Post g h c w (g.new c a) (upd h c (.own 0 b)) (c + 1) w' := by
  have hag : Agree c g (g.new c a) := fun k hk => by simp only [Gm.new, if_neg (show ¬ k = c by omega)]
  have hself : g.new c a c = a := by simp [Gm.new]
  have hne : ∀ {k}, h k ≠ .no → k ≠ c := fun {k} hk e => by have := hi.lt k hk; omega
  have hlo : ∀ {k pre bd}, h k = .own pre bd → (g.new c a k) = g k := fun {k pre bd} hk => hag k (hi.lt k (by rw [hk]; simp))
  have hls : ∀ {k bd}, h k = .sh bd → (g.new c a k) = g k := fun {k bd} hk => hag k (hi.lt k (by rw [hk]; simp))
  refine ⟨fun k hk => ?_, by omega, ⟨fun k pre bd hk => ?_, fun k bd hk => ?_, fun k bd j pre bd' hk hj he => ?_, fun k pre bd k' pre' bd' hk hk' he => ?_, fun k hk => ?_, fun k p bd hk => ?_⟩, fun b' hb' _ => hx.heap b' hb', fun b' ho => ?_, fun b' ho => ?_, hx.sz, hx.os, hx.tape, hx.out⟩
  · rcases hk with hk | hk <;> simp only [Gm.new, if_neg (show ¬ k = c by omega)]
  · simp only [upd] at hk
    split at hk
    · rename_i e; subst e
      simp only [HO.own.injEq] at hk
      obtain ⟨rfl, rfl⟩ := hk
      rw [hself]; exact hb
    · rw [hlo hk]
      exact (hi.own k pre bd hk).mono hag (by omega) (hx.heap _ (hi.own k pre bd hk).lt)
  · simp only [upd] at hk
    split at hk
    · cases hk
    · rw [hls hk]
      exact (hi.sh k bd hk).mono hag (by omega) (hx.heap _ (hi.sh k bd hk).lt)
  · simp only [upd] at hk hj
    split at hk
    · cases hk
    · rw [hls hk] at he
      split at hj
      · rename_i e; subst e
        rw [hself] at he
        have := (hi.sh k bd hk).lt
        omega
      · rw [hlo hj] at he
        exact hi.apart k bd j pre bd' hk hj he
  · simp only [upd] at hk hk'
    split at hk
    · rename_i e; subst e
      split at hk'
      · rename_i e'; exact e'.symm
      · rw [hself, hlo hk'] at he
        have := (hi.own k' pre' bd' hk').lt
        omega
    · split at hk'
      · rename_i e'; subst e'
        rw [hself, hlo hk] at he
        have := (hi.own k pre bd hk).lt
        omega
      · rw [hlo hk, hlo hk'] at he
        exact hi.inj k pre bd k' pre' bd' hk hk' he
  · simp only [upd] at hk
    split at hk
    · omega
    · have := hi.lt k hk; omega
  · simp only [upd] at hk
    split at hk
    · simp only [HO.own.injEq] at hk; omega
    · have := hi.pre k p bd hk; omega
  · obtain ⟨k, pre, bd, hk, he⟩ := ho
    simp only [upd] at hk
    split at hk
    · rename_i e; subst e
      rw [hself] at he
      left; omega
    · rw [hlo hk] at he
      exact .inr ⟨k, pre, bd, hk, he⟩
  · obtain ⟨k, hk, he⟩ := ho
    simp only [upd] at hk
    split at hk
    · rename_i e; subst e
      rw [hself] at he
      left; omega
    · rw [hag k (hi.lt k hk)] at he
      exact .inr ⟨k, hk, he⟩
structure Chg (b0 : Nat) (w w' : World) : Prop where
  os : w'.os = w.os
  tape : w'.tape = w.tape
  out : w'.output = w.output
  sz : w.heap.size ≤ w'.heap.size
  heap : ∀ b, b < w.heap.size → b ≠ b0 → w'.heap[b]? = w.heap[b]?
theorem Chg.setRow (w : World) (b : Nat) (cs : Array Value) : Chg b w (w.setRow b cs) := ⟨rfl, rfl, rfl, by simp, fun k _ hk => setRow_other w b k cs hk⟩
def unp (pre : Nat) (h : Nat → HO) : Nat → HO := match pre with
  | 0 => h
  | k + 1 => upd h k .no
theorem unp_sub {pre : Nat} {h : Nat → HO} (k : Nat) : unp pre h k = h k ∨ (unp pre h k = .no ∧ pre = k + 1) := by
  cases pre with
  | zero => exact .inl rfl
  | succ p =>
    simp only [unp, upd]
    by_cases e : k = p
    · subst e; right; simp
    · left; rw [if_neg e]
theorem unp_own {pre : Nat} {h : Nat → HO} {k q : Nat} {b : HB} (hk : unp pre h k = .own q b) : h k = .own q b := by
  rcases unp_sub (pre := pre) (h := h) k with e | ⟨e, _⟩
  · rw [← e]; exact hk
  · rw [e] at hk; cases hk
theorem unp_sh {pre : Nat} {h : Nat → HO} {k : Nat} {b : HB} (hk : unp pre h k = .sh b) : h k = .sh b ∧ pre ≠ k + 1 := by
  cases pre with
  | zero => exact ⟨hk, by omega⟩
  | succ p =>
    simp only [unp, upd] at hk
    split at hk
    · cases hk
    · rename_i e; exact ⟨hk, by omega⟩
theorem Post.set (hi : HInv g h c w) {k pre : Nat} {b b' : HB} (hk : h k = .own pre b) (hc : Chg (g k).b w w') (hb : BOk g c (g k) b' w') :
    Post g h c w g (upd (unp pre h) k (.own 0 b')) c w' := by
  have keep : ∀ {j q bd}, j ≠ k → h j = .own q bd → w'.heap[(g j).b]? = w.heap[(g j).b]? := fun {j q bd} hj hjo => hc.heap _ (hi.own j q bd hjo).lt fun e => hj (hi.inj j q bd k pre b hjo hk e)
  refine ⟨fun _ _ => rfl, Nat.le_refl _, ⟨fun j q bd hj => ?_, fun j bd hj => ?_, fun j bd i q bd' hj hi' he => ?_, fun j q bd j' q' bd' hj hj' he => ?_, fun j hj => ?_, fun j p bd hj => ?_⟩, fun b0 hb0 hn => hc.heap b0 hb0 fun e => hn ⟨k, pre, b, hk, e.symm⟩, fun b0 ho => ?_, fun b0 ho => ?_, hc.sz, hc.os, hc.tape, hc.out⟩
  · simp only [upd] at hj
    split at hj
    · rename_i e; subst e
      simp only [HO.own.injEq] at hj
      obtain ⟨rfl, rfl⟩ := hj
      exact hb
    · rename_i hne
      have hj := unp_own hj
      exact (hi.own j q bd hj).mono (fun _ _ => rfl) (Nat.le_refl _) (keep hne hj)
  · simp only [upd] at hj
    split at hj
    · cases hj
    · obtain ⟨hj, hp⟩ := unp_sh hj
      exact (hi.sh j bd hj).mono (fun _ _ => rfl) (Nat.le_refl _) (hc.heap _ (hi.sh j bd hj).lt fun e => hp (hi.apart j bd k pre b hj hk e.symm))
  · simp only [upd] at hj hi'
    split at hj
    · cases hj
    · obtain ⟨hj, hp⟩ := unp_sh hj
      split at hi'
      · rename_i e; subst e
        exact absurd (hi.apart j bd i pre b hj hk he) hp
      · exact hi.apart j bd i q bd' hj (unp_own hi') he
  · simp only [upd] at hj hj'
    split at hj
    · rename_i e; subst e
      split at hj'
      · rename_i e'; exact e'.symm
      · exact hi.inj j pre b j' q' bd' hk (unp_own hj') he
    · split at hj'
      · rename_i e'; subst e'
        exact hi.inj j q bd j' pre b (unp_own hj) hk he
      · exact hi.inj j q bd j' q' bd' (unp_own hj) (unp_own hj') he
  · simp only [upd] at hj
    split at hj
    · rename_i e; subst e; exact hi.lt j (by rw [hk]; simp)
    · rcases unp_sub (pre := pre) (h := h) j with e | ⟨e, _⟩
      · rw [e] at hj; exact hi.lt j hj
      · exact absurd e hj
  · simp only [upd] at hj
    split at hj
    · simp only [HO.own.injEq] at hj; omega
    · exact hi.pre j p bd (unp_own hj)
  · obtain ⟨j, q, bd, hj, he⟩ := ho
    simp only [upd] at hj
    split at hj
    · rename_i e; subst e; exact .inr ⟨j, pre, b, hk, he⟩
    · exact .inr ⟨j, q, bd, unp_own hj, he⟩
  · obtain ⟨j, hj, he⟩ := ho
    simp only [upd] at hj
    split at hj
    · rename_i e; subst e; exact .inr ⟨j, by rw [hk]; simp, he⟩
    · rcases unp_sub (pre := pre) (h := h) j with e | ⟨e, _⟩
      · rw [e] at hj; exact .inr ⟨j, hj, he⟩
      · exact absurd e hj
theorem Post.grow (hi : HInv g h c w) {k pre : Nat} {b b' : HB} (hk : h k = .own pre b) (hc : Chg (g k).b w w') {a : At} (ha : a.b = (g k).b ∨ w.heap.size ≤ a.b) (hold : BOk g c (g k) b w') (hb : BOk (g.new c a) (c + 1) a b' w') :
    Post g h c w (g.new c a) (upd (upd (unp pre h) k (.sh b)) c (.own (k + 1) b')) (c + 1) w' := by
  have hkc : k < c := hi.lt k (by rw [hk]; simp)
  have hag : Agree c g (g.new c a) := fun j hj => by simp only [Gm.new, if_neg (show ¬ j = c by omega)]
  have hself : g.new c a c = a := by simp [Gm.new]
  have hlo : ∀ {j q bd}, h j = .own q bd → (g.new c a j) = g j := fun {j q bd} hj => hag j (hi.lt j (by rw [hj]; simp))
  have hls : ∀ {j bd}, h j = .sh bd → (g.new c a j) = g j := fun {j bd} hj => hag j (hi.lt j (by rw [hj]; simp))
  have keep : ∀ {j q bd}, j ≠ k → h j = .own q bd → w'.heap[(g j).b]? = w.heap[(g j).b]? := fun {j q bd} hj hjo => hc.heap _ (hi.own j q bd hjo).lt fun e => hj (hi.inj j q bd k pre b hjo hk e)
  have hkk := hlo hk
  refine ⟨fun j hj => ?_, by omega, ⟨fun j q bd hj => ?_, fun j bd hj => ?_, fun j bd i q bd' hj hi' he => ?_, fun j q bd j' q' bd' hj hj' he => ?_, fun j hj => ?_, fun j p bd hj => ?_⟩, fun b0 hb0 hn => hc.heap b0 hb0 fun e => hn ⟨k, pre, b, hk, e.symm⟩, fun b0 ho => ?_, fun b0 ho => ?_, hc.sz, hc.os, hc.tape, hc.out⟩
  · rcases hj with hj | hj <;> simp only [Gm.new, if_neg (show ¬ j = c by omega)]
  · simp only [upd] at hj
    split at hj
    · rename_i e; subst e
      simp only [HO.own.injEq] at hj
      obtain ⟨rfl, rfl⟩ := hj
      rw [hself]; exact hb
    · split at hj
      · cases hj
      · rename_i hne
        have hj := unp_own hj
        rw [hlo hj]
        exact (hi.own j q bd hj).mono hag (by omega) (keep hne hj)
  · simp only [upd] at hj
    split at hj
    · cases hj
    · split at hj
      · rename_i e; subst e
        simp only [HO.sh.injEq] at hj; subst hj
        rw [hkk]
        exact hold.mono hag (by omega) rfl
      · obtain ⟨hj, hp⟩ := unp_sh hj
        rw [hls hj]
        exact (hi.sh j bd hj).mono hag (by omega) (hc.heap _ (hi.sh j bd hj).lt fun e => hp (hi.apart j bd k pre b hj hk e.symm))
  · simp only [upd] at hj hi'
    split at hj
    · cases hj
    · split at hj
      · rename_i e; subst e
        rw [hkk] at he
        split at hi'
        · simp only [HO.own.injEq] at hi'; omega
        · split at hi'
          · cases hi'
          · rename_i hne
            have hi' := unp_own hi'
            rw [hlo hi'] at he
            exact absurd (hi.inj i q bd' j pre b hi' hk he) hne
      · obtain ⟨hj, hp⟩ := unp_sh hj
        rw [hls hj] at he
        split at hi'
        · rename_i e; subst e
          rw [hself] at he
          rcases ha with ha | ha
          · exact absurd (hi.apart j bd k pre b hj hk (by rw [← he, ha])) hp
          · have := (hi.sh j bd hj).lt; omega
        · split at hi'
          · cases hi'
          · have hi' := unp_own hi'
            rw [hlo hi'] at he
            exact hi.apart j bd i q bd' hj hi' he
  · simp only [upd] at hj hj'
    split at hj
    · rename_i e; subst e
      split at hj'
      · rename_i e'; exact e'.symm
      · split at hj'
        · cases hj'
        · rename_i hne
          have hj' := unp_own hj'
          rw [hself, hlo hj'] at he
          rcases ha with ha | ha
          · exact absurd (hi.inj j' q' bd' k pre b hj' hk (by rw [← he, ha])) hne
          · have := (hi.own j' q' bd' hj').lt; omega
    · split at hj
      · cases hj
      · rename_i hne
        have hj := unp_own hj
        split at hj'
        · rename_i e'; subst e'
          rw [hself, hlo hj] at he
          rcases ha with ha | ha
          · exact absurd (hi.inj j q bd k pre b hj hk (by rw [he, ha])) hne
          · have := (hi.own j q bd hj).lt; omega
        · split at hj'
          · cases hj'
          · have hj' := unp_own hj'
            rw [hlo hj, hlo hj'] at he
            exact hi.inj j q bd j' q' bd' hj hj' he
  · simp only [upd] at hj
    split at hj
    · omega
    · split at hj
      · omega
      · rcases unp_sub (pre := pre) (h := h) j with e | ⟨e, _⟩
        · rw [e] at hj; have := hi.lt j hj; omega
        · exact absurd e hj
  · simp only [upd] at hj
    split at hj
    · simp only [HO.own.injEq] at hj; omega
    · split at hj
      · cases hj
      · have := hi.pre j p bd (unp_own hj); omega
  · obtain ⟨j, q, bd, hj, he⟩ := ho
    simp only [upd] at hj
    split at hj
    · rename_i e; subst e
      rw [hself] at he
      rcases ha with ha | ha
      · exact .inr ⟨k, pre, b, hk, by rw [← he, ha]⟩
      · left; omega
    · split at hj
      · cases hj
      · have hj := unp_own hj
        rw [hlo hj] at he
        exact .inr ⟨j, q, bd, hj, he⟩
  · obtain ⟨j, hj, he⟩ := ho
    simp only [upd] at hj
    split at hj
    · rename_i e; subst e
      rw [hself] at he
      rcases ha with ha | ha
      · exact .inr ⟨k, by rw [hk]; simp, by rw [← he, ha]⟩
      · left; omega
    · split at hj
      · rename_i e; subst e
        rw [hkk] at he
        exact .inr ⟨j, by rw [hk]; simp, he⟩
      · rcases unp_sub (pre := pre) (h := h) j with e | ⟨e, _⟩
        · rw [e] at hj
          rw [hag j (hi.lt j hj)] at he
          exact .inr ⟨j, hj, he⟩
        · exact absurd e hj
end
end
end Go.FM
end

section
namespace Go.FM
noncomputable section
variable [Env]
theorem bytesOf_length (n d : Nat) : (bytesOf n d).length = n := by simp [bytesOf]
theorem bytesOf_zero (d : Nat) : bytesOf 0 d = [] := rfl
theorem bytesOf_succ (n d : Nat) : bytesOf (n + 1) d = UInt8.ofNat (d % 256) :: bytesOf n (d / 256) := by
  unfold bytesOf
  rw [List.range_succ_eq_map, List.map_cons, List.map_map]
  congr 1
  · simp
  · apply List.map_congr_left
    intro i _
    simp only [Function.comp, Nat.succ_eq_add_one]
    rw [Nat.pow_succ, Nat.mul_comm, Nat.div_div_eq_div_mul]
theorem bytesOf_get (n d i : Nat) (h : i < n) : (bytesOf n d)[i]? = some (UInt8.ofNat (bAt d i)) := by
  have e : bAt d i = d / 256 ^ i % 256 := rfl
  rw [e]
  simp [bytesOf, h]
theorem pow256_pos (n : Nat) : 0 < 256 ^ n := Nat.pow_pos (by decide)
theorem toNat_ofNat (m : Nat) (h : m < 256) : (UInt8.ofNat m).toNat = m := by
  rw [UInt8.toNat_ofNat']; exact Nat.mod_eq_of_lt h
theorem bAt_lt (d i : Nat) : bAt d i < 256 := Nat.mod_lt _ (by decide)
theorem bytesOf_cut (n d lo m : Nat) (h : lo + m ≤ n) : bytesOf m (bCut d lo m) = ((bytesOf n d).drop lo).take m := by
  apply List.ext_getElem?
  intro i
  rw [List.getElem?_take]
  by_cases hi : i < m
  · rw [if_pos hi, List.getElem?_drop, bytesOf_get _ _ _ hi, bytesOf_get _ _ _ (by omega)]
    congr 2
    unfold bAt bCut p8
    show (d / 256 ^ lo % 256 ^ m) / 256 ^ i % 256 = d / 256 ^ (lo + i) % 256
    rw [Nat.pow_add, ← Nat.div_div_eq_div_mul]
    generalize d / 256 ^ lo = x
    have hp : 256 ^ m = 256 ^ i * (256 * 256 ^ (m - i - 1)) := by
      rw [← Nat.pow_succ', ← Nat.pow_add]; congr 1; omega
    rw [hp, Nat.mod_mul_right_div_self, Nat.mod_mul_right_mod]
  · rw [if_neg hi]
    exact List.getElem?_eq_none (by rw [bytesOf_length]; omega)
theorem bCut_lt (d lo m : Nat) : bCut d lo m < 256 ^ m := Nat.mod_lt _ (pow256_pos m)
theorem bytesOf_append (n m d e : Nat) (hd : d < 256 ^ n) : bytesOf (n + m) (d + e * 256 ^ n) = bytesOf n d ++ bytesOf m e := by
  induction n generalizing d with
  | zero => simp at hd; subst hd; simp [bytesOf_zero]
  | succ n ih =>
    rw [show n + 1 + m = (n + m) + 1 by omega, bytesOf_succ, bytesOf_succ, List.cons_append]
    have hp : 256 ^ (n + 1) = 256 * 256 ^ n := Nat.pow_succ'
    have h1 : (d + e * 256 ^ (n + 1)) % 256 = d % 256 := by rw [hp, Nat.mul_left_comm]; omega
    have h2 : (d + e * 256 ^ (n + 1)) / 256 = d / 256 + e * 256 ^ n := by rw [hp, Nat.mul_left_comm]; omega
    rw [h1, h2, ih (d / 256) (by rw [hp] at hd; omega)]
theorem append_lt {n m d e : Nat} (hd : d < 256 ^ n) (he : e < 256 ^ m) : d + e * 256 ^ n < 256 ^ (n + m) := by
  rw [Nat.pow_add]
  have : d + e * 256 ^ n < (e + 1) * 256 ^ n := by rw [Nat.add_mul]; omega
  exact Nat.lt_of_lt_of_le this (by rw [Nat.mul_comm]; exact Nat.mul_le_mul_left _ he)
theorem bytesOf_inj {n d e : Nat} (hd : d < 256 ^ n) (he : e < 256 ^ n) (h : bytesOf n d = bytesOf n e) : d = e := by
  induction n generalizing d e with
  | zero => simp at hd he; omega
  | succ n ih =>
    rw [bytesOf_succ, bytesOf_succ] at h
    simp only [List.cons.injEq] at h
    have hp : 256 ^ (n + 1) = 256 * 256 ^ n := Nat.pow_succ'
    have h1 := congrArg UInt8.toNat h.1
    rw [toNat_ofNat _ (Nat.mod_lt _ (by decide)), toNat_ofNat _ (Nat.mod_lt _ (by decide))] at h1
    have h2 := ih (by rw [hp] at hd; omega) (by rw [hp] at he; omega) h.2
    omega
theorem packB_lt : ∀ l : List UInt8, packB l < 256 ^ l.length
  | [] => by simp [packB]
  | b :: r => by
    have := packB_lt r
    have hb : b.toNat < 256 := b.toNat_lt
    rw [List.length_cons, Nat.pow_succ']
    simp only [packB]; omega
theorem bytesOf_packB : ∀ l : List UInt8, bytesOf l.length (packB l) = l
  | [] => rfl
  | b :: r => by
    have hb : b.toNat < 256 := b.toNat_lt
    rw [List.length_cons, bytesOf_succ]
    have h1 : packB (b :: r) % 256 = b.toNat := by simp only [packB]; omega
    have h2 : packB (b :: r) / 256 = packB r := by simp only [packB]; omega
    rw [h1, h2, bytesOf_packB r]
    congr 1
    exact UInt8.ofNat_toNat
theorem bLess_eq : ∀ (f n d m e : Nat), n < f → bLess f n d m e = Op.bytesLess (bytesOf n d) (bytesOf m e)
  | 0, n, d, m, e, h => by omega
  | f + 1, n, d, 0, e, h => by
    rw [bytesOf_zero]
    cases bytesOf n d <;> simp [bLess, Op.bytesLess]
  | f + 1, 0, d, m + 1, e, h => by
    rw [bytesOf_zero, bytesOf_succ]
    simp [bLess, Op.bytesLess]
  | f + 1, n + 1, d, m + 1, e, h => by
    rw [bytesOf_succ, bytesOf_succ]
    simp only [bLess, Op.bytesLess]
    have ha : d % 256 < 256 := Nat.mod_lt _ (by decide)
    have hb : e % 256 < 256 := Nat.mod_lt _ (by decide)
    have lt_iff : ∀ x y : Nat, x < 256 → y < 256 → ((UInt8.ofNat x < UInt8.ofNat y) ↔ x < y) := fun x y hx hy => by
      rw [UInt8.lt_iff_toNat_lt, toNat_ofNat x hx, toNat_ofNat y hy]
    have blt : ∀ x y : Nat, Nat.blt x y = decide (x < y) := fun x y => by
      cases h : Nat.blt x y with
      | true => exact (decide_eq_true (Nat.le_of_ble_eq_true h)).symm
      | false =>
        symm; rw [decide_eq_false_iff_not]; intro hlt
        rw [show Nat.blt x y = true from Nat.ble_eq_true_of_le hlt] at h; cases h
    have ih := bLess_eq f n (d / 256) m (e / 256) (by omega)
    show (if Nat.blt (d % 256) (e % 256) = true then true else if Nat.blt (e % 256) (d % 256) = true then false else bLess f n (d / 256) m (e / 256)) = _
    rw [blt, blt, ih]
    have l1 := lt_iff _ _ ha hb
    have l2 := lt_iff _ _ hb ha
    have e1 : (UInt8.ofNat (d % 256) == UInt8.ofNat (e % 256)) = decide (d % 256 = e % 256) := by
      by_cases h : d % 256 = e % 256
      · rw [h]; simp
      · have : UInt8.ofNat (d % 256) ≠ UInt8.ofNat (e % 256) := fun hh => h (by
          have := congrArg UInt8.toNat hh
          rwa [toNat_ofNat _ ha, toNat_ofNat _ hb] at this)
        simp [h, this]
    rw [e1]
    by_cases h1 : d % 256 < e % 256
    · simp [h1, l1]
    · by_cases h2 : e % 256 < d % 256
      · have h3 : ¬ d % 256 = e % 256 := by omega
        simp [h1, h2, l1, h3]
      · have h3 : d % 256 = e % 256 := by omega
        simp [h3]
theorem sLess_eq (n d m e : Nat) : sLess n d m e = Op.bytesLess (bytesOf n d) (bytesOf m e) := bLess_eq _ _ _ _ _ (Nat.lt_succ_self n)
theorem bytesOf_lay (n d lo m e : Nat) (h : lo + m ≤ n) (hd : d < 256 ^ n) (he : e < 256 ^ m) : bLay d lo m e < 256 ^ n ∧ bytesOf n (bLay d lo m e) = (bytesOf n d).take lo ++ (bytesOf m e ++ (bytesOf n d).drop (lo + m)) := by
  have e0 : bLay d lo m e = (d % 256 ^ lo) + (e + (d / 256 ^ (lo + m)) * 256 ^ m) * 256 ^ lo := by
    show d % 256 ^ lo + e * 256 ^ lo + (d / 256 ^ (lo + m)) * 256 ^ (lo + m) = _
    rw [Nat.pow_add, Nat.add_mul]
    have : d / (256 ^ lo * 256 ^ m) * (256 ^ lo * 256 ^ m) = d / (256 ^ lo * 256 ^ m) * 256 ^ m * 256 ^ lo := by
      rw [Nat.mul_comm (256 ^ lo), Nat.mul_assoc]
    omega
  have h1 : d % 256 ^ lo < 256 ^ lo := Nat.mod_lt _ (pow256_pos lo)
  have hn : n = lo + (m + (n - (lo + m))) := by omega
  have h3 : d / 256 ^ (lo + m) < 256 ^ (n - (lo + m)) := by
    rw [Nat.div_lt_iff_lt_mul (pow256_pos _), ← Nat.pow_add]
    have : n - (lo + m) + (lo + m) = n := by omega
    rw [this]; exact hd
  have h2 := append_lt (n := m) (m := n - (lo + m)) he h3
  refine ⟨?_, ?_⟩
  · rw [e0, hn]
    have := append_lt h1 h2
    rw [← hn] at this ⊢
    exact this
  · have k1 : bytesOf lo (d % 256 ^ lo) = (bytesOf n d).take lo := by
      have := bytesOf_cut n d 0 lo (by omega)
      have e : bCut d 0 lo = d % 256 ^ lo := by
        show d / 256 ^ 0 % 256 ^ lo = _
        rw [Nat.pow_zero, Nat.div_one]
      rw [e, List.drop_zero] at this
      exact this
    have k3 : bytesOf (n - (lo + m)) (d / 256 ^ (lo + m)) = (bytesOf n d).drop (lo + m) := by
      have := bytesOf_cut n d (lo + m) (n - (lo + m)) (by omega)
      rw [List.take_of_length_le (by simp [bytesOf_length])] at this
      rw [← this]
      congr 1
      show _ = d / 256 ^ (lo + m) % 256 ^ (n - (lo + m))
      rw [Nat.mod_eq_of_lt h3]
    rw [← k1, ← k3, ← bytesOf_append m _ e _ he]
    have := bytesOf_append lo (m + (n - (lo + m))) (d % 256 ^ lo) (e + d / 256 ^ (lo + m) * 256 ^ m) h1
    rw [← hn] at this
    rw [e0]; exact this
theorem sEq_eq {n d m e : Nat} (hd : d < 256 ^ n) (he : e < 256 ^ m) : sEq n d m e = (bytesOf n d == bytesOf m e) := by
  unfold sEq
  by_cases h : n = m
  · subst h
    have : Nat.beq n n = true := Nat.beq_refl n
    rw [this]
    show Nat.beq d e = _
    by_cases h2 : d = e
    · subst h2; simp
    · have h3 : Nat.beq d e = false := by
        cases hb : Nat.beq d e with
        | false => rfl
        | true => exact absurd (Nat.eq_of_beq_eq_true hb) h2
      rw [h3]
      symm
      rw [beq_eq_false_iff_ne]
      exact fun hh => h2 (bytesOf_inj hd he hh)
  · have : Nat.beq n m = false := by
      cases hb : Nat.beq n m with
      | false => rfl
      | true => exact absurd (Nat.eq_of_beq_eq_true hb) h
    rw [this]
    symm
    show (bytesOf n d == bytesOf m e) = false
    rw [beq_eq_false_iff_ne]
    intro hh
    have := congrArg List.length hh
    rw [bytesOf_length, bytesOf_length] at this
    exact h this
end
end Go.FM
end

section
namespace Go.FM
noncomputable section
variable [Env]
section
variable {Pr : Program} {w : World} {g : Gm} {c : Nat}
def BinOk (Pr : Program) (op : BinOp) (t : TypeId) (u v z : Value) (w : World) : Prop := (∀ ox oy, (eqGuard op t ox oy u v).run Pr w = .ok () w) ∧ (binOp op t u v).run Pr w = .ok z w
theorem eqGuard_plain {op : BinOp} {t : TypeId} {x y : Operand} {u v : Value} (h1 : ¬ (u = .nilIface ∧ v = .nilIface)) (h2 : ∀ a b, ¬ (u = .agg a ∧ v = .agg b)) : (eqGuard op t x y u v).run Pr w = .ok () w := by
  unfold eqGuard
  cases op <;> simp
  all_goals
    split
    · exact absurd ⟨rfl, rfl⟩ h1
    · rename_i a b; exact absurd ⟨rfl, rfl⟩ (h2 a b)
    · simp
theorem ikEq_eq {a b : IntKind} (h : ikEq a b = true) : a = b := by cases a <;> cases b <;> first | rfl | cases h
theorem top_le (k : IntKind) (n : Nat) (h : n ≤ top k) : k.wrap (n : Int) = n := by
  cases k <;> simp only [top] at h <;> simp [IntKind.wrap, IntKind.bits, IntKind.signed] <;> omega
theorem wrapN_eq (k : IntKind) (n : Nat) : wrapN k n = .int k (k.wrap (n : Int)) := by
  unfold wrapN
  cases h : Nat.ble n (top k) with
  | true =>
    have := top_le k n (Nat.le_of_ble_eq_true h)
    show HV.int k (.ofNat n) = _
    rw [this]; rfl
  | false => rfl
theorem wrapF_eq (k : IntKind) (r : Int) : wrapF k r = .int k (k.wrap r) := by
  cases r with
  | ofNat n => exact wrapN_eq k n
  | negSucc n => rfl
theorem int2_inv {f : IntKind → Int → Int → HV} {x y : HV} (h : int2 f x y ≠ .dead) : ∃ k a b, x = .int k a ∧ y = .int k b ∧ int2 f x y = f k a b := by
  cases x <;> try exact absurd rfl h
  rename_i k a
  cases y <;> try exact absurd rfl h
  rename_i k' b
  have e : int2 f (.int k a) (.int k' b) = (ikEq k k').casesOn .dead (f k a b) := rfl
  rw [e] at h
  cases hk : ikEq k k' with
  | false => rw [hk] at h; exact absurd rfl h
  | true =>
    have := ikEq_eq hk; subst this
    exact ⟨k, a, b, rfl, rfl, by rw [e, hk]⟩
theorem nat2_eq {f : IntKind → Nat → Nat → HV} {q : IntKind → Int → Int → HV} (hfq : ∀ k m n, f k m n = q k (.ofNat m) (.ofNat n)) (k : IntKind) (a b : Int) : nat2 f q k a b = q k a b := by
  cases a <;> cases b <;> first | exact hfq _ _ _ | rfl
theorem int_bin {op : BinOp} {t : TypeId} {k : IntKind} {a b : Int} {z : Value} (h : (binOp op t (.int k a) (.int k b)).run Pr w = .ok z w) : BinOk Pr op t (.int k a) (.int k b) z w :=
  ⟨fun ox oy => eqGuard_plain (by simp) (by simp), h⟩
theorem beq_dec (m n : Nat) : Nat.beq m n = (((m : Int)) == ((n : Int))) := by
  by_cases h : m = n
  · subst h; simp [Nat.beq_refl]
  · have h1 : Nat.beq m n = false := by
      cases hb : Nat.beq m n with
      | false => rfl
      | true => exact absurd (Nat.eq_of_beq_eq_true hb) h
    rw [h1]
    symm
    rw [beq_eq_false_iff_ne]
    omega
theorem ble_dec (m n : Nat) : Nat.ble m n = decide ((m : Int) ≤ (n : Int)) := by
  cases h : Nat.ble m n with
  | true => exact (decide_eq_true (by have := Nat.le_of_ble_eq_true h; omega)).symm
  | false =>
    symm; rw [decide_eq_false_iff_not]; intro hle
    rw [Nat.ble_eq_true_of_le (by omega)] at h; cases h
theorem blt_dec (m n : Nat) : Nat.blt m n = decide ((m : Int) < (n : Int)) := by
  show Nat.ble (m + 1) n = _
  rw [ble_dec]
  exact decide_eq_decide.2 (by omega)
theorem intF_ok {op : BinOp} {t : TypeId} {f : HV → HV → HV} (h : intF op = .f f) {x y : HV} {vx vy : Value} (hx : TRep g c x vx) (hy : TRep g c y vy) (hl : f x y ≠ .dead) :
    ∃ z, BinOk Pr op t vx vy z w ∧ TRep g c (f x y) z := by
  have fin : ∀ {q : IntKind → Int → Int → HV} {f : HV → HV → HV}, f = int2 q → f x y ≠ .dead → (∀ k a b, q k a b ≠ .dead → ∃ z, (binOp op t (.int k a) (.int k b)).run Pr w = .ok z w ∧ CRep g c (q k a b) z) → ∃ z, BinOk Pr op t vx vy z w ∧ TRep g c (f x y) z := by
    intro q f hf hl hq
    subst hf
    obtain ⟨k, a, b, rfl, rfl, e⟩ := int2_inv hl
    have e1 : vx = .int k a := hx
    have e2 : vy = .int k b := hy
    subst e1; subst e2
    rw [e] at hl ⊢
    obtain ⟨z, h1, h2⟩ := hq k a b hl
    exact ⟨z, int_bin h1, TRep.of_cell h2⟩
  have dead2 : ∀ {op : BinOp} {q : IntKind → Int → Int → HV}, (∀ k a b, ∃ z, (binOp op t (.int k a) (.int k b)).run Pr w = .ok z w ∧ CRep g c (q k a b) z) → ∀ k a b, q k a b ≠ .dead → ∃ z, (binOp op t (.int k a) (.int k b)).run Pr w = .ok z w ∧ CRep g c (q k a b) z := fun h k a b _ => h k a b
  cases op <;> simp only [intF] at h <;> first | (cases h; done) | (injection h with h; subst h)
  · refine fin (q := fun k a b => .int k (k.wrap (a + b))) (congrArg int2 (funext fun k => funext fun a => funext fun b => nat2_eq (fun k m n => wrapN_eq k _) k a b)) hl (dead2 fun k a b => ⟨_, by simp [binOp, Op.intArith], rfl⟩)
  · refine fin (q := fun k a b => .int k (k.wrap (a - b))) (congrArg int2 (funext fun k => funext fun a => funext fun b => nat2_eq (fun k m n => ?_) k a b)) hl (dead2 fun k a b => ⟨_, by simp [binOp, Op.intArith], rfl⟩)
    unfold subN
    cases hb : Nat.ble n m with
    | false => rfl
    | true =>
      have hle := Nat.le_of_ble_eq_true hb
      show wrapN k (m - n) = _
      rw [wrapN_eq, Int.ofNat_sub hle]; rfl
  · refine fin (q := fun k a b => .int k (k.wrap (a * b))) (congrArg int2 (funext fun k => funext fun a => funext fun b => nat2_eq (fun k m n => wrapN_eq k _) k a b)) hl (dead2 fun k a b => ⟨_, by simp [binOp, Op.intArith], rfl⟩)
  · refine fin (q := fun k a b => if b = 0 then .dead else .int k (k.wrap (a.tdiv b))) (congrArg int2 (funext fun k => funext fun a => funext fun b => nat2_eq (fun k m n => ?_) k a b)) hl fun k a b hd => ?_
    · cases n with
      | zero => rfl
      | succ n =>
        have : ¬ (Int.ofNat (n + 1) = 0) := fun e => by cases e
        rw [if_neg this]
        show wrapN k (m / (n + 1)) = _
        rw [wrapN_eq]; rfl
    · by_cases hb : b = 0
      · rw [if_pos hb] at hd; exact absurd rfl hd
      · rw [if_neg hb]
        exact ⟨_, by simp [binOp, Op.intDiv, hb], rfl⟩
  · refine fin (q := fun k a b => if b = 0 then .dead else .int k (a.tmod b)) (congrArg int2 (funext fun k => funext fun a => funext fun b => nat2_eq (fun k m n => ?_) k a b)) hl fun k a b hd => ?_
    · cases n with
      | zero => rfl
      | succ n =>
        have : ¬ (Int.ofNat (n + 1) = 0) := fun e => by cases e
        rw [if_neg this]; rfl
    · by_cases hb : b = 0
      · rw [if_pos hb] at hd; exact absurd rfl hd
      · rw [if_neg hb]
        exact ⟨_, by simp [binOp, Op.intDiv, hb], rfl⟩
  · exact fin (q := fun k a b => .int k (andI k a b)) rfl hl (dead2 fun k a b => ⟨_, by simp [binOp, Op.intBits]; rfl, rfl⟩)
  · exact fin (q := fun k a b => .int k (orI k a b)) rfl hl (dead2 fun k a b => ⟨_, by simp [binOp, Op.intBits]; rfl, rfl⟩)
  · exact fin (q := fun k a b => .int k (xorI k a b)) rfl hl (dead2 fun k a b => ⟨_, by simp [binOp, Op.intBits]; rfl, rfl⟩)
  · exact fin (q := fun k a b => .int k (andNotI k a b)) rfl hl (dead2 fun k a b => ⟨_, by simp [binOp, Op.intBits, andNotI]; done, rfl⟩)
  · exact fin (q := fun _ a b => .bool (a == b)) (congrArg int2 (funext fun k => funext fun a => funext fun b => nat2_eq (fun k m n => congrArg HV.bool (beq_dec m n)) k a b)) hl (dead2 fun k a b => ⟨_, by simp [binOp, Op.intCmp], rfl⟩)
  · exact fin (q := fun _ a b => .bool (a != b)) (congrArg int2 (funext fun k => funext fun a => funext fun b => nat2_eq (fun k m n => congrArg HV.bool (congrArg Bool.not (beq_dec m n))) k a b)) hl (dead2 fun k a b => ⟨_, by simp [binOp, Op.intCmp], rfl⟩)
  · exact fin (q := fun _ a b => .bool (decide (a < b))) (congrArg int2 (funext fun k => funext fun a => funext fun b => nat2_eq (fun k m n => congrArg HV.bool (blt_dec m n)) k a b)) hl (dead2 fun k a b => ⟨_, by simp [binOp, Op.intCmp], rfl⟩)
  · exact fin (q := fun _ a b => .bool (decide (a ≤ b))) (congrArg int2 (funext fun k => funext fun a => funext fun b => nat2_eq (fun k m n => congrArg HV.bool (ble_dec m n)) k a b)) hl (dead2 fun k a b => ⟨_, by simp [binOp, Op.intCmp], rfl⟩)
  · exact fin (q := fun _ a b => .bool (decide (a > b))) (congrArg int2 (funext fun k => funext fun a => funext fun b => nat2_eq (fun k m n => congrArg HV.bool (blt_dec n m)) k a b)) hl (dead2 fun k a b => ⟨_, by simp [binOp, Op.intCmp], rfl⟩)
  · exact fin (q := fun _ a b => .bool (decide (a ≥ b))) (congrArg int2 (funext fun k => funext fun a => funext fun b => nat2_eq (fun k m n => congrArg HV.bool (ble_dec n m)) k a b)) hl (dead2 fun k a b => ⟨_, by simp [binOp, Op.intCmp], rfl⟩)
theorem shl_ok {t : TypeId} {x y : HV} {vx vy : Value} (hx : TRep g c x vx) (hy : TRep g c y vy) (hl : shl x y ≠ .dead) : ∃ z, BinOk Pr .shl t vx vy z w ∧ TRep g c (shl x y) z := by
  unfold shl at hl ⊢
  cases x <;> try exact absurd rfl hl
  rename_i k a
  cases y <;> try exact absurd rfl hl
  rename_i k' b
  have e1 : vx = .int k a := hx
  have e2 : vy = .int k' b := hy
  subst e1; subst e2
  simp only at hl ⊢
  by_cases hb : b < 0
  · rw [if_pos hb] at hl; exact absurd rfl hl
  · rw [if_neg hb, wrapF_eq]
    have e : Int.ofNat (Nat.pow 2 (Nat.min b.toNat k.bits)) = (2 : Int) ^ (min b.toNat k.bits) := by
      show ((2 ^ (min b.toNat k.bits) : Nat) : Int) = _
      simp
    rw [e]
    refine ⟨.int k (k.wrap (a * 2 ^ (min b.toNat k.bits))), ⟨fun _ _ => eqGuard_plain (by simp) (by simp), ?_⟩, rfl⟩
    simp [binOp, Op.shift, hb]
theorem shr_ok {t : TypeId} {x y : HV} {vx vy : Value} (hx : TRep g c x vx) (hy : TRep g c y vy) (hl : shr x y ≠ .dead) : ∃ z, BinOk Pr .shr t vx vy z w ∧ TRep g c (shr x y) z := by
  unfold shr at hl ⊢
  cases x <;> try exact absurd rfl hl
  rename_i k a
  cases y <;> try exact absurd rfl hl
  rename_i k' b
  have e1 : vx = .int k a := hx
  have e2 : vy = .int k' b := hy
  subst e1; subst e2
  simp only at hl ⊢
  by_cases hb : b < 0
  · rw [if_pos hb] at hl; exact absurd rfl hl
  · rw [if_neg hb]
    refine ⟨.int k (a.fdiv (2 ^ (min b.toNat k.bits))), ⟨fun _ _ => eqGuard_plain (by simp) (by simp), ?_⟩, ?_⟩
    · simp [binOp, Op.shift, hb]
    · cases a with
      | negSucc m => exact rfl
      | ofNat m =>
        show Value.int k _ = Value.int k _
        congr 1
        have : (2 : Int) ^ (min b.toNat k.bits) = ((2 ^ (min b.toNat k.bits) : Nat) : Int) := by simp
        rw [this]
        show Int.fdiv (m : Int) _ = ((m / 2 ^ (Nat.min b.toNat k.bits) : Nat) : Int)
        rw [Int.fdiv_eq_ediv_of_nonneg _ (Int.natCast_nonneg _)]
        rfl
theorem fltA_run {op : BinOp} {k : FloatKind} {a b r : Nat} (h : fltA op k a b = some r) : (Op.floatArith op k a b).run Pr w = .ok (.float k r) w := by
  cases op <;> simp only [fltA] at h <;> first | (simp [Op.floatArith, h]; done) | (cases h; done)
theorem flt_ok {op : BinOp} {t : TypeId} {x y : HV} {vx vy : Value} (hx : TRep g c x vx) (hy : TRep g c y vy) (hl : fltF op x y ≠ .dead) : ∃ z, BinOk Pr op t vx vy z w ∧ TRep g c (fltF op x y) z := by
  unfold fltF at hl ⊢
  cases x <;> try exact absurd rfl hl
  rename_i k a
  cases y <;> try exact absurd rfl hl
  rename_i k' b
  have e1 : vx = .float k a := hx
  have e2 : vy = .float k' b := hy
  subst e1; subst e2
  simp only at hl ⊢
  by_cases hk : k = k'
  · subst hk
    rw [if_pos rfl] at hl ⊢
    have gd : ∀ ox oy, (eqGuard op t ox oy (.float k a) (.float k b)).run Pr w = .ok () w := fun _ _ => eqGuard_plain (by simp) (by simp)
    cases op <;> simp only [fltV] at hl ⊢ <;> first
      | exact absurd rfl hl
      | exact ⟨_, ⟨gd, by simp [binOp, Op.floatCmp]⟩, rfl⟩
      | (split at hl
         · rename_i r hr
           exact ⟨_, ⟨gd, by simp only [binOp]; simp [fltA_run hr]⟩, rfl⟩
         · exact absurd rfl hl)
  · rw [if_neg hk] at hl; exact absurd rfl hl
theorem cpxA_run {op : BinOp} {k : FloatKind} {a b r : Nat} (h : fltA op k a b = some r) : (Op.Complex.arith op k a b).run Pr w = .ok r w := by
  simp [Op.Complex.arith, fltA_run h]
theorem cpxC_run (k : FloatKind) (a b : Nat) : (Op.Complex.cmp .eql k a b).run Pr w = .ok (k.format.order a b == some .eq) w := by
  simp [Op.Complex.cmp, Op.floatCmp, asBool]
theorem cpx_ok {op : BinOp} {t : TypeId} {x y : HV} {vx vy : Value} (hx : TRep g c x vx) (hy : TRep g c y vy) (hl : cpxF op x y ≠ .dead) : ∃ z, BinOk Pr op t vx vy z w ∧ TRep g c (cpxF op x y) z := by
  unfold cpxF at hl ⊢
  cases x <;> try exact absurd rfl hl
  rename_i k a b
  cases y <;> try exact absurd rfl hl
  rename_i k' a' b'
  have e1 : vx = .complex k a b := hx
  have e2 : vy = .complex k' a' b' := hy
  subst e1; subst e2
  simp only at hl ⊢
  by_cases hk : k = k'
  · subst hk
    rw [if_pos rfl] at hl ⊢
    have gd : ∀ ox oy, (eqGuard op t ox oy (.complex k a b) (.complex k a' b')).run Pr w = .ok () w := fun _ _ => eqGuard_plain (by simp) (by simp)
    cases op <;> simp only [cpxV] at hl ⊢ <;> try exact absurd rfl hl
    · split at hl
      · rename_i p q hp hq
        exact ⟨_, ⟨gd, by simp [binOp, Op.complexOp, cpxA_run hp, cpxA_run hq]⟩, rfl⟩
      · exact absurd rfl hl
    · split at hl
      · rename_i p q hp hq
        exact ⟨_, ⟨gd, by simp [binOp, Op.complexOp, cpxA_run hp, cpxA_run hq]⟩, rfl⟩
      · exact absurd rfl hl
    · by_cases hk : k = .f64
      · subst hk
        rw [if_pos rfl] at hl ⊢
        split at hl
        · rename_i ac bd ad bc h1 h2 h3 h4
          split at hl
          · rename_i p q hp hq
            refine ⟨.complex .f64 p q, ⟨gd, ?_⟩, rfl⟩
            simp [binOp, Op.complexOp, Op.Complex.conv, Op.Complex.product, Op.Complex.mul, Op.Complex.sub, Op.Complex.add, cpxA_run h1, cpxA_run h2, cpxA_run h3, cpxA_run h4, cpxA_run hp, cpxA_run hq]
          · exact absurd rfl hl
        · exact absurd rfl hl
      · rw [if_neg hk] at hl; exact absurd rfl hl
    · exact ⟨_, ⟨gd, by simp [binOp, Op.complexOp, cpxC_run]⟩, rfl⟩
    · exact ⟨_, ⟨gd, by simp [binOp, Op.complexOp, cpxC_run]⟩, rfl⟩
  · rw [if_neg hk] at hl; exact absurd rfl hl
theorem str_ok {op : BinOp} {t : TypeId} {x y : HV} {vx vy : Value} (hx : TRep g c x vx) (hy : TRep g c y vy) (hl : strF op x y ≠ .dead) : ∃ z, BinOk Pr op t vx vy z w ∧ TRep g c (strF op x y) z := by
  unfold strF at hl ⊢
  cases x <;> try exact absurd rfl hl
  rename_i n d
  cases y <;> try exact absurd rfl hl
  rename_i m e
  obtain ⟨hd, e1⟩ : d < 256 ^ n ∧ vx = strOf n d := hx
  obtain ⟨he, e2⟩ : e < 256 ^ m ∧ vy = strOf m e := hy
  subst e1; subst e2
  simp only at hl ⊢
  have gd : ∀ ox oy, (eqGuard op t ox oy (strOf n d) (strOf m e)).run Pr w = .ok () w := fun _ _ => eqGuard_plain (by simp [strOf]) (by simp [strOf])
  have q1 := sEq_eq hd he
  have q2 := sLess_eq n d m e
  cases op <;> simp only [strV] at hl ⊢ <;> try exact absurd rfl hl
  · by_cases hle : Nat.ble (Nat.add n m) 9223372036854775807 = true
    · rw [if_pos hle]
      have hle' := Nat.le_of_ble_eq_true hle
      have hle' : n + m ≤ 9223372036854775807 := hle'
      refine ⟨strOf (n + m) (d + e * 256 ^ n), ⟨gd, ?_⟩, append_lt hd he, rfl⟩
      have hsz1 : (⟨(bytesOf n d).toArray⟩ : ByteArray).size = n := by simp [ByteArray.size, bytesOf_length]
      have hsz2 : (⟨(bytesOf m e).toArray⟩ : ByteArray).size = m := by simp [ByteArray.size, bytesOf_length]
      have h3 : IntKind.i64.max = 9223372036854775807 := by decide
      have hs : ¬ (IntKind.i64.max < (((⟨(bytesOf n d).toArray⟩ : ByteArray).size : Int) + ((⟨(bytesOf m e).toArray⟩ : ByteArray).size : Int))) := by
        rw [hsz1, hsz2, h3]; omega
      have hs' : (((⟨(bytesOf n d).toArray⟩ : ByteArray).size : Int) + ((⟨(bytesOf m e).toArray⟩ : ByteArray).size : Int)) ≤ 9223372036854775807 := by
        rw [hsz1, hsz2]; omega
      have ha : (⟨(bytesOf n d).toArray⟩ : ByteArray) ++ ⟨(bytesOf m e).toArray⟩ = ⟨(bytesOf n d ++ bytesOf m e).toArray⟩ := by
        apply ByteArray.ext
        simp
      simp only [strOf, bytesOf_append n m d e hd]
      simp [binOp, Op.stringOp, hs, ha]
      first | done | exact hs'
    · rw [if_neg hle] at hl; exact absurd rfl hl
  · exact ⟨.bool (bytesOf n d == bytesOf m e), ⟨gd, by simp only [strOf]; simp [binOp, Op.stringOp]⟩, by rw [q1]; rfl⟩
  · exact ⟨.bool (!(bytesOf n d == bytesOf m e)), ⟨gd, by simp only [strOf]; simp [binOp, Op.stringOp]⟩, by rw [q1]; rfl⟩
  · exact ⟨.bool (Op.bytesLess (bytesOf n d) (bytesOf m e)), ⟨gd, by simp only [strOf]; simp [binOp, Op.stringOp]⟩, by rw [q2]; rfl⟩
  · exact ⟨.bool (Op.bytesLess (bytesOf n d) (bytesOf m e) || bytesOf n d == bytesOf m e), ⟨gd, by simp only [strOf]; simp [binOp, Op.stringOp]⟩, by rw [q1, q2]; rfl⟩
  · exact ⟨.bool (!(Op.bytesLess (bytesOf n d) (bytesOf m e) || bytesOf n d == bytesOf m e)), ⟨gd, by simp only [strOf]; simp [binOp, Op.stringOp]⟩, by rw [q1, q2]; rfl⟩
  · exact ⟨.bool (!(Op.bytesLess (bytesOf n d) (bytesOf m e))), ⟨gd, by simp only [strOf]; simp [binOp, Op.stringOp]⟩, by rw [q2]; rfl⟩
theorem bool_ok {op : BinOp} {t : TypeId} (hu : Pr.underlying t = some .bool) {x y : HV} {vx vy : Value} (hx : TRep g c x vx) (hy : TRep g c y vy) (hl : boolF op x y ≠ .dead) : ∃ z, BinOk Pr op t vx vy z w ∧ TRep g c (boolF op x y) z := by
  unfold boolF at hl ⊢
  cases x <;> try exact absurd rfl hl
  rename_i a
  cases y <;> try exact absurd rfl hl
  rename_i b
  have e1 : vx = .bool a := hx
  have e2 : vy = .bool b := hy
  subst e1; subst e2
  have gd : ∀ ox oy, (eqGuard op t ox oy (.bool a) (.bool b)).run Pr w = .ok () w := fun _ _ => eqGuard_plain (by simp) (by simp)
  have q := run_equalIn_bool (P := Pr) w 9999 t a b hu
  cases op <;> simp only at hl ⊢ <;> try exact absurd rfl hl
  · exact ⟨.bool (a == b), ⟨gd, by simp [binOp, Op.equal, Op.maxDepth, q]⟩, rfl⟩
  · exact ⟨.bool (!(a == b)), ⟨gd, by simp [binOp, Op.equal, Op.maxDepth, q]⟩, rfl⟩
theorem sizeT_run {t : TypeId} {n : Nat} (h : sizeT Pr t = some n) : (sizeOf t).run Pr w = .ok n w := by
  obtain ⟨i, hi, rfl⟩ := Option.map_eq_some_iff.1 h
  simp [sizeOf, typeInfo, hi]
theorem sizeT_cells {t : TypeId} {n : Nat} (h : sizeT Pr t = some n) : Pr.cellsOf t = n := by
  unfold sizeT at h
  simp [Program.cellsOf, h]
theorem aggT_run {t : TypeId} {b : Bool} (h : aggT Pr t = some b) : (isAgg t).run Pr w = .ok b w := by
  unfold aggT at h
  split at h <;> first
    | (cases h; done)
    | (rename_i hu
       simp only [Option.some.injEq] at h; subst h
       simp [isAgg, run_underlying hu])
    | (rename_i d h1 h2 hu
       simp only [Option.some.injEq] at h; subst h
       cases d <;> simp [isAgg, run_underlying hu] <;> first
         | exact absurd rfl (h1 _)
         | exact absurd rfl (h2 _ _))
theorem lget_some {i : Nat} {cs : List HV} (h : lget i cs ≠ .dead) : cs[i]? = some (lget i cs) := by
  induction i generalizing cs with
  | zero =>
    cases cs with
    | nil => exact absurd rfl h
    | cons a r => rfl
  | succ i ih =>
    cases cs with
    | nil =>
      exfalso
      have : ∀ j, lget j ([] : List HV) = .dead := by
        intro j; induction j with
        | zero => rfl
        | succ j ih => exact ih
      exact h (this i)
    | cons a r =>
      have := ih (cs := r) h
      rw [List.getElem?_cons_succ]
      exact this
theorem CReps.drop {cs : List HV} {vs : List Value} (h : CReps g c cs vs) (n : Nat) : CReps g c (cs.drop n) (vs.drop n) :=
  ⟨by simp [h.1], fun i x u hx hu => h.2 (n + i) x u (by simpa using hx) (by simpa using hu)⟩
theorem CReps.take {cs : List HV} {vs : List Value} (h : CReps g c cs vs) (n : Nat) : CReps g c (cs.take n) (vs.take n) :=
  ⟨by simp [h.1], fun i x u hx hu => by
    rw [List.getElem?_take] at hx hu
    split at hx
    · rename_i hi; rw [if_pos hi] at hu; exact h.2 i x u hx hu
    · cases hx⟩
theorem CReps.append {cs ds : List HV} {vs us : List Value} (h : CReps g c cs vs) (k : CReps g c ds us) : CReps g c (cs ++ ds) (vs ++ us) := by
  refine ⟨by simp [h.1, k.1], fun i x u hx hu => ?_⟩
  by_cases hi : i < cs.length
  · rw [List.getElem?_append_left hi] at hx
    rw [List.getElem?_append_left (by rw [h.1]; exact hi)] at hu
    exact h.2 i x u hx hu
  · rw [List.getElem?_append_right (by omega)] at hx
    rw [List.getElem?_append_right (by rw [h.1]; omega), h.1] at hu
    exact k.2 _ x u hx hu
theorem CReps.get {cs : List HV} {vs : List Value} (h : CReps g c cs vs) {i : Nat} {x : HV} (hx : cs[i]? = some x) : ∃ u, vs[i]? = some u ∧ CRep g c x u ∧ u.oneCell' = true := by
  have hi := (List.getElem?_eq_some_iff.1 hx).1
  have hv : vs[i]? = some (vs[i]'(by rw [h.1]; exact hi)) := List.getElem?_eq_getElem _
  exact ⟨_, hv, h.2 i x _ hx hv⟩
theorem part_ok {t : TypeId} {cs : List HV} {vs : List Value} {off n : Nat} {b : Bool} (hn : sizeT Pr t = some n) (ha : aggT Pr t = some b) (hc : CReps g c cs vs) (hl : partV b n off cs ≠ .dead) :
    ∃ v, (part t vs.toArray off).run Pr w = .ok v w ∧ VRep g c (partV b n off cs) v := by
  cases b with
  | false =>
    have e : partV false n off cs = lget off cs := rfl
    rw [e] at hl ⊢
    obtain ⟨u, hu, h1, h2⟩ := hc.get (lget_some hl)
    refine ⟨u, ?_, VRep.of_cell h1⟩
    simp [part, aggT_run ha, hu]
  | true =>
    have e : partV true n off cs = if Nat.ble (Nat.add off n) cs.length then .agg ((cs.drop off).take n) else .dead := rfl
    rw [e] at hl ⊢
    by_cases hb : Nat.ble (Nat.add off n) cs.length = true
    · rw [if_pos hb]
      refine ⟨.agg ((vs.drop off).take n).toArray, ?_, _, rfl, (hc.drop off).take n⟩
      simp [part, aggT_run ha, sizeT_run hn]
    · rw [if_neg hb] at hl; exact absurd rfl hl
theorem eqFs_ok {d : Nat} {eq : TypeId → HV → HV → Option Bool} (ih : ∀ (t : TypeId) (x y : HV) (vx vy : Value) (b : Bool), VRep g c x vx → VRep g c y vy → eq t x y = some b → (Op.equalIn d t vx vy).run Pr w = .ok b w)
    (hdead : ∀ t x y b, eq t x y = some b → x ≠ .dead ∧ y ≠ .dead) :
    ∀ (fs : List Field) (xs ys : List HV) (us vs : List Value) (b : Bool), CReps g c xs us → CReps g c ys vs → eqFs Pr eq fs xs ys = some b → (Op.eqFields d us.toArray vs.toArray fs).run Pr w = .ok b w
  | [], xs, ys, us, vs, b, hx, hy, h => by simp [eqFs] at h; subst h; simp [Op.eqFields]
  | f :: r, xs, ys, us, vs, b, hx, hy, h => by
    rw [eqFs] at h
    by_cases hn : f.name = "_"
    · rw [if_pos hn] at h
      have := eqFs_ok ih hdead r xs ys us vs b hx hy h
      simpa [Op.eqFields, hn] using this
    · rw [if_neg hn] at h
      split at h
      · rename_i n ag h1 h2
        split at h
        · rename_i he
          obtain ⟨l1, l2⟩ := hdead _ _ _ _ he
          obtain ⟨va, hra, hva⟩ := part_ok (w := w) h1 h2 hx l1
          obtain ⟨vc, hrc, hvc⟩ := part_ok (w := w) h1 h2 hy l2
          have hq := ih f.type _ _ va vc true hva hvc he
          have := eqFs_ok ih hdead r xs ys us vs b hx hy h
          simp only [Op.eqFields, ne_eq, hn, not_false_eq_true, if_true, Sem.run_bind, hra, hrc, hq, Result.andThen_ok]
          simpa using this
        · rename_i he
          obtain ⟨l1, l2⟩ := hdead _ _ _ _ he
          obtain ⟨va, hra, hva⟩ := part_ok (w := w) h1 h2 hx l1
          obtain ⟨vc, hrc, hvc⟩ := part_ok (w := w) h1 h2 hy l2
          have hq := ih f.type _ _ va vc false hva hvc he
          simp only [Option.some.injEq] at h; subst h
          simp [Op.eqFields, hn, hra, hrc, hq]
        · cases h
      · cases h
theorem eqIn_live : ∀ (d : Nat) (t : TypeId) (x y : HV) (b : Bool), eqIn Pr d t x y = some b → x ≠ .dead ∧ y ≠ .dead
  | 0, t, x, y, b, h => by simp [eqIn] at h
  | d + 1, t, x, y, b, h => by
    unfold eqIn at h
    split at h <;> first | (cases h; done) | exact ⟨by simp, by simp⟩
theorem eqIn_ok : ∀ (d : Nat) (t : TypeId) (x y : HV) (vx vy : Value) (b : Bool), VRep g c x vx → VRep g c y vy → eqIn Pr d t x y = some b → (Op.equalIn d t vx vy).run Pr w = .ok b w := by
  intro d
  induction d with
  | zero => intro t x y vx vy b _ _ h; simp [eqIn] at h
  | succ d ih =>
    intro t x y vx vy b hx hy h
    unfold eqIn at h
    split at h
    · rename_i p q hu
      have e1 : vx = .bool p := hx
      have e2 : vy = .bool q := hy
      subst e1; subst e2
      simp only [Option.some.injEq] at h; subst h
      exact run_equalIn_bool w d t p q hu
    · rename_i k0 k p k' q hu
      have e1 : vx = .int k p := hx
      have e2 : vy = .int k' q := hy
      subst e1; subst e2
      split at h
      · rename_i hk
        subst hk
        simp only [Option.some.injEq] at h; subst h
        exact run_equalIn_int w d t k k0 p q hu
      · cases h
    · rename_i k0 k p k' q hu
      have e1 : vx = .float k p := hx
      have e2 : vy = .float k' q := hy
      subst e1; subst e2
      split at h
      · rename_i hk
        subst hk
        simp only [Option.some.injEq] at h; subst h
        simp [Op.equalIn, run_underlying hu]
      · cases h
    · rename_i k0 k p p' k' q q' hu
      have e1 : vx = .complex k p p' := hx
      have e2 : vy = .complex k' q q' := hy
      subst e1; subst e2
      split at h
      · rename_i hk
        subst hk
        simp only [Option.some.injEq] at h; subst h
        simp [Op.equalIn, run_underlying hu]
      · cases h
    · rename_i n p m q hu
      obtain ⟨hd, e1⟩ : p < 256 ^ n ∧ vx = strOf n p := hx
      obtain ⟨he, e2⟩ : q < 256 ^ m ∧ vy = strOf m q := hy
      subst e1; subst e2
      simp only [Option.some.injEq] at h; subst h
      simp only [strOf]
      rw [run_equalIn_string w d t _ _ hu, sEq_eq hd he]
      simp
    · rename_i fields xs ys hu
      obtain ⟨us, rfl, hus⟩ := hx
      obtain ⟨vs, rfl, hvs⟩ := hy
      split at h
      · cases h
      · rename_i hst
        have hf : Pr.fieldsOf t = fields := by simp [Program.fieldsOf, hu]
        rw [run_equalIn_struct w d t _ _ (by rw [hf]; exact hu) (by simpa using hst), hf]
        exact eqFs_ok ih (fun t x y b => eqIn_live d t x y b) fields.toList xs ys us vs b hus hvs h
    · cases h
theorem agg_ok {op : BinOp} {t : TypeId} {x y : HV} {vx vy : Value} (hx : TRep g c x vx) (hy : TRep g c y vy) (hl : aggF Pr op t x y ≠ .dead) : ∃ z, BinOk Pr op t vx vy z w ∧ TRep g c (aggF Pr op t x y) z := by
  unfold aggF at hl ⊢
  cases x <;> try exact absurd rfl hl
  rename_i a
  cases y <;> try exact absurd rfl hl
  rename_i b
  obtain ⟨us, e1, hus⟩ := hx
  obtain ⟨vs, e2, hvs⟩ := hy
  have hx' : VRep g c (.agg a) vx := ⟨us, e1, hus⟩
  have hy' : VRep g c (.agg b) vy := ⟨vs, e2, hvs⟩
  simp only at hl ⊢
  by_cases hg : Pr.eqGuardType Pr.depth t = true
  · rw [if_pos hg] at hl; exact absurd rfl hl
  · rw [if_neg hg] at hl ⊢
    subst e1; subst e2
    have gd : ∀ ox oy, (eqGuard op t ox oy (.agg us.toArray) (.agg vs.toArray)).run Pr w = .ok () w := fun ox oy => run_eqGuard_agg (P := Pr) w op t ox oy us.toArray vs.toArray (by simpa using hg)
    cases hb : eqIn Pr 10000 t (.agg a) (.agg b) with
    | none => rw [hb] at hl; cases op <;> exact absurd rfl hl
    | some r =>
      rw [hb] at hl
      have q := eqIn_ok (w := w) 10000 t _ _ _ _ r hx' hy' hb
      cases op <;> simp only at hl ⊢ <;> try exact absurd rfl hl
      · exact ⟨.bool r, ⟨gd, by rw [run_eql_struct, q]; rfl⟩, rfl⟩
      · exact ⟨.bool (!r), ⟨gd, by rw [run_neq_struct, q]; rfl⟩, rfl⟩
theorem nil_ok {op : BinOp} {t : TypeId} {q : HV → HV → Option Bool} {x y : HV} {vx vy : Value} (hq : ∀ b, q x y = some b → (Op.equalIn 10000 t vx vy).run Pr w = .ok b w ∧ (∀ ox oy, (eqGuard op t ox oy vx vy).run Pr w = .ok () w) ∧
      (binOp .eql t vx vy).run Pr w = (((Op.equalIn 10000 t vx vy).run Pr w).andThen fun b w' => .ok (.bool b) w') ∧ (binOp .neq t vx vy).run Pr w = (((Op.equalIn 10000 t vx vy).run Pr w).andThen fun b w' => .ok (.bool (!b)) w'))
    (hl : nilF q op x y ≠ .dead) : ∃ z, BinOk Pr op t vx vy z w ∧ TRep g c (nilF q op x y) z := by
  unfold nilF at hl ⊢
  cases hb : q x y with
  | none => rw [hb] at hl; exact absurd rfl hl
  | some b =>
    obtain ⟨h1, h2, h3, h4⟩ := hq b hb
    rw [hb] at hl
    cases op <;> simp only at hl ⊢ <;> try exact absurd rfl hl
    · exact ⟨.bool b, ⟨h2, by rw [h3, h1]; rfl⟩, rfl⟩
    · exact ⟨.bool (!b), ⟨h2, by rw [h4, h1]; rfl⟩, rfl⟩
theorem nilP_ok {op : BinOp} {t e : TypeId} (hu : Pr.underlying t = some (.pointer e)) {x y : HV} {vx vy : Value} (hx : TRep g c x vx) (hy : TRep g c y vy) (hl : nilF nilP op x y ≠ .dead) : ∃ z, BinOk Pr op t vx vy z w ∧ TRep g c (nilF nilP op x y) z := by
  refine nil_ok (fun b hb => ?_) hl
  unfold nilP at hb
  have key : ∀ A B, vx = .pointer A → vy = .pointer B → (A = none ∨ B = none) → (A.isNone && B.isNone) = b → (Op.equalIn 10000 t vx vy).run Pr w = .ok b w ∧ (∀ ox oy, (eqGuard op t ox oy vx vy).run Pr w = .ok () w) ∧
      (binOp .eql t vx vy).run Pr w = (((Op.equalIn 10000 t vx vy).run Pr w).andThen fun b w' => .ok (.bool b) w') ∧ (binOp .neq t vx vy).run Pr w = (((Op.equalIn 10000 t vx vy).run Pr w).andThen fun b w' => .ok (.bool (!b)) w') := by
    rintro A B rfl rfl hab hb
    refine ⟨?_, fun _ _ => eqGuard_plain (by simp) (by simp), ?_, ?_⟩
    · have q : ∀ d, (Op.equalIn (d + 1) t (.pointer A) (.pointer B)).run Pr w = .ok b w := fun d => by
        rcases A with _ | A <;> rcases B with _ | B <;> simp [Op.equalIn, run_underlying hu] at hab hb ⊢ <;> exact hb
      exact q 9999
    · simp [binOp, Op.equal, Op.maxDepth]
    · simp [binOp, Op.equal, Op.maxDepth]
  split at hb
  · simp only [Option.some.injEq] at hb
    exact key none none hx hy (.inl rfl) hb
  · simp only [Option.some.injEq] at hb
    exact key _ none hx.2 hy (.inr rfl) (by simpa using hb)
  · simp only [Option.some.injEq] at hb
    exact key none _ hx hy.2 (.inl rfl) (by simpa using hb)
  · cases hb
theorem nilS_ok {op : BinOp} {t e : TypeId} (hu : Pr.underlying t = some (.slice e)) {x y : HV} {vx vy : Value} (hx : TRep g c x vx) (hy : TRep g c y vy) (hl : nilF nilS op x y ≠ .dead) : ∃ z, BinOk Pr op t vx vy z w ∧ TRep g c (nilF nilS op x y) z := by
  refine nil_ok (fun b hb => ?_) hl
  unfold nilS at hb
  have key : ∀ A n m, vx = .slice A n m → vy = .slice none 0 0 → A.isNone = b → (Op.equalIn 10000 t vx vy).run Pr w = .ok b w ∧ (∀ ox oy, (eqGuard op t ox oy vx vy).run Pr w = .ok () w) ∧
      (binOp .eql t vx vy).run Pr w = (((Op.equalIn 10000 t vx vy).run Pr w).andThen fun b w' => .ok (.bool b) w') ∧ (binOp .neq t vx vy).run Pr w = (((Op.equalIn 10000 t vx vy).run Pr w).andThen fun b w' => .ok (.bool (!b)) w') := by
    rintro A n m rfl rfl hb
    refine ⟨?_, fun _ _ => eqGuard_plain (by simp) (by simp), ?_, ?_⟩
    · have q : ∀ d, (Op.equalIn (d + 1) t (.slice A n m) (.slice none 0 0)).run Pr w = .ok b w := fun d => by
        cases A <;> simp [Op.equalIn, run_underlying hu] at hb ⊢ <;> exact hb
      exact q 9999
    · simp [binOp, Op.equal, Op.maxDepth]
    · simp [binOp, Op.equal, Op.maxDepth]
  split at hb
  · simp only [Option.some.injEq] at hb
    exact key none 0 0 hx hy hb
  · simp only [Option.some.injEq] at hb
    obtain ⟨_, A, m, h1, _⟩ := hx
    exact key _ _ _ h1 hy (by simpa using hb)
  · cases hb
theorem nilFn_ok {op : BinOp} {t : TypeId} {ps rs : Array TypeId} {vd : Bool} (hu : Pr.underlying t = some (.func ps rs vd)) {x y : HV} {vx vy : Value} (hx : TRep g c x vx) (hy : TRep g c y vy) (hl : nilF nilFn op x y ≠ .dead) : ∃ z, BinOk Pr op t vx vy z w ∧ TRep g c (nilF nilFn op x y) z := by
  refine nil_ok (fun b hb => ?_) hl
  unfold nilFn at hb
  split at hb
  · simp only [Option.some.injEq] at hb
    have e1 : vx = .nilFunc := hx
    have e2 : vy = .nilFunc := hy
    subst e1; subst e2; subst hb
    have q : ∀ d, (Op.equalIn (d + 1) t .nilFunc .nilFunc).run Pr w = .ok true w := fun d => by simp [Op.equalIn, run_underlying hu]
    refine ⟨q 9999, fun _ _ => eqGuard_plain (by simp) (by simp), ?_, ?_⟩
    · simp [binOp, Op.equal, Op.maxDepth]
    · simp [binOp, Op.equal, Op.maxDepth]
  · simp only [Option.some.injEq] at hb
    obtain ⟨_, e1⟩ := hx
    have e2 : vy = .nilFunc := hy
    subst e1; subst e2; subst hb
    have q : ∀ d f a b, (Op.equalIn (d + 1) t (.func f a b) .nilFunc).run Pr w = .ok false w := fun d f a b => by simp [Op.equalIn, run_underlying hu]
    refine ⟨q 9999 _ _ _, fun _ _ => eqGuard_plain (by simp) (by simp), ?_, ?_⟩
    · simp [binOp, Op.equal, Op.maxDepth]
    · simp [binOp, Op.equal, Op.maxDepth]
  · cases hb
theorem nilI_ok {op : BinOp} {t : TypeId} {ms : Array (String × TypeId)} (hu : Pr.underlying t = some (.interface ms)) {ox oy : Operand} (hc : (isConstO ox || isConstO oy) = true) {x y : HV} {vx vy : Value} (hx : TRep g c x vx) (hy : TRep g c y vy) (hl : nilF nilI op x y ≠ .dead) :
    ∃ z, ((eqGuard op t ox oy vx vy).run Pr w = .ok () w ∧ (binOp op t vx vy).run Pr w = .ok z w) ∧ TRep g c (nilF nilI op x y) z := by
  unfold nilF nilI at hl ⊢
  split at hl
  · rename_i b hb
    split at hb
    · simp only [Option.some.injEq] at hb
      subst hb
      have e1 : vx = .nilIface := hx
      have e2 : vy = .nilIface := hy
      subst e1; subst e2
      have q : ∀ d, (Op.equalIn (d + 1) t .nilIface .nilIface).run Pr w = .ok true w := fun d => by simp [Op.equalIn, run_underlying hu]
      have gd : (eqGuard op t ox oy .nilIface .nilIface).run Pr w = .ok () w := by
        cases ox <;> cases oy <;> first | (exfalso; revert hc; simp [isConstO]; done) | (unfold eqGuard; cases op <;> simp; done)
      cases op <;> first | (exact absurd rfl hl) | skip
      · refine ⟨.bool true, ⟨gd, ?_⟩, rfl⟩
        have := q 9999
        simp [binOp, Op.equal, Op.maxDepth, this]
      · refine ⟨.bool false, ⟨gd, ?_⟩, rfl⟩
        have := q 9999
        simp [binOp, Op.equal, Op.maxDepth, this]
    · cases hb
  · exact absurd rfl hl
theorem md_bin {op : BinOp} {t : TypeId} {k k' : IntKind} {a b : Int} {z : Value} (h : (binOp op t (.int k a) (.int k' b)).run Pr w = .ok z w) : BinOk Pr op t (.int k a) (.int k' b) z w :=
  ⟨fun ox oy => eqGuard_plain (by simp) (by simp), h⟩
theorem mdW_ok {op : BinOp} {t : TypeId} {q : IntKind → Nat → Nat → HV → HV} {f : HV → HV → HV} {x y : HV} {vx vy : Value} (hx : TRep g c x vx) (hy : TRep g c y vy) (hl : mdW q f x y ≠ .dead)
    (hf : f x y ≠ .dead → ∃ z, BinOk Pr op t vx vy z w ∧ TRep g c (f x y) z)
    (hq : ∀ k n m, q k m (n % m) y ≠ .dead → n ≤ top k → ∃ z, BinOk Pr op t (.int k (Int.ofNat n)) vy z w ∧ TRep g c (q k m (n % m) y) z) : ∃ z, BinOk Pr op t vx vy z w ∧ TRep g c (mdW q f x y) z := by
  cases x <;> try exact hf hl
  rename_i k m r
  obtain ⟨n, rfl, rfl, hn⟩ := hx
  exact hq k n m hl hn
theorem and_one : ∀ n, n ≤ 255 → andI .u8 (Int.ofNat n) (Int.ofNat 1) = Int.ofNat (n % 2) := by
  have h : ∀ n : Fin 256, andI .u8 (Int.ofNat n.1) (Int.ofNat 1) = Int.ofNat (n.1 % 2) := by decide +kernel
  exact fun n hn => h ⟨n, by omega⟩
theorem remM_ok {t : TypeId} {k : IntKind} {n m : Nat} {y : HV} {vy : Value} (hy : TRep g c y vy) (hl : remM k m (n % m) y ≠ .dead) : ∃ z, BinOk Pr .rem t (.int k (Int.ofNat n)) vy z w ∧ TRep g c (remM k m (n % m) y) z := by
  unfold remM at hl ⊢
  split at hl
  · rename_i k' b
    have e2 : vy = .int k' (Int.ofNat b) := hy
    subst e2
    split at hl
    · rename_i hc
      simp only [hc, if_true]
      simp only [Bool.and_eq_true, Bool.not_eq_true'] at hc
      obtain ⟨⟨c1, c2⟩, c3⟩ := hc
      have := ikEq_eq c1; subst this
      have hb : b ≠ 0 := fun e => by subst e; cases c2
      have hd : b ∣ m := Nat.dvd_of_mod_eq_zero (Nat.eq_of_beq_eq_true c3)
      have hb' : ¬ (Int.ofNat b = 0) := fun e => hb (Int.ofNat.inj e)
      refine ⟨.int k ((Int.ofNat n).tmod (Int.ofNat b)), md_bin (by simp [binOp, Op.intDiv, hb]), ?_⟩
      show Value.int k (Int.ofNat (n % b)) = Value.int k (Int.ofNat (n % m % b))
      rw [Nat.mod_mod_of_dvd _ hd]
    · exact absurd rfl hl
  · exact absurd rfl hl
theorem andM_ok {t : TypeId} {k : IntKind} {n m : Nat} {y : HV} {vy : Value} (hy : TRep g c y vy) (hn : n ≤ top k) (hl : andM k m (n % m) y ≠ .dead) : ∃ z, BinOk Pr .and t (.int k (Int.ofNat n)) vy z w ∧ TRep g c (andM k m (n % m) y) z := by
  unfold andM at hl ⊢
  split at hl
  · rename_i k' b
    have e2 : vy = .int k' (Int.ofNat b) := hy
    subst e2
    split at hl
    · rename_i hc
      simp only [hc, if_true]
      simp only [Bool.and_eq_true] at hc
      obtain ⟨⟨c1, c2⟩, c3⟩ := hc
      have := ikEq_eq c1; subst this
      have := ikEq_eq c2; subst this
      have := Nat.eq_of_beq_eq_true c3; subst this
      have hn : n ≤ 255 := hn
      refine ⟨.int .u8 (andI .u8 (Int.ofNat n) (Int.ofNat 1)), md_bin (by simp [binOp, Op.intBits]; rfl), ?_⟩
      rw [and_one n hn]
      split
      · rename_i h2
        have hd : 2 ∣ m := Nat.dvd_of_mod_eq_zero (Nat.eq_of_beq_eq_true h2)
        show Value.int .u8 (Int.ofNat (n % 2)) = Value.int .u8 (Int.ofNat (n % m % 2))
        rw [Nat.mod_mod_of_dvd _ hd]
      · exact ⟨n % 2, rfl, Nat.mod_one _, by show n % 2 ≤ 255; omega⟩
    · exact absurd rfl hl
  · exact absurd rfl hl
theorem eqlM_ok {t : TypeId} {k : IntKind} {n m : Nat} {y : HV} {vy : Value} (hy : TRep g c y vy) (hl : eqlM k m (n % m) y ≠ .dead) : ∃ z, BinOk Pr .eql t (.int k (Int.ofNat n)) vy z w ∧ TRep g c (eqlM k m (n % m) y) z := by
  unfold eqlM at hl ⊢
  split at hl
  · rename_i k' b
    have e2 : vy = .int k' (Int.ofNat b) := hy
    subst e2
    split at hl
    · rename_i hc
      simp only [hc, if_true]
      have := ikEq_eq hc; subst this
      refine ⟨.bool (Int.ofNat n == Int.ofNat b), md_bin (by simp [binOp, Op.intCmp]), ?_⟩
      split
      · exact ⟨_, rfl⟩
      · rename_i h2
        show Value.bool _ = Value.bool false
        congr 1
        rw [beq_eq_false_iff_ne]
        intro e
        have := Int.ofNat.inj e
        subst this
        exact h2 (Nat.beq_refl _)
    · exact absurd rfl hl
  · exact absurd rfl hl
theorem shrM_ok {t : TypeId} {k : IntKind} {n m : Nat} {y : HV} {vy : Value} (hy : TRep g c y vy) (hn : n ≤ top k) (hl : shrM k m (n % m) y ≠ .dead) : ∃ z, BinOk Pr .shr t (.int k (Int.ofNat n)) vy z w ∧ TRep g c (shrM k m (n % m) y) z := by
  unfold shrM at hl ⊢
  split at hl
  · rename_i k' b
    have e2 : vy = .int k' (Int.ofNat b) := hy
    subst e2
    have hb : ¬ (Int.ofNat b < 0) := by simp
    refine ⟨.int k (Int.ofNat (n / 2 ^ (min b k.bits))), md_bin ?_, ?_⟩
    · have : (Int.ofNat n).fdiv (2 ^ min b k.bits) = Int.ofNat (n / 2 ^ (min b k.bits)) := by
        have e : (2 : Int) ^ (min b k.bits) = Int.ofNat (2 ^ (min b k.bits)) := by simp
        rw [e]; exact (Int.ofNat_fdiv _ _).symm
      rw [← this]
      have hb2 : ¬ ((b : Int) < 0) := by omega
      simp [binOp, Op.shift, hb2]
    · split
      · rename_i h2
        have hd : 2 ^ (min b k.bits) ∣ m := Nat.dvd_of_mod_eq_zero (Nat.eq_of_beq_eq_true h2)
        obtain ⟨q, rfl⟩ := hd
        have hp : 0 < 2 ^ (min b k.bits) := Nat.pow_pos (by omega)
        refine ⟨n / 2 ^ (min b k.bits), rfl, ?_, Nat.le_trans (Nat.div_le_self _ _) hn⟩
        show n / 2 ^ (min b k.bits) % (2 ^ (min b k.bits) * q / 2 ^ (min b k.bits)) = n % (2 ^ (min b k.bits) * q) / 2 ^ (min b k.bits)
        rw [Nat.mul_div_cancel_left _ hp, Nat.mod_mul_right_div_self]
      · exact ⟨n / 2 ^ (min b k.bits), rfl, Nat.mod_one _, Nat.le_trans (Nat.div_le_self _ _) hn⟩
  · exact absurd rfl hl
theorem syW_ok {op : BinOp} {t : TypeId} {q : Nat → Nat → Bool} {f : HV → HV → HV} {x y : HV} {vx vy : Value} (hx : TRep g c x vx) (hy : TRep g c y vy) (hl : syW q f x y ≠ .dead)
    (hf : f x y ≠ .dead → ∃ z, BinOk Pr op t vx vy z w ∧ TRep g c (f x y) z)
    (hq : ∀ k i j, i < Env.m → j < Env.m → (binOp op t (.int k (Env.ρ i)) (.int k (Env.ρ j))).run Pr w = .ok (.bool (q i j)) w) : ∃ z, BinOk Pr op t vx vy z w ∧ TRep g c (syW q f x y) z := by
  cases x <;> try exact hf hl
  rename_i k i
  obtain ⟨hi, rfl⟩ : i < Env.m ∧ vx = .int k (Env.ρ i) := hx
  cases y <;> try exact absurd rfl hl
  rename_i k' j
  obtain ⟨hj, rfl⟩ : j < Env.m ∧ vy = .int k' (Env.ρ j) := hy
  by_cases hk : ikEq k k' = true
  · have := ikEq_eq hk; subst this
    refine ⟨_, md_bin (hq k i j hi hj), ?_⟩
    show TRep g c (if ikEq k k = true then HV.bool (q i j) else .dead) _
    rw [if_pos hk]
    exact rfl
  · refine absurd ?_ hl
    show (if ikEq k k' = true then HV.bool (q i j) else .dead) = .dead
    rw [if_neg hk]
theorem rho_lt {i j : Nat} (hi : i < Env.m) (hj : j < Env.m) : Env.ρ i < Env.ρ j ↔ i < j := by
  constructor
  · intro h
    rcases Nat.lt_trichotomy i j with h1 | h1 | h1
    · exact h1
    · subst h1; omega
    · have := Env.mono j i h1 hi; omega
  · intro h; exact Env.mono i j h hj
theorem rho_eq {i j : Nat} (hi : i < Env.m) (hj : j < Env.m) : Env.ρ i = Env.ρ j ↔ i = j := by
  constructor
  · intro h
    rcases Nat.lt_trichotomy i j with h1 | h1 | h1
    · have := Env.mono i j h1 hj; omega
    · exact h1
    · have := Env.mono j i h1 hi; omega
  · intro h; subst h; rfl
theorem par_one {k : IntKind} {n : Int} {r : Nat} (h : n % 2 = Int.ofNat r) : andI k n (Int.ofNat 1) = Int.ofNat r := by
  unfold andI
  have hb : 0 < k.bits := by cases k <;> decide
  have h1 : (BitVec.ofInt k.bits n &&& BitVec.ofInt k.bits (Int.ofNat 1)).toNat = r := by
    rw [BitVec.toNat_and, BitVec.toNat_ofInt, BitVec.toNat_ofInt]
    have e1 : (Int.ofNat 1 % ((2 ^ k.bits : Nat) : Int)).toNat = 1 := by cases k <;> rfl
    rw [e1, Nat.and_one_is_mod]
    have e2 : (n % ((2 ^ k.bits : Nat) : Int)) % 2 = n % 2 := by
      apply Int.emod_emod_of_dvd
      have : (2 : Nat) ∣ 2 ^ k.bits := (⟨2 ^ (k.bits - 1), by rw [Nat.mul_comm, ← Nat.pow_succ]; congr 1; omega⟩)
      exact Int.ofNat_dvd.2 this
    have e3 : 0 ≤ n % ((2 ^ k.bits : Nat) : Int) := Int.emod_nonneg _ (by have : 0 < 2 ^ k.bits := Nat.pow_pos (by decide); omega)
    rw [h] at e2
    have e4 : Int.ofNat r = (r : Int) := rfl
    rw [e4] at e2
    omega
  rw [h1]
  have hr : r < 2 := by have : Int.ofNat r = (r : Int) := rfl; omega
  have : r = 0 ∨ r = 1 := by omega
  rcases this with rfl | rfl <;> cases k <;> rfl
theorem parW_ok {t : TypeId} {f : HV → HV → HV} {x y : HV} {vx vy : Value} (hx : TRep g c x vx) (hy : TRep g c y vy) (hl : parW f x y ≠ .dead)
    (hf : f x y ≠ .dead → ∃ z, BinOk Pr .and t vx vy z w ∧ TRep g c (f x y) z) : ∃ z, BinOk Pr .and t vx vy z w ∧ TRep g c (parW f x y) z := by
  cases x <;> try exact hf hl
  rename_i k r
  obtain ⟨n, rfl, hn, _, _⟩ : ∃ n : Int, vx = .int k n ∧ n % 2 = Int.ofNat r ∧ k.min ≤ n ∧ n ≤ k.max := hx
  cases y <;> try exact absurd rfl hl
  rename_i k' b
  cases b with
  | negSucc b => exact absurd rfl hl
  | ofNat b =>
    have e2 : vy = .int k' (Int.ofNat b) := hy
    subst e2
    by_cases hc : (ikEq k k' && Nat.beq b 1) = true
    · have e : parW f (.par k r) (.int k' (Int.ofNat b)) = .int k (Int.ofNat r) := by
        show (if (ikEq k k' && Nat.beq b 1) = true then HV.int k (Int.ofNat r) else .dead) = _
        rw [if_pos hc]
      rw [e]
      simp only [Bool.and_eq_true] at hc
      have := ikEq_eq hc.1; subst this
      have := Nat.eq_of_beq_eq_true hc.2; subst this
      refine ⟨.int k (andI k n (Int.ofNat 1)), md_bin (by simp [binOp, Op.intBits]; rfl), ?_⟩
      rw [par_one hn]
      exact rfl
    · refine absurd ?_ hl
      show (if (ikEq k k' && Nat.beq b 1) = true then HV.int k (Int.ofNat r) else .dead) = .dead
      rw [if_neg hc]
theorem mdF_ok {op : BinOp} {t : TypeId} {f : HV → HV → HV} (h : mdF op (intF op) = .f f) {x y : HV} {vx vy : Value} (hx : TRep g c x vx) (hy : TRep g c y vy) (hl : f x y ≠ .dead) : ∃ z, BinOk Pr op t vx vy z w ∧ TRep g c (f x y) z := by
  unfold mdF at h
  split at h
  · rename_i f0 h0
    split at h
    · injection h with h; subst h; exact mdW_ok hx hy hl (fun hd => intF_ok h0 hx hy hd) fun k n m hd hn => remM_ok hy hd
    · injection h with h; subst h; exact parW_ok hx hy hl fun hd => mdW_ok hx hy hd (fun hd => intF_ok h0 hx hy hd) fun k n m hd hn => andM_ok hy hn hd
    · injection h with h; subst h
      refine syW_ok hx hy hl (fun hd => mdW_ok hx hy hd (fun hd => intF_ok h0 hx hy hd) fun k n m hd hn => eqlM_ok hy hd) fun k i j hi hj => ?_
      have e : (Env.ρ i == Env.ρ j) = Nat.beq i j := by rw [Bool.eq_iff_iff, beq_iff_eq, Nat.beq_eq]; exact rho_eq hi hj
      rw [← e]; simp [binOp, Op.intCmp]
    · injection h with h; subst h
      refine syW_ok hx hy hl (fun hd => intF_ok h0 hx hy hd) fun k i j hi hj => ?_
      have e : (Env.ρ i != Env.ρ j) = Bool.not (Nat.beq i j) := by
        show Bool.not (Env.ρ i == Env.ρ j) = _
        congr 1; rw [Bool.eq_iff_iff, beq_iff_eq, Nat.beq_eq]; exact rho_eq hi hj
      rw [← e]; simp [binOp, Op.intCmp]
    · injection h with h; subst h
      refine syW_ok hx hy hl (fun hd => intF_ok h0 hx hy hd) fun k i j hi hj => ?_
      have e : decide (Env.ρ i < Env.ρ j) = Nat.blt i j := by rw [Bool.eq_iff_iff, decide_eq_true_iff, Nat.blt_eq]; exact rho_lt hi hj
      rw [← e]; simp [binOp, Op.intCmp]
    · injection h with h; subst h
      refine syW_ok hx hy hl (fun hd => intF_ok h0 hx hy hd) fun k i j hi hj => ?_
      have e : decide (Env.ρ i ≤ Env.ρ j) = Nat.ble i j := by rw [Bool.eq_iff_iff, decide_eq_true_iff, Nat.ble_eq, ← Int.not_lt, rho_lt hj hi, Nat.not_lt]
      rw [← e]; simp [binOp, Op.intCmp]
    · injection h with h; subst h
      refine syW_ok hx hy hl (fun hd => intF_ok h0 hx hy hd) fun k i j hi hj => ?_
      have e : decide (Env.ρ i > Env.ρ j) = Nat.blt j i := by rw [Bool.eq_iff_iff, decide_eq_true_iff, Nat.blt_eq]; exact rho_lt hj hi
      rw [← e]; simp [binOp, Op.intCmp]
    · injection h with h; subst h
      refine syW_ok hx hy hl (fun hd => intF_ok h0 hx hy hd) fun k i j hi hj => ?_
      have e : decide (Env.ρ i ≥ Env.ρ j) = Nat.ble j i := by rw [Bool.eq_iff_iff, decide_eq_true_iff, Nat.ble_eq]; show Env.ρ j ≤ Env.ρ i ↔ _; rw [← Int.not_lt, rho_lt hi hj, Nat.not_lt]
      rw [← e]; simp [binOp, Op.intCmp]
    · injection h with h; subst h; exact intF_ok h0 hx hy hl
  · cases h
theorem binF_ok {op : BinOp} {t : TypeId} {f : HV → HV → HV} (h : binF Pr op t = .f f) {x y : HV} {vx vy : Value} (hx : TRep g c x vx) (hy : TRep g c y vy) (hl : f x y ≠ .dead) : ∃ z, BinOk Pr op t vx vy z w ∧ TRep g c (f x y) z := by
  unfold binF at h
  split at h
  · injection h with h; subst h; exact shl_ok hx hy hl
  · injection h with h; subst h; exact mdW_ok hx hy hl (fun hd => shr_ok hx hy hd) fun k n m hd hn => shrM_ok hy hn hd
  · split at h
    · exact mdF_ok h hx hy hl
    · rename_i hu; injection h with h; subst h; exact bool_ok hu hx hy hl
    · injection h with h; subst h; exact flt_ok hx hy hl
    · injection h with h; subst h; exact cpx_ok hx hy hl
    · injection h with h; subst h; exact str_ok hx hy hl
    · rename_i hu; injection h with h; subst h; exact nilP_ok hu hx hy hl
    · rename_i hu; injection h with h; subst h; exact nilS_ok hu hx hy hl
    · rename_i hu; injection h with h; subst h; exact nilFn_ok hu hx hy hl
    · injection h with h; subst h; exact agg_ok hx hy hl
    · cases h
theorem binG_ok {op : BinOp} {t : TypeId} {ox oy : Operand} {f : HV → HV → HV} (h : binG Pr op t ox oy = .f f) {x y : HV} {vx vy : Value} (hx : TRep g c x vx) (hy : TRep g c y vy) (hl : f x y ≠ .dead) :
    ∃ z, ((eqGuard op t ox oy vx vy).run Pr w = .ok () w ∧ (binOp op t vx vy).run Pr w = .ok z w) ∧ TRep g c (f x y) z := by
  unfold binG at h
  split at h
  · rename_i ms hu
    split at h
    · rename_i hc
      injection h with h; subst h
      exact nilI_ok hu hc hx hy hl
    · cases h
  · obtain ⟨z, ⟨h1, h2⟩, h3⟩ := binF_ok (w := w) h hx hy hl
    exact ⟨z, ⟨h1 ox oy, h2⟩, h3⟩
theorem unV_ok {op : UnOp} {x : HV} {v : Value} (hx : TRep g c x v) (hl : unV op x ≠ .dead) : ∃ u, (Op.unary op v).run Pr w = .ok u w ∧ TRep g c (unV op x) u := by
  unfold unV at hl ⊢
  cases x <;> try exact absurd rfl hl
  all_goals
    have e1 : v = _ := hx
    subst e1
    cases op <;> simp only at hl ⊢ <;> first
      | exact absurd rfl hl
      | exact ⟨_, by simp [Op.unary, Op.intArith, Op.intBits], rfl⟩
end
end
end Go.FM
end

section
namespace Go.FM
noncomputable section
variable [Env]
section
variable {Pr : Program} {w : World} {g : Gm} {c : Nat}
theorem TRep.int {k : IntKind} {n : Int} {v : Value} (h : TRep g c (.int k n) v) : v = .int k n := h
theorem natOf_some {x : HV} {i : Nat} (h : natOf x = some i) : ∃ k, x = .int k (i : Int) := by
  unfold natOf at h
  split at h
  · rename_i k n
    simp only [Option.some.injEq] at h; subst h
    exact ⟨k, rfl⟩
  · cases h
theorem toInt_ok {src dst : TypeId} {d0 : TypeDesc} {k : IntKind} (h0 : Pr.underlying src = some d0) (h1 : Pr.underlying dst = some (.int k)) {x : HV} {v : Value} (hx : TRep g c x v) (hl : toInt k x ≠ .dead) :
    ∃ u, (convert src dst v).run Pr w = .ok u w ∧ TRep g c (toInt k x) u := by
  unfold toInt at hl ⊢
  cases x <;> try exact absurd rfl hl
  · rename_i k' n
    have e1 : v = .int k' n := hx
    subst e1
    simp only [wrapF_eq]
    exact ⟨.int k (k.wrap n), by simp [convert, run_underlying h0, run_underlying h1, Conv.intToInt], rfl⟩
  · rename_i s b
    have e1 : v = .float s b := hx
    subst e1
    simp only at hl ⊢
    split at hl
    · rename_i n hn
      split at hl
      · rename_i hr
        rw [if_pos hr]
        exact ⟨.int k n, by simp [convert, run_underlying h0, run_underlying h1, Conv.floatToInt, hn, hr], rfl⟩
      · exact absurd rfl hl
    · exact absurd rfl hl
  · rename_i k' m r
    obtain ⟨n, rfl, hr, hn⟩ := hx
    simp only at hl ⊢
    split at hl
    · rename_i hc
      rw [if_pos hc]
      have hle : n ≤ top k := Nat.le_trans hn (Nat.le_of_ble_eq_true hc)
      have hw := wrapN_eq k n
      unfold wrapN at hw
      rw [Nat.ble_eq_true_of_le hle] at hw
      refine ⟨.int k (k.wrap (.ofNat n)), by simp [convert, run_underlying h0, run_underlying h1, Conv.intToInt], n, ?_, hr, hle⟩
      have hw : HV.int k (Int.ofNat n) = HV.int k (k.wrap (Int.ofNat n)) := hw
      injection hw with _ hw
      rw [← hw]; rfl
    · exact absurd rfl hl
theorem toFlt_ok {src dst : TypeId} {d0 : TypeDesc} {k : FloatKind} (h0 : Pr.underlying src = some d0) (h1 : Pr.underlying dst = some (.float k)) {x : HV} {v : Value} (hx : TRep g c x v) (hl : toFlt k x ≠ .dead) :
    ∃ u, (convert src dst v).run Pr w = .ok u w ∧ TRep g c (toFlt k x) u := by
  unfold toFlt at hl ⊢
  cases x <;> try exact absurd rfl hl
  · rename_i k' n
    have e1 : v = .int k' n := hx
    subst e1
    exact ⟨.float k (k.nearest n), by simp [convert, run_underlying h0, run_underlying h1, Conv.intToFloat], rfl⟩
  · rename_i s b
    have e1 : v = .float s b := hx
    subst e1
    simp only at hl ⊢
    by_cases hk : s = k
    · subst hk
      rw [if_pos rfl]
      exact ⟨.float s b, by simp [convert, run_underlying h0, run_underlying h1, Conv.floatToFloat], rfl⟩
    · rw [if_neg hk] at hl; exact absurd rfl hl
theorem idStr_ok {src dst : TypeId} {d0 : TypeDesc} (h0 : Pr.underlying src = some d0) (h1 : Pr.underlying dst = some .string) {x : HV} {v : Value} (hx : TRep g c x v) (hl : idStr x ≠ .dead) :
    ∃ u, (convert src dst v).run Pr w = .ok u w ∧ TRep g c (idStr x) u := by
  unfold idStr at hl ⊢
  cases x <;> try exact absurd rfl hl
  rename_i n d
  obtain ⟨hd, e1⟩ : d < 256 ^ n ∧ v = strOf n d := hx
  subst e1
  exact ⟨strOf n d, by simp only [strOf]; simp [convert, run_underlying h0, run_underlying h1], hd, rfl⟩
theorem addr_add (g : Gm) (k o n : Nat) : (addrOf g k o).add n = addrOf g k (o + n) := by
  simp only [addrOf]
  rw [Addr.add_lit, Nat.add_assoc]
theorem fieldAddrF_ok {t : TypeId} {i : Nat} {f : HV → HV} (h : fieldAddrF Pr t i = .f f) {x : HV} {v : Value} (hx : TRep g c x v) (hl : f x ≠ .dead) : ∃ u, (Instr.fieldAt t v i).run Pr w = .ok u w ∧ TRep g c (f x) u := by
  unfold fieldAddrF at h
  split at h
  · rename_i fields hu
    split at h
    · rename_i fd hf
      split at h
      · rename_i m hm
        injection h with h; subst h
        unfold fieldAddr at hl ⊢
        cases x <;> try exact absurd rfl hl
        rename_i k o
        obtain ⟨hk, e1⟩ := hx
        subst e1
        refine ⟨.pointer (some (addrOf g k (o + fd.offset))), ?_, hk, rfl⟩
        have := addr_add g k o fd.offset
        simp [Instr.fieldAt, run_underlying hu, hf, Instr.sureAddr, fieldPlace, sizeT_run hm, this]
      · cases h
    · cases h
  · cases h
theorem fieldF_ok {t : TypeId} {i : Nat} {f : HV → HV} (h : fieldF Pr t i = .f f) {x : HV} {v : Value} (hx : TRep g c x v) (hl : f x ≠ .dead) : ∃ u, (Instr.field t v i).run Pr w = .ok u w ∧ TRep g c (f x) u := by
  unfold fieldF at h
  split at h
  · rename_i fields hu
    split at h
    · rename_i fd hf
      split at h
      · rename_i n b hn hb
        injection h with h; subst h
        unfold fieldV at hl ⊢
        cases x <;> try exact absurd rfl hl
        rename_i cs
        obtain ⟨vs, rfl, hvs⟩ := hx
        obtain ⟨u, h1, h2⟩ := part_ok (w := w) hn hb hvs hl
        refine ⟨u, ?_, TRep.of_val h2⟩
        simp [Instr.field, run_underlying hu, hf, h1, asAgg]
      · cases h
    · cases h
  · cases h
theorem indexAddrF_ok {t : TypeId} {f : HV → HV → HV} (h : indexAddrF Pr t = .f f) {x y : HV} {v u : Value} (hx : TRep g c x v) (hy : TRep g c y u) (hl : f x y ≠ .dead) : ∃ r, (Instr.indexAt t v u).run Pr w = .ok r w ∧ TRep g c (f x y) r := by
  unfold indexAddrF at h
  split at h
  · rename_i e hu
    split at h
    · rename_i sz hsz
      injection h with h; subst h
      unfold indexAddrS at hl ⊢
      cases x <;> try exact absurd rfl hl
      rename_i k o n es cl
      simp only at hl ⊢
      split at hl
      · rename_i i hi
        obtain ⟨kk, rfl⟩ := natOf_some hi
        have e2 : u = .int kk (i : Int) := hy
        subst e2
        obtain ⟨hk, A, m, e1, hnm, hmm, hes, hlen, hbs, hfull, hcl, hA⟩ := hx
        subst e1
        cases hb : Nat.blt i n with
        | false => rw [hb] at hl; exact absurd rfl hl
        | true =>
          have hin : i < n := Nat.le_of_ble_eq_true hb
          rw [hb] at hl
          cases hq : Nat.beq es sz with
          | false => rw [hq] at hl; exact absurd rfl hl
          | true =>
            have := Nat.eq_of_beq_eq_true hq; subst this
            have hAe := hA (by omega)
            subst hAe
            refine ⟨.pointer (some (addrOf g k (o + i * es))), ?_, hk, rfl⟩
            have := addr_add g k o (i * es)
            simp [Instr.indexAt, asIntOf, run_underlying hu, hin, sizeT_run hsz, this]
      · exact absurd rfl hl
    · cases h
  · rename_i len e hu
    split at h
    · rename_i sz hsz
      injection h with h; subst h
      unfold indexAddrA at hl ⊢
      cases x <;> try exact absurd rfl hl
      rename_i k o
      simp only at hl ⊢
      split at hl
      · rename_i i hi
        obtain ⟨kk, rfl⟩ := natOf_some hi
        have e2 : u = .int kk (i : Int) := hy
        subst e2
        obtain ⟨hk, e1⟩ := hx
        subst e1
        cases hb : Nat.blt i len with
        | false => rw [hb] at hl; exact absurd rfl hl
        | true =>
          have hin : i < len := Nat.le_of_ble_eq_true hb
          refine ⟨.pointer (some (addrOf g k (o + i * sz))), ?_, hk, rfl⟩
          have := addr_add g k o (i * sz)
          simp [Instr.indexAt, asIntOf, run_underlying hu, Instr.sureAddr, hin, sizeT_run hsz, this]
      · exact absurd rfl hl
    · cases h
  · cases h
theorem indexF_ok {t : TypeId} {f : HV → HV → HV} (h : indexF Pr t = .f f) {x y : HV} {v u : Value} (hx : TRep g c x v) (hy : TRep g c y u) (hl : f x y ≠ .dead) : ∃ r, (Instr.index t v u).run Pr w = .ok r w ∧ TRep g c (f x y) r := by
  unfold indexF at h
  split at h
  · rename_i hu
    injection h with h; subst h
    unfold indexStr at hl ⊢
    split at hl
    · rename_i n d i hi
      obtain ⟨kk, rfl⟩ := natOf_some hi
      have e2 : u = .int kk (i : Int) := hy
      subst e2
      obtain ⟨hd, e1⟩ : d < 256 ^ n ∧ v = strOf n d := hx
      subst e1
      split at hl
      · rename_i hb
        have hin : i < n := Nat.le_of_ble_eq_true hb
        rw [if_pos hb]
        refine ⟨.int .u8 (bAt d i : Nat), ?_, rfl⟩
        have hg := bytesOf_get n d i hin
        have hsz : (⟨(bytesOf n d).toArray⟩ : ByteArray).size = n := by simp [ByteArray.size, bytesOf_length]
        have hb' : (⟨(bytesOf n d).toArray⟩ : ByteArray)[i]? = some (UInt8.ofNat (bAt d i)) := by
          have hlt : i < (bytesOf n d).length := by rw [bytesOf_length]; exact hin
          have hge : (bytesOf n d)[i] = UInt8.ofNat (bAt d i) := by simpa [List.getElem?_eq_getElem hlt] using hg
          rw [getElem?_pos (⟨(bytesOf n d).toArray⟩ : ByteArray) i (by simpa [ByteArray.size] using hlt)]
          rw [← hge]; rfl
        have h8 := toNat_ofNat (bAt d i) (bAt_lt d i)
        simp only [strOf]
        simp [Instr.index, asIntOf, run_underlying hu, hb', h8]
      · exact absurd rfl hl
    · exact absurd rfl hl
  · rename_i len e hu
    split at h
    · rename_i sz b hsz hb
      injection h with h; subst h
      unfold indexV at hl ⊢
      split at hl
      · rename_i cs i hi
        obtain ⟨kk, rfl⟩ := natOf_some hi
        have e2 : u = .int kk (i : Int) := hy
        subst e2
        obtain ⟨vs, rfl, hvs⟩ := hx
        split at hl
        · rename_i hlt
          have hin : i < len := Nat.le_of_ble_eq_true hlt
          rw [if_pos hlt]
          obtain ⟨u, h1, h2⟩ := part_ok (w := w) hsz hb hvs hl
          have h1 : (part e vs.toArray (i * sz)).run Pr w = .ok u w := h1
          refine ⟨u, ?_, TRep.of_val h2⟩
          simp [Instr.index, asIntOf, run_underlying hu, hin, sizeT_run hsz, h1, asAgg]
        · exact absurd rfl hl
      · exact absurd rfl hl
    · cases h
  · cases h
theorem boundM_some {most h : Nat} {x : HV} {v : Value} (hx : TRep g c x v) (hb : boundM most x = some h) : ∃ k, v = .int k (h : Int) ∧ h ≤ most := by
  unfold boundM at hb
  split at hb
  · rename_i i hi
    obtain ⟨k, rfl⟩ := natOf_some hi
    split at hb
    · rename_i hle
      simp only [Option.some.injEq] at hb; subst hb
      exact ⟨k, hx, Nat.le_of_ble_eq_true hle⟩
    · cases hb
  · cases hb
theorem sliceBound_run {k : IntKind} {i y : Nat} (cd : BoundsCode) (h1 : i ≤ y) : (Instr.sliceBound (.int k (i : Int)) y cd).run Pr w = .ok i w := by
  have : (i : Int) ≤ (y : Int) := by omega
  simp [Instr.sliceBound, asIntOf, this]
def LoRep (g : Gm) (c : Nat) (lo : Option Value) (x : HV) : Prop := match lo with
  | none => x = .int .i64 (.ofNat 0)
  | some v => TRep g c x v
def HiRep (g : Gm) (c : Nat) (hh : Bool) (hi : Option Value) (x : HV) : Prop := match hi with
  | none => hh = false
  | some v => hh = true ∧ TRep g c x v
theorem boundH_some {hh : Bool} {hi : Option Value} {x : HV} {dflt h : Nat} (hx : HiRep g c hh hi x) (hb : boundH hh dflt x = some h) : (hi = none ∧ h = dflt) ∨ ∃ k, hi = some (.int k (h : Int)) ∧ h ≤ dflt := by
  cases hi with
  | none =>
    have : hh = false := hx
    subst this
    have : some dflt = some h := hb
    exact .inl ⟨rfl, (Option.some.inj this).symm⟩
  | some v =>
    obtain ⟨rfl, hx⟩ := hx
    have hb : boundM dflt x = some h := hb
    obtain ⟨k, rfl, hl⟩ := boundM_some hx hb
    exact .inr ⟨k, rfl, hl⟩
theorem sliceBounds_run {isS hh : Bool} {len cap : Nat} {lo hi : Option Value} {xl xh : HV} {h l : Nat} (hlo : LoRep g c lo xl) (hhi : HiRep g c hh hi xh) (hlc : len ≤ cap) (h1 : boundH hh len xh = some h) (h2 : boundM h xl = some l) :
    (Instr.sliceBounds isS len cap lo hi none).run Pr w = .ok (l, h, cap) w ∧ l ≤ h ∧ h ≤ len := by
  have key : ∀ k, hi = some (.int k (h : Int)) → h ≤ len → (Instr.sliceBounds isS len cap lo hi none).run Pr w = .ok (l, h, cap) w ∧ l ≤ h ∧ h ≤ len := by
    rintro k rfl hle
    cases lo with
    | none =>
      have : xl = .int .i64 (.ofNat 0) := hlo
      subst this
      have h2 : (if Nat.ble 0 h then some 0 else none) = some l := h2
      simp at h2; subst h2
      exact ⟨by simp [Instr.sliceBounds, sliceBound_run (Pr := Pr) (w := w) _ (show h ≤ cap by omega)], by omega, hle⟩
    | some v =>
      obtain ⟨k2, rfl, hl⟩ := boundM_some hlo h2
      exact ⟨by simp [Instr.sliceBounds, sliceBound_run (Pr := Pr) (w := w) _ (show h ≤ cap by omega), sliceBound_run (Pr := Pr) (w := w) _ hl], hl, hle⟩
  rcases boundH_some hhi h1 with ⟨rfl, rfl⟩ | ⟨k, hk, hle⟩
  · cases lo with
    | none =>
      have : xl = .int .i64 (.ofNat 0) := hlo
      subst this
      have h2 : (if Nat.ble 0 h then some 0 else none) = some l := h2
      simp at h2; subst h2
      exact ⟨by simp [Instr.sliceBounds], by omega, Nat.le_refl _⟩
    | some v =>
      obtain ⟨k2, rfl, hl⟩ := boundM_some hlo h2
      exact ⟨by simp [Instr.sliceBounds, sliceBound_run (Pr := Pr) (w := w) _ hl], hl, Nat.le_refl _⟩
  · exact key k hk hle
theorem sliceF_ok {hh : Bool} {t : TypeId} {f : HV → HV → HV → HV} (h : sliceF Pr hh t = .f f) {x xl xh : HV} {v : Value} {lo hi : Option Value} (hx : TRep g c x v) (hlo : LoRep g c lo xl) (hhi : HiRep g c hh hi xh) (hl : f x xl xh ≠ .dead) :
    ∃ u, (Instr.sliceAt t v lo hi none).run Pr w = .ok u w ∧ TRep g c (f x xl xh) u := by
  unfold sliceF at h
  split at h
  · rename_i hu
    injection h with h; subst h
    unfold sliceStr at hl ⊢
    cases x <;> try exact absurd rfl hl
    rename_i n d
    obtain ⟨hd, e1⟩ : d < 256 ^ n ∧ v = strOf n d := hx
    subst e1
    simp only at hl ⊢
    cases hb : boundH hh n xh with
    | none => rw [hb] at hl; exact absurd rfl hl
    | some h =>
      cases hb2 : boundM h xl with
      | none => rw [hb] at hl; simp only [hb2] at hl; exact absurd rfl hl
      | some l =>
        simp only [hb2]
        obtain ⟨q, hlh, hhn⟩ := sliceBounds_run (Pr := Pr) (w := w) (isS := false) hlo hhi (Nat.le_refl n) hb hb2
        refine ⟨strOf (h - l) (bCut d l (h - l)), ?_, bCut_lt _ _ _, rfl⟩
        have hsz : (⟨(bytesOf n d).toArray⟩ : ByteArray).size = n := by simp [ByteArray.size, bytesOf_length]
        have he : (⟨(bytesOf n d).toArray⟩ : ByteArray).extract l h = ⟨(bytesOf (h - l) (bCut d l (h - l))).toArray⟩ := by
          apply ByteArray.ext
          rw [bytesOf_cut n d l (h - l) (by omega)]
          apply Array.ext'
          simp [ByteArray.data_extract, List.extract_eq_take_drop]
        simp only [strOf]
        simp [Instr.sliceAt, Instr.slice, run_underlying hu, hsz, q, he]
  · rename_i e hu
    split at h
    · rename_i sz hsz
      injection h with h; subst h
      unfold sliceSlc at hl ⊢
      cases x <;> try exact absurd rfl hl
      ·
        simp only at hl ⊢
        have e1 : v = .slice none 0 0 := hx
        subst e1
        cases hb : boundH hh 0 xh with
        | none => rw [hb] at hl; exact absurd rfl hl
        | some h =>
          have h0 : h = 0 := by
            rcases boundH_some hhi hb with ⟨_, rfl⟩ | ⟨_, _, hle⟩ <;> omega
          subst h0
          cases hb2 : boundM 0 xl with
          | none => rw [hb] at hl; simp only [hb2] at hl; exact absurd rfl hl
          | some l =>
            obtain ⟨q, hlh, hhn⟩ := sliceBounds_run (Pr := Pr) (w := w) (isS := true) hlo hhi (Nat.le_refl 0) hb hb2
            have : l = 0 := by omega
            subst this
            simp only [hb2]
            exact ⟨.slice none 0 0, by simp [Instr.sliceAt, Instr.slice, run_underlying hu, q, sizeT_run hsz], rfl⟩
      · rename_i k o n es cl
        simp only at hl ⊢
        obtain ⟨hk, A, m, e1, hnm, hmm, hes, hlen, hbs, hfull, hcl, hA⟩ := hx
        subst e1
        cases hb : boundH hh n xh with
        | none => rw [hb] at hl; exact absurd rfl hl
        | some h =>
          cases hb2 : boundM h xl with
          | none => rw [hb] at hl; simp only [hb2] at hl; exact absurd rfl hl
          | some l =>
            rw [hb] at hl
            simp only [hb2] at hl ⊢
            obtain ⟨q, hlh, hhn⟩ := sliceBounds_run (Pr := Pr) (w := w) (isS := true) hlo hhi hnm hb hb2
            cases hbad : (cl && !(Nat.beq h n) || !(Nat.beq es sz)) with
            | true => rw [hbad] at hl; exact absurd rfl hl
            | false =>
              simp only [Bool.or_eq_false_iff, Bool.and_eq_false_iff, Bool.not_eq_false'] at hbad
              obtain ⟨hb3, hb4⟩ := hbad
              have hes2 := Nat.eq_of_beq_eq_true hb4
              subst hes2
              show ∃ u, _ ∧ TRep g c (HV.slc k (o + l * es) (h - l) es cl) u
              refine ⟨.slice (some (if m = l then A else A.add (l * es))) (h - l) (m - l), ?_, hk, _, m - l, rfl, by omega, by omega, hes, ?_, ?_, fun hc => ?_, fun hc => ?_, fun h0 => ?_⟩
              · have : (if m = l then some A else Option.map (fun x => x.add (l * es)) (some A)) = some (if m = l then A else A.add (l * es)) := by split <;> rfl
                simp [Instr.sliceAt, Instr.slice, run_underlying hu, q, sizeT_run hsz]
                split <;> simp_all
              · show o + l * es + (h - l) * es ≤ (g k).len
                have : l * es + (h - l) * es = h * es := by rw [← Nat.add_mul]; congr 1; omega
                have := Nat.mul_le_mul_right es hhn
                omega
              · show (g k).o + (o + l * es) + (m - l) * es ≤ (g k).bs
                have : l * es + (m - l) * es = m * es := by rw [← Nat.add_mul]; congr 1; omega
                omega
              · show (g k).len ≤ o + l * es + (m - l) * es
                have : l * es + (m - l) * es = m * es := by rw [← Nat.add_mul]; congr 1; omega
                have := hfull hc
                omega
              · have hm := hcl hc
                rcases hb3 with hb3 | hb3
                · rw [hc] at hb3; cases hb3
                · have := Nat.eq_of_beq_eq_true hb3
                  omega
              · rw [if_neg (by omega), hA (by omega), addr_add]
    · cases h
  · cases h
theorem clip_ok {t e : TypeId} {sz : Nat} (hu : Pr.underlying t = some (.slice e)) (hsz : sizeT Pr e = some sz) {x xl xh xm : HV} {v vh vm : Value} {lo : Option Value} (hx : TRep g c x v) (hlo : LoRep g c lo xl) (hhi : TRep g c xh vh) (hmx : TRep g c xm vm) (hl : sliceClip sz x xl xh xm ≠ .dead) :
    ∃ u, (Instr.sliceAt t v lo (some vh) (some vm)).run Pr w = .ok u w ∧ TRep g c (sliceClip sz x xl xh xm) u := by
  unfold sliceClip at hl ⊢
  have bnds : ∀ {cap m l : Nat} {km kh : IntKind}, m ≤ cap → boundM m xl = some l → (Instr.sliceBounds true 0 cap lo (some (.int kh (m : Int))) (some (.int km (m : Int)))).run Pr w = .ok (l, m, m) w ∧ l ≤ m := by
    intro cap m l km kh hle hb
    cases lo with
    | none =>
      have : xl = .int .i64 (.ofNat 0) := hlo
      subst this
      have h2 : (if Nat.ble 0 m then some 0 else none) = some l := hb
      simp at h2; subst h2
      exact ⟨by simp [Instr.sliceBounds, sliceBound_run (Pr := Pr) (w := w) _ hle, sliceBound_run (Pr := Pr) (w := w) _ (Nat.le_refl m)], by omega⟩
    | some v =>
      obtain ⟨k2, rfl, hl⟩ := boundM_some hlo hb
      exact ⟨by simp [Instr.sliceBounds, sliceBound_run (Pr := Pr) (w := w) _ hle, sliceBound_run (Pr := Pr) (w := w) _ (Nat.le_refl m), sliceBound_run (Pr := Pr) (w := w) _ hl], hl⟩
  have bnds2 : ∀ {cap m hh l : Nat} {km kh : IntKind}, m ≤ cap → hh ≤ m → boundM hh xl = some l → (Instr.sliceBounds true 0 cap lo (some (.int kh (hh : Int))) (some (.int km (m : Int)))).run Pr w = .ok (l, hh, m) w ∧ l ≤ hh := by
    intro cap m hh l km kh hle hhm hb
    cases lo with
    | none =>
      have : xl = .int .i64 (.ofNat 0) := hlo
      subst this
      have h2 : (if Nat.ble 0 hh then some 0 else none) = some l := hb
      simp at h2; subst h2
      exact ⟨by simp [Instr.sliceBounds, sliceBound_run (Pr := Pr) (w := w) _ hle, sliceBound_run (Pr := Pr) (w := w) _ hhm], by omega⟩
    | some v =>
      obtain ⟨k2, rfl, hl⟩ := boundM_some hlo hb
      exact ⟨by simp [Instr.sliceBounds, sliceBound_run (Pr := Pr) (w := w) _ hle, sliceBound_run (Pr := Pr) (w := w) _ hhm, sliceBound_run (Pr := Pr) (w := w) _ hl], hl⟩
  have len0 : ∀ {cap len : Nat} {a b : Value}, (Instr.sliceBounds true len cap lo (some a) (some b)) = (Instr.sliceBounds true 0 cap lo (some a) (some b)) := fun {cap len a b} => by simp [Instr.sliceBounds]
  cases x <;> try exact absurd rfl hl
  · simp only at hl ⊢
    split at hl
    · rename_i h1 h2 h3
      obtain ⟨k1, rfl⟩ := natOf_some h1
      obtain ⟨k2, rfl⟩ := natOf_some h2
      have e1 : v = .slice none 0 0 := hx
      have e2 : vm = .int k1 ((0 : Nat) : Int) := hmx
      have e3 : vh = .int k2 ((0 : Nat) : Int) := hhi
      subst e1; subst e2; subst e3
      obtain ⟨q, hq⟩ := bnds (cap := 0) (km := k1) (kh := k2) (Nat.le_refl 0) h3
      rename_i l
      have : l = 0 := by omega
      subst this
      exact ⟨.slice none 0 0, by simp [Instr.sliceAt, Instr.slice, run_underlying hu, sizeT_run hsz]; simp at q; simp [q], rfl⟩
    · exact absurd rfl hl
  · rename_i k o n es cl
    obtain ⟨hk, A, m, e1, hnm, hmm, hes, hlen, hbs, hfull, hcl, hA⟩ := hx
    subst e1
    simp only at hl ⊢
    split at hl
    · rename_i mm hq h1 h2
      obtain ⟨k1, rfl⟩ := natOf_some h1
      obtain ⟨k2, rfl⟩ := natOf_some h2
      have e2 : vm = .int k1 (mm : Int) := hmx
      have e3 : vh = .int k2 (hq : Int) := hhi
      subst e2; subst e3
      split at hl
      · rename_i hc
        rw [if_pos hc]
        simp only [Bool.and_eq_true] at hc
        obtain ⟨⟨hc1, hc2⟩, hc3⟩ := hc
        have hc1 := Nat.le_of_ble_eq_true hc1
        have hc2 := Nat.eq_of_beq_eq_true hc2
        have hc3 := Nat.eq_of_beq_eq_true hc3
        subst hc2; subst hc3
        split at hl
        · rename_i l hb
          obtain ⟨q, hlm⟩ := bnds (cap := m) (km := k1) (kh := k2) (show hq ≤ m by omega) hb
          rw [← len0 (len := n)] at q
          show ∃ u, _ ∧ TRep g c (HV.slc k (o + l * es) (hq - l) es true) u
          refine ⟨.slice (some (if hq = l then A else A.add (l * es))) (hq - l) (hq - l), ?_, hk, _, hq - l, rfl, by omega, by omega, hes, ?_, ?_, (fun hc => by cases hc), (fun _ => rfl), fun h0 => ?_⟩
          · simp [Instr.sliceAt, Instr.slice, run_underlying hu, q, sizeT_run hsz]
            split <;> simp_all
          · show o + l * es + (hq - l) * es ≤ (g k).len
            have : l * es + (hq - l) * es = hq * es := by rw [← Nat.add_mul]; congr 1; omega
            have := Nat.mul_le_mul_right es hc1
            omega
          · show (g k).o + (o + l * es) + (hq - l) * es ≤ (g k).bs
            have : l * es + (hq - l) * es = hq * es := by rw [← Nat.add_mul]; congr 1; omega
            have := Nat.mul_le_mul_right es (show hq ≤ m by omega)
            omega
          · rw [if_neg (by omega), hA (by omega), addr_add]
        · exact absurd rfl hl
      · rename_i hc
        rw [if_neg hc]
        split at hl
        · rename_i hc'
          rw [if_pos hc']
          simp only [Bool.and_eq_true] at hc'
          obtain ⟨⟨hc1, hc2⟩, hc3⟩ := hc'
          have hc1 := Nat.le_of_ble_eq_true hc1
          have hc2 := Nat.le_of_ble_eq_true hc2
          have hc3 := Nat.eq_of_beq_eq_true hc3
          subst hc3
          split at hl
          · rename_i l hb
            obtain ⟨q, hlm⟩ := bnds2 (cap := m) (km := k1) (kh := k2) (show mm ≤ m by omega) hc2 hb
            rw [← len0 (len := n)] at q
            refine ⟨.slice (some (if mm = l then A else A.add (l * es))) (hq - l) (mm - l), ?_, trivial⟩
            simp [Instr.sliceAt, Instr.slice, run_underlying hu, q, sizeT_run hsz]
            split <;> simp_all
          · exact absurd rfl hl
        · exact absurd rfl hl
    · exact absurd rfl hl
end
end
end Go.FM
end

section
namespace Go.AbsM
inductive AV where
  | x (v : Value)
  | str (l : List UInt8)
  | nils
  | cap0
  | sl (e : TypeId) (xs : List AV)
  | arr (i k : Nat) (e : TypeId) (lo n tot : Nat)
  | own (e : TypeId) (xs : List AV)
  | obj (cs : List AV)
  | agg (cs : List AV)
  | tup (vs : List AV)
  | ref (i k off : Nat)
  | efz (cs : List AV) (off : Nat)
  | ear (i k : Nat) (e : TypeId) (tot j off : Nat)
  | und
  | dead
  deriving Inhabited
abbrev AV.int (k : IntKind) (n : Int) : AV := .x (.int k n)
abbrev AV.bool (b : Bool) : AV := .x (.bool b)
def plain : Value → Bool
  | .bool _ | .int _ _ | .float _ _ | .complex _ _ _ | .pointer none | .nilIface | .nilFunc => true
  | .func (.func _) a b => a.isEmpty && b.isEmpty
  | _ => false
def constCell : Value → Option AV
  | .bool b => some (.x (.bool b))
  | .int k n => some (.x (.int k n))
  | .float k b => some (.x (.float k b))
  | .complex k a b => some (.x (.complex k a b))
  | .pointer none => some (.x (.pointer none))
  | .nilIface => some (.x .nilIface)
  | .nilFunc => some (.x .nilFunc)
  | .string s => some (.str s.data.toList)
  | .slice none 0 0 => some .nils
  | _ => none
def constCells : List Value → Option (List AV)
  | [] => some []
  | v :: r => match constCell v, constCells r with
    | some a, some l => some (a :: l)
    | _, _ => none
def constAV : Value → Option AV
  | .agg cs => (constCells cs.toList).map .agg
  | v => constCell v
def AV.cells : AV → List AV
  | .agg cs => cs
  | a => [a]
def AV.isCell : AV → Bool
  | .x _ | .str _ | .nils | .cap0 | .sl _ _ | .arr .. | .ref .. => true
  | _ => false
def AV.isVal : AV → Bool
  | .x _ | .str _ | .nils | .cap0 | .sl _ _ => true
  | _ => false
inductive Ob where
  | box (cs : List AV)
  | arr (fz : Bool) (e : TypeId) (xs : List AV)
  deriving Inhabited
def Ob.loose : Ob → Bool
  | .box _ => true
  | .arr fz _ _ => !fz
abbrev Store := List (Nat × Ob)
structure St where
  slots : List AV
  stores : List Store
  deriving Inhabited
def St.get (s : St) (t : Nat) : AV := s.slots.getD t .dead
def look : Store → Nat → Option Ob
  | [], _ => none
  | (k, o) :: r, n => if k = n then some o else look r n
def lay : Store → Nat → Ob → Store
  | [], _, _ => []
  | (k, o) :: r, n, p => if k = n then (k, p) :: r else (k, o) :: lay r n p
def drop : Store → Nat → Store
  | [], _ => []
  | (k, o) :: r, n => if k = n then drop r n else (k, o) :: drop r n
def getOb : List Store → Nat → Nat → Option Ob
  | [], _, _ => none
  | s :: _, 0, k => look s k
  | _ :: r, i + 1, k => getOb r i k
def setOb : List Store → Nat → Nat → Ob → List Store
  | [], _, _, _ => []
  | s :: r, 0, k, o => lay s k o :: r
  | s :: r, i + 1, k, o => s :: setOb r i k o
def AV.shift (n : Nat) : AV → AV
  | .arr i k e lo m tot => .arr (i + n) k e lo m tot
  | .ref i k off => .ref (i + n) k off
  | .ear i k e tot j off => .ear (i + n) k e tot j off
  | a => a
def AV.unshift (n : Nat) : AV → Option AV
  | .arr i k e lo m tot => if n ≤ i then some (.arr (i - n) k e lo m tot) else none
  | .ref i k off => if n ≤ i then some (.ref (i - n) k off) else none
  | .ear i k e tot j off => if n ≤ i then some (.ear (i - n) k e tot j off) else none
  | .dead => none
  | a => some a
def shiftCells (n : Nat) : AV → AV
  | .agg cs => .agg (cs.map (AV.shift n))
  | a => a.shift n
def AV.killCell (k : Nat) : AV → AV
  | .arr 0 j e lo m tot => if j = k then .dead else .arr 0 j e lo m tot
  | .ref 0 j off => if j = k then .dead else .ref 0 j off
  | .ear 0 j e tot m off => if j = k then .dead else .ear 0 j e tot m off
  | a => a
def AV.kill1 (k : Nat) : AV → AV
  | .agg cs => .agg (cs.map (AV.killCell k))
  | a => a.killCell k
def AV.kill (k : Nat) : AV → AV
  | .tup vs => .tup (vs.map (AV.kill1 k))
  | a => a.kill1 k
def Ob.kill (k : Nat) : Ob → Ob
  | .box cs => .box (cs.map (AV.killCell k))
  | o => o
def killStore (k : Nat) : Store → Store
  | [] => []
  | (j, o) :: r => (j, o.kill k) :: killStore k r
def St.create (s : St) (k : Nat) (o : Ob) : St :=
  { slots := s.slots.map (AV.kill k), stores := match s.stores with
    | [] => []
    | t :: r => ((k, o) :: drop (killStore k t) k) :: r }
def St.put (s : St) (d : Option Nat) (v : AV) : St :=
  match d with
  | some d => { s with slots := s.slots.set d v }
  | none => s
def St.elems (s : St) (i k lo n tot : Nat) : Option (List AV) :=
  match getOb s.stores i k with
  | some (.arr _ _ xs) => if xs.length = tot then some ((xs.drop lo).take n) else none
  | _ => none
def St.setFz (s : St) (i k : Nat) : St :=
  match getOb s.stores i k with
  | some (.arr _ e xs) => { s with stores := setOb s.stores i k (.arr true e xs) }
  | _ => s
def resolve1 (s : St) : AV → Option (St × AV)
  | .arr i k e lo n tot => match s.elems i k lo n tot with
    | some xs => some (s.setFz i k, .sl e xs)
    | none => none
  | .x v => some (s, .x v)
  | .str l => some (s, .str l)
  | .nils => some (s, .nils)
  | .cap0 => some (s, .cap0)
  | .sl e xs => some (s, .sl e xs)
  | _ => none
def resolveL (s : St) : List AV → Option (St × List AV)
  | [] => some (s, [])
  | a :: r => match resolve1 s a with
    | some (s1, b) => match resolveL s1 r with
      | some (s2, l) => some (s2, b :: l)
      | none => none
    | none => none
def resolve (s : St) : AV → Option (St × AV)
  | .agg cs => match resolveL s cs with
    | some (s1, l) => some (s1, .agg l)
    | none => none
  | a => resolve1 s a
def resolveAll (s : St) : List AV → Option (St × List AV)
  | [] => some (s, [])
  | a :: r => match resolve s a with
    | some (s1, b) => match resolveAll s1 r with
      | some (s2, l) => some (s2, b :: l)
      | none => none
    | none => none
def home (k off : Nat) : Nat := 100000 + 100 * k + off
section
variable (P : Program)
def sizeT (t : TypeId) : Option Nat := (P.info? t).map (·.size)
def bytesT (t : TypeId) : Option Nat := (P.info? t).map (·.bytes)
def zeroT (t : TypeId) : Option AV := ((P.info? t).bind (·.zero)).bind constAV
def aggT (t : TypeId) : Option Bool := match P.underlying t with
  | some (.struct _) => some true
  | some (.array _ _) => some true
  | some _ => some false
  | none => none
def elemT (t : TypeId) : Option TypeId := match P.underlying t with
  | some (.slice e) => some e
  | _ => none
def evalO (s : St) : Operand → Option AV
  | .tmp t => some (s.get t)
  | .const v => constAV v
  | .func f => some (.x (.func (.func f) #[] #[]))
  | _ => none
def funcOf : AV → Option FuncId
  | .x (.func (.func f) _ _) => some f
  | _ => none
def calleeA (s : St) : Callee → Option FuncId
  | .value (.func f) => some f
  | .value (.tmp t) => funcOf (s.get t)
  | _ => none
def partA (t : TypeId) (cs : List AV) (off : Nat) : Option AV :=
  match sizeT P t, aggT P t with
  | some n, some true => if off + n ≤ cs.length then some (.agg ((cs.drop off).take n)) else none
  | some _, some false => cs[off]?
  | _, _ => none
def layA (cs : List AV) (off : Nat) (ds : List AV) : Option (List AV) :=
  if off + ds.length ≤ cs.length then some (cs.take off ++ (ds ++ cs.drop (off + ds.length))) else none
def fillA (place : Nat → Option (Nat × Nat)) (cells : List AV) : List (Nat × AV) → Option (List AV)
  | [] => some cells
  | (i, v) :: rest =>
    match place i with
    | none => none
    | some (off, size) =>
      if v.cells.length = size ∧ v.cells.all AV.isCell then
        match layA cells off v.cells with
        | some cells' => fillA place cells' rest
        | none => none
      else none
def chunksA (agg : Bool) (es : Nat) : Nat → List AV → Option (List AV)
  | 0, _ => some []
  | n + 1, cs => match chunksA agg es n (cs.drop es) with
    | some r => if agg then some (.agg (cs.take es) :: r) else if es = 1 then match cs.head? with
      | some c => some (c :: r)
      | none => none else none
    | none => none
def eqFs (eq : TypeId → AV → AV → Option Bool) : List Field → List AV → List AV → Option Bool
  | [], _, _ => some true
  | f :: r, xs, ys =>
    if f.name = "_" then eqFs eq r xs ys else
    match partA P f.type xs f.offset, partA P f.type ys f.offset with
    | some a, some b => match eq f.type a b with
      | some true => eqFs eq r xs ys
      | some false => some false
      | none => none
    | _, _ => none
def eqIn : Nat → TypeId → AV → AV → Option Bool
  | 0 => fun _ _ _ => none
  | d + 1 => fun t x y =>
    match P.underlying t, x, y with
    | some .bool, .x (.bool a), .x (.bool b) => some (a == b)
    | some (.int _), .x (.int k a), .x (.int k' b) => if k = k' then some (a == b) else none
    | some (.float _), .x (.float k a), .x (.float k' b) => if k = k' then some (Op.floatEq k a b) else none
    | some (.complex _), .x (.complex k a b), .x (.complex k' a' b') => if k = k' then some (Op.floatEq k a a' && Op.floatEq k b b') else none
    | some .string, .str a, .str b => some (a == b)
    | some (.struct fields), .agg xs, .agg ys =>
      if P.stoodInHeld t then none else eqFs P (fun t x y => eqIn d t x y) fields.toList xs ys
    | _, _, _ => none
def intBin (op : BinOp) (k : IntKind) (a b : Int) : Option AV :=
  match op with
  | .add => some (.int k (k.wrap (a + b)))
  | .sub => some (.int k (k.wrap (a - b)))
  | .mul => some (.int k (k.wrap (a * b)))
  | .quo => if b = 0 then none else some (.int k (k.wrap (a.tdiv b)))
  | .rem => if b = 0 then none else some (.int k (a.tmod b))
  | .and => some (.int k (k.wrap (BitVec.ofInt k.bits a &&& BitVec.ofInt k.bits b).toNat))
  | .or => some (.int k (k.wrap (BitVec.ofInt k.bits a ||| BitVec.ofInt k.bits b).toNat))
  | .xor => some (.int k (k.wrap (BitVec.ofInt k.bits a ^^^ BitVec.ofInt k.bits b).toNat))
  | .andNot => some (.int k (k.wrap (BitVec.ofInt k.bits a &&& ~~~BitVec.ofInt k.bits b).toNat))
  | .eql => some (.bool (a == b))
  | .neq => some (.bool (a != b))
  | .lss => some (.bool (decide (a < b)))
  | .leq => some (.bool (decide (a ≤ b)))
  | .gtr => some (.bool (decide (a > b)))
  | .geq => some (.bool (decide (a ≥ b)))
  | _ => none
def floatArithA (op : BinOp) (k : FloatKind) (a b : Nat) : Option Nat :=
  match op with
  | .add => k.format.add a b
  | .sub => k.format.sub a b
  | .mul => k.format.mul a b
  | .quo => k.format.div a b
  | _ => none
def floatBin (op : BinOp) (k : FloatKind) (a b : Nat) : Option AV :=
  let c := k.format.order a b
  match op with
  | .add | .sub | .mul | .quo => (floatArithA op k a b).map fun r => .x (.float k r)
  | .eql => some (.bool (c == some .eq))
  | .neq => some (.bool (c != some .eq))
  | .lss => some (.bool (c == some .lt))
  | .leq => some (.bool (c == some .lt || c == some .eq))
  | .gtr => some (.bool (c == some .gt))
  | .geq => some (.bool (c == some .gt || c == some .eq))
  | _ => none
def complexBin (op : BinOp) (k : FloatKind) (xr xi yr yi : Nat) : Option AV :=
  match op with
  | .add | .sub => match floatArithA op k xr yr, floatArithA op k xi yi with
    | some a, some b => some (.x (.complex k a b))
    | _, _ => none
  | .mul => if k = .f64 then
      match floatArithA .mul k xr yr, floatArithA .mul k xi yi, floatArithA .mul k xr yi, floatArithA .mul k xi yr with
      | some ac, some bd, some ad, some bc => match floatArithA .sub k ac bd, floatArithA .add k ad bc with
        | some a, some b => some (.x (.complex k a b))
        | _, _ => none
      | _, _, _, _ => none
    else none
  | .eql => some (.bool ((k.format.order xr yr == some .eq) && (k.format.order xi yi == some .eq)))
  | .neq => some (.bool !((k.format.order xr yr == some .eq) && (k.format.order xi yi == some .eq)))
  | _ => none
def strBin (op : BinOp) (a b : List UInt8) : Option AV :=
  match op with
  | .add => if a.length + b.length ≤ 9223372036854775807 then some (.str (a ++ b)) else none
  | .eql => some (.bool (a == b))
  | .neq => some (.bool !(a == b))
  | .lss => some (.bool (Op.bytesLess a b))
  | .leq => some (.bool (Op.bytesLess a b || a == b))
  | .gtr => some (.bool !(Op.bytesLess a b || a == b))
  | .geq => some (.bool !(Op.bytesLess a b))
  | _ => none
def shiftA (op : BinOp) (k : IntKind) (a b : Int) : Option AV :=
  if b < 0 then none else
  match op with
  | .shl => some (.int k (k.wrap (a * 2 ^ (min b.toNat k.bits))))
  | .shr => some (.int k (a.fdiv (2 ^ (min b.toNat k.bits))))
  | _ => none
def isNilA (s : St) : AV → Option Bool
  | .nils => some true
  | .sl _ (_ :: _) => some false
  | .arr i k _ lo (n + 1) tot => match s.elems i k lo (n + 1) tot with
    | some _ => some false
    | none => none
  | _ => none
def isNilT (s : St) (t : TypeId) (a : AV) : Option Bool :=
  match P.underlying t with
  | some (.slice _) => isNilA s a
  | some (.pointer _) => match a with
    | .ref _ _ _ => some false
    | .x (.pointer none) => some true
    | _ => none
  | _ => none
def binA (s : St) (op : BinOp) (t : TypeId) (x y : AV) : Option AV :=
  match y with
  | .nils => match P.underlying t with
    | some (.slice _) => match op with
      | .eql => (isNilT P s t x).map .bool
      | .neq => (isNilT P s t x).map fun b => .bool !b
      | _ => none
    | _ => none
  | .x (.pointer none) => match P.underlying t with
    | some (.pointer _) => match op with
      | .eql => (isNilT P s t x).map .bool
      | .neq => (isNilT P s t x).map fun b => .bool !b
      | _ => none
    | _ => none
  | .x (.int k' b) => match x with
    | .x (.int k a) => match op with
      | .shl => shiftA .shl k a b
      | .shr => shiftA .shr k a b
      | op => if k = k' then intBin op k a b else none
    | _ => none
  | .x (.float k' b) => match x with
    | .x (.float k a) => if k = k' then floatBin op k a b else none
    | _ => none
  | .x (.complex k' c d) => match x with
    | .x (.complex k a b) => if k = k' then complexBin op k a b c d else none
    | _ => none
  | .str b => match x with
    | .str a => strBin op a b
    | _ => none
  | .x (.bool b) => match x with
    | .x (.bool a) => match P.underlying t with
      | some .bool => match op with
        | .eql => some (.bool (a == b))
        | .neq => some (.bool (!(a == b)))
        | _ => none
      | _ => none
    | _ => none
  | .agg b => match x with
    | .agg a => if P.eqGuardType P.depth t then none else match op with
      | .eql => (eqIn P 10000 t (.agg a) (.agg b)).map .bool
      | .neq => (eqIn P 10000 t (.agg a) (.agg b)).map fun b => .bool !b
      | _ => none
    | _ => none
  | _ => none
def unA (op : UnOp) : AV → Option AV
  | .x (.int k n) => match op with
    | .neg => some (.int k (k.wrap (0 - n)))
    | .xor => some (.int k (k.wrap (BitVec.ofInt k.bits (if k.signed then -1 else k.max) ^^^ BitVec.ofInt k.bits n).toNat))
    | _ => none
  | .x (.float k b) => match op with | .neg => some (.x (.float k (Op.negFloat k b))) | _ => none
  | .x (.complex k a b) => match op with | .neg => some (.x (.complex k (Op.negFloat k a) (Op.negFloat k b))) | _ => none
  | .x (.bool b) => match op with | .not => some (.bool !b) | _ => none
  | _ => none
def bytesOfAVs : List AV → Option (List UInt8)
  | [] => some []
  | .x (.int .u8 n) :: r => match bytesOfAVs r with
    | some l => some (UInt8.ofNat n.toNat :: l)
    | none => none
  | _ => none
def avsOfBytes (l : List UInt8) : List AV := l.map fun b => .int .u8 b.toNat
def St.src (s : St) (e : TypeId) : AV → Option (List AV)
  | .str l => if P.cellsOf e = 1 then some (avsOfBytes l) else none
  | .nils => some []
  | .cap0 => some []
  | .sl e' xs => if e' = e then some xs else none
  | .arr i k e' lo n tot => if e' = e then s.elems i k lo n tot else none
  | _ => none
def convA (s : St) (src dst : TypeId) (a : AV) : Option AV :=
  match a with
  | .x (.int _ n) => match P.underlying src, P.underlying dst with
    | some _, some (.int k) => some (.int k (k.wrap n))
    | some _, some (.float k) => some (.x (.float k (k.nearest n)))
    | _, _ => none
  | .x (.float s b) => match P.underlying src, P.underlying dst with
    | some _, some (.int k) => match (s.decode b).toInt .zero with
      | some n => if k.min ≤ n ∧ n ≤ k.max then some (.int k n) else none
      | none => none
    | some _, some (.float k) => if s = k then some (.x (.float k b)) else none
    | _, _ => none
  | .str l => match P.underlying src, P.underlying dst with
    | some _, some .string => some (.str l)
    | _, _ => none
  | a => match P.underlying src, P.underlying dst with
    | some (.slice e), some .string => match P.underlying e, s.src P e a with
      | some (.int .u8), some xs => (bytesOfAVs xs).map .str
      | _, _ => none
    | _, _ => none
def boundA (s : St) (dflt most : Nat) : Option Operand → Option Nat
  | none => some dflt
  | some o => match evalO s o with
    | some (.x (.int _ i)) => if 0 ≤ i ∧ i ≤ most then some i.toNat else none
    | _ => none
def partsA (s : St) : List (Nat × Operand) → Option (List (Nat × AV))
  | [] => some []
  | (i, o) :: r => match evalO s o, partsA s r with
    | some a, some l => some ((i, a) :: l)
    | _, _ => none
def evalOs (s : St) : List Operand → Option (List AV)
  | [] => some []
  | o :: r => match evalO s o, evalOs s r with
    | some a, some l => some (a :: l)
    | _, _ => none
def St.fresh (s : St) (d : Option Nat) (e : TypeId) (xs : List AV) : Option St :=
  match d with
  | some k => if k < 500000 then some ((s.create k (.arr false e xs)).put (some k) (.arr 0 k e 0 xs.length xs.length)) else none
  | none => none
def appendA (s : St) (d : Option Nat) (t : TypeId) (a b : AV) : Option St :=
  match elemT P t with
  | none => none
  | some e => match sizeT P e, bytesT P e, s.src P e b, zeroT P e with
    | some es, some by_, some news, some z =>
      if es = 0 ∨ by_ = 0 ∨ z.cells.length ≠ es then none else
      match a with
      | .nils => match news with
        | [] => some (s.put d .nils)
        | y :: ys => if (y :: ys).length * by_ ≤ 140737488355328 then s.fresh d e (y :: ys) else none
      | .cap0 => match news with
        | [] => some (s.put d .cap0)
        | y :: ys => if (y :: ys).length * by_ ≤ 140737488355328 then s.fresh d e (y :: ys) else none
      | .arr i k e' lo n tot => match getOb s.stores i k with
        | some (.arr false e2 xs) =>
          if e' = e ∧ e2 = e ∧ lo = 0 ∧ n = tot ∧ xs.length = tot ∧ (xs.length + news.length) * by_ ≤ 140737488355328 then
            some (St.put { s with stores := setOb s.stores i k (.arr false e (xs ++ news)) } d (.arr i k e 0 (xs.length + news.length) (xs.length + news.length)))
          else none
        | _ => none
      | _ => none
    | _, _, _, _ => none
def sinkCell (s : St) (i : Nat) (a : AV) : Option (St × AV) :=
  match a with
  | .arr j k e lo n tot => if i + 1 ≤ j then some (s, .arr (j - (i + 1)) k e lo n tot) else resolve1 s (.arr j k e lo n tot)
  | .ref j k off => if i + 1 ≤ j then some (s, .ref (j - (i + 1)) k off) else none
  | a => resolve1 s a
def sinkCells (s : St) (i : Nat) : List AV → Option (St × List AV)
  | [] => some (s, [])
  | a :: r => match sinkCell s i a with
    | some (s1, b) => match sinkCells s1 i r with
      | some (s2, l) => some (s2, b :: l)
      | none => none
    | none => none
def storeA (s : St) (d : Option Nat) (t : TypeId) (p v : AV) : Option St :=
  match sizeT P t with
  | none => none
  | some n =>
    if v.cells.length = n ∧ v.cells.all AV.isCell then
      match p with
      | .ref 0 k off => match getOb s.stores 0 k with
        | some (.box cs) => match layA cs off v.cells with
          | some ds => some (St.put { s with stores := setOb s.stores 0 k (.box ds) } d .und)
          | none => none
        | _ => none
      | .ref (i + 1) k off => match sinkCells s i v.cells with
        | some (s1, vs) => match getOb s1.stores (i + 1) k with
          | some (.box cs) => match layA cs off vs with
            | some ds => some (St.put { s1 with stores := setOb s1.stores (i + 1) k (.box ds) } d .und)
            | none => none
          | _ => none
        | none => none
      | .ear i k e tot j off => match resolveL s v.cells with
        | some (s1, vs) => match getOb s1.stores i k with
          | some (.arr false e' xs) => if xs.length = tot ∧ e' = e then match xs[j]? with
              | some y => match layA y.cells off vs, aggT P e with
                | some ds, some true => some (St.put { s1 with stores := setOb s1.stores i k (.arr false e (xs.set j (.agg ds))) } d .und)
                | some [c], some false => some (St.put { s1 with stores := setOb s1.stores i k (.arr false e (xs.set j c)) } d .und)
                | _, _ => none
              | none => none else none
          | _ => none
        | none => none
      | _ => none
    else none
def loadA (s : St) (t : TypeId) (p : AV) : Option AV :=
  match p with
  | .ref i k off => match getOb s.stores i k with
    | some (.box cs) => (partA P t cs off).map (shiftCells i)
    | _ => none
  | .efz cs off => partA P t cs off
  | .ear i k _ tot j off => match getOb s.stores i k with
    | some (.arr _ _ xs) => if xs.length = tot then match xs[j]? with
        | some y => partA P t y.cells off
        | none => none else none
    | _ => none
  | _ => none
def St.fwd (s : St) (n : Nat) : AV → Option AV
  | .ref i k off => some (.ref i k (off + n))
  | .efz cs off => some (.efz cs (off + n))
  | .ear i k e tot j off => match getOb s.stores i k with
    | some (.arr _ _ xs) => if xs.length = tot then some (.ear i k e tot j (off + n)) else none
    | _ => none
  | _ => none
def indexAddrA (s : St) (t : TypeId) (p : AV) (i : Int) : Option AV :=
  match P.underlying t with
  | some (.slice e) => if 0 ≤ i then match p with
      | .sl e' xs => if e' = e then match xs[i.toNat]? with
          | some a => some (.efz a.cells 0)
          | none => none else none
      | .arr j k e' lo n tot => if e' = e ∧ i < n then match s.elems j k lo n tot with
          | some _ => some (.ear j k e tot (lo + i.toNat) 0)
          | none => none else none
      | _ => none else none
  | some (.array len e) => match sizeT P e with
    | some n => if 0 ≤ i ∧ i < len then s.fwd (i.toNat * n) p else none
    | none => none
  | _ => none
def sliceA (s : St) (t : TypeId) (a : AV) (lo hi mx : Option Operand) : Option AV :=
  match P.underlying t with
  | some .string => match a, mx with
    | .str l, none => match boundA s l.length l.length hi with
      | some h => match boundA s 0 h lo with
        | some b => some (.str ((l.take h).drop b))
        | none => none
      | none => none
    | _, _ => none
  | some (.slice e) => match sizeT P e with
    | none => none
    | some _ => match mx, hi with
      | none, hi => match a with
        | .sl e' xs => if e' = e then match boundA s xs.length xs.length hi with
          | some h => match boundA s 0 h lo with
            | some b => some (.sl e' ((xs.take h).drop b))
            | none => none
          | none => none else none
        | .arr i k e' lo' n tot => if e' = e then match s.elems i k lo' n tot, boundA s n n hi with
          | some _, some h => match boundA s 0 h lo with
            | some b => some (.arr i k e' (lo' + b) (h - b) tot)
            | none => none
          | _, _ => none else none
        | .nils => match boundA s 0 0 hi with
          | some h => match boundA s 0 h lo with
            | some _ => some .nils
            | none => none
          | none => none
        | .cap0 => match boundA s 0 0 hi with
          | some h => match boundA s 0 h lo with
            | some _ => some .cap0
            | none => none
          | none => none
        | _ => none
      | some m, some o1 => match a with
        | .nils => match boundA s 0 0 (some m) with
          | some m' => match boundA s 0 m' (some o1) with
            | some h => match boundA s 0 h lo with
              | some _ => some .nils
              | none => none
            | none => none
          | none => none
        | .cap0 => match boundA s 0 0 (some m) with
          | some m' => match boundA s 0 m' (some o1) with
            | some h => match boundA s 0 h lo with
              | some _ => some .cap0
              | none => none
            | none => none
          | none => none
        | .sl e' xs => if e' = e then match boundA s 0 xs.length (some m) with
          | some m' => match boundA s 0 m' (some o1) with
            | some h => match boundA s 0 h lo with
              | some b => match m' with
                | 0 => some .cap0
                | _ + 1 => some (.sl e' ((xs.take h).drop b))
              | none => none
            | none => none
          | none => none else none
        | .arr i k e' lo' n tot => if e' = e then match s.elems i k lo' n tot, boundA s 0 n (some m) with
          | some _, some m' => match boundA s 0 m' (some o1) with
            | some h => match boundA s 0 h lo with
              | some b => match m' with
                | 0 => some .cap0
                | _ + 1 => some (.arr i k e' (lo' + b) (h - b) tot)
              | none => none
            | none => none
          | _, _ => none else none
        | _ => none
      | some _, none => none
  | _ => none
def lenOfA (s : St) (t : TypeId) (a : AV) : Option Nat :=
  match P.underlying t with
  | some .string => match a with
    | .str l => some l.length
    | _ => none
  | some (.slice _) => match a with
    | .nils | .cap0 => some 0
    | .sl _ xs => some xs.length
    | .arr i k _ lo n tot => match s.elems i k lo n tot with
      | some _ => some n
      | none => none
    | _ => none
  | some (.array n _) => some n
  | some (.pointer arr) => match P.underlying arr with
    | some (.array n _) => some n
    | _ => none
  | _ => none
def copyA (s : St) (d : Option Nat) (t : TypeId) (a b : AV) : Option St :=
  match elemT P t with
  | none => none
  | some e => match sizeT P e, s.src P e b with
    | some _, some ys => match a with
      | .arr i k e' lo n tot => match getOb s.stores i k with
        | some (.arr false e2 xs) => if e' = e ∧ e2 = e ∧ xs.length = tot ∧ lo + n ≤ tot then
            some (St.put { s with stores := setOb s.stores i k (.arr false e (xs.take lo ++ (ys.take (min ys.length n) ++ xs.drop (lo + min ys.length n)))) } d (.int .i64 (min ys.length n : Nat)))
          else none
        | _ => none
      | .nils => some (s.put d (.int .i64 0))
      | .cap0 => some (s.put d (.int .i64 0))
      | .sl _ xs => if min ys.length xs.length = 0 then some (s.put d (.int .i64 0)) else none
      | _ => none
    | _, _ => none
def clearA (s : St) (d : Option Nat) (t : TypeId) (a : AV) : Option St :=
  match elemT P t with
  | none => none
  | some e => match a with
    | .nils => some (s.put d .und)
    | .cap0 => some (s.put d .und)
    | .arr i k e' lo n tot => match zeroT P e, sizeT P e, getOb s.stores i k with
      | some z, some es, some (.arr false e2 xs) =>
        if e' = e ∧ e2 = e ∧ xs.length = tot ∧ lo + n ≤ tot ∧ z.cells.length = es ∧ 0 < n then
          some (St.put { s with stores := setOb s.stores i k (.arr false e (xs.take lo ++ (List.replicate n z ++ xs.drop (lo + n)))) } d .und)
        else none
      | _, _, _ => none
    | _ => none
def minF (k : FloatKind) (a b : Nat) : Option Nat := match k.format.order a b with
  | some .lt => some a
  | some .gt => some b
  | some .eq => some (if (k.decode a).neg then a else b)
  | none => none
def maxF (k : FloatKind) (a b : Nat) : Option Nat := match k.format.order a b with
  | some .lt => some b
  | some .gt => some a
  | some .eq => some (if (k.decode a).neg then b else a)
  | none => none
def builtinA (s : St) (d : Option Nat) (b : Builtin) (ts : List TypeId) (as : List AV) : Option St :=
  match b with
  | .len => match as, ts with
    | [a], t :: _ => (lenOfA P s t a).map fun n => s.put d (.int .i64 n)
    | _, _ => none
  | .append => match as, ts with
    | [a, b], [t, t2] => match P.underlying t2 with
      | some (.slice _) | some .string => appendA P s d t a b
      | _ => none
    | _, _ => none
  | .copy => match as, ts with
    | [a, b], t :: _ => copyA P s d t a b
    | _, _ => none
  | .clear => match as, ts with
    | [a], t :: _ => clearA P s d t a
    | _, _ => none
  | .real => match as with
    | [.x (.complex k a _)] => some (s.put d (.x (.float k a)))
    | _ => none
  | .imag => match as with
    | [.x (.complex k _ b)] => some (s.put d (.x (.float k b)))
    | _ => none
  | .complex => match as with
    | [.x (.float k a), .x (.float k' b)] => if k = k' then some (s.put d (.x (.complex k a b))) else none
    | _ => none
  | .min => match as with
    | [.x (.int k a), .x (.int _ b)] => some (s.put d (.int k (if b < a then b else a)))
    | [.x (.float k a), .x (.float _ b)] => (minF k a b).map fun r => s.put d (.x (.float k r))
    | _ => none
  | .max => match as with
    | [.x (.int k a), .x (.int _ b)] => some (s.put d (.int k (if b > a then b else a)))
    | [.x (.float k a), .x (.float _ b)] => (maxF k a b).map fun r => s.put d (.x (.float k r))
    | _ => none
  | _ => none
def boxA (s : St) (d : Option Nat) (e : TypeId) (a : AV) : Option St :=
  match d, sizeT P e with
  | some k, some n => if (a.cells.length = n ∧ a.cells.all AV.isCell) ∧ k < 500000 then
      some (((s.create k (.box (a.cells.map (AV.killCell k)))).put (some k) (.ref 0 k 0))) else none
  | _, _ => none
def placesT : List Field → Option (List (Nat × Nat))
  | [] => some []
  | f :: r => match sizeT P f.type, placesT r with
    | some n, some l => some ((f.offset, n) :: l)
    | _, _ => none
def buildA (s : St) (d : Option Nat) (t : TypeId) (l : List (Nat × AV)) : Option St :=
  match zeroT P t, P.underlying t with
  | some z, some (.struct fields) => match placesT P fields.toList with
    | some places => match fillA (places[·]?) z.cells l with
      | some cs => some (s.put d (.agg cs))
      | none => none
    | none => none
  | some z, some (.array _ e) => match sizeT P e with
    | some n => match fillA (fun i => some (i * n, n)) z.cells l with
      | some cs => some (s.put d (.agg cs))
      | none => none
    | none => none
  | _, _ => none
def buildSliceA (s : St) (d : Option Nat) (t : TypeId) (len : Nat) (l : List (Nat × AV)) : Option St :=
  match elemT P t, resolveAll s (l.map (·.2)) with
  | some e, some (s1, vs) => match sizeT P e, zeroT P e with
    | some n, some z => if n = 0 ∨ len * n > 16777216 ∨ z.cells.length ≠ n then none else
      match fillA (fun i => some (i * n, n)) ((List.replicate len z.cells).flatten) ((l.map (·.1)).zip vs) with
      | some cs => if cs.all AV.isVal then match (aggT P e).bind fun b => chunksA b n len cs with
          | some xs => s1.fresh d e xs
          | none => none else none
      | none => none
    | _, _ => none
  | _, _ => none
def makeA (s : St) (d : Option Nat) (t : TypeId) (l c : Int) : Option St :=
  match elemT P t with
  | none => none
  | some e => match sizeT P e, bytesT P e, zeroT P e with
    | some n, some by_, some z => if 0 ≤ l ∧ l ≤ c ∧ c ≤ 9223372036854775807 ∧ by_ * c ≤ 281474976710656 ∧ 0 < n ∧ z.cells.length = n ∧ z.cells.all AV.isVal then
        s.fresh d e (List.replicate l.toNat z) else none
    | _, _, _ => none
def makeO (t : TypeId) (l c : Int) : Option (TypeId × List AV) :=
  match elemT P t with
  | none => none
  | some e => match sizeT P e, bytesT P e, zeroT P e with
    | some n, some by_, some z => if 0 ≤ l ∧ l ≤ c ∧ c ≤ 9223372036854775807 ∧ by_ * c ≤ 281474976710656 ∧ 0 < n ∧ z.cells.length = n ∧ z.cells.all AV.isVal then
        some (e, List.replicate l.toNat z) else none
    | _, _, _ => none
def buildSliceO (s : St) (t : TypeId) (len : Nat) (l : List (Nat × AV)) : Option (St × TypeId × List AV) :=
  match elemT P t, resolveAll s (l.map (·.2)) with
  | some e, some (s1, vs) => match sizeT P e, zeroT P e with
    | some n, some z => if n = 0 ∨ len * n > 16777216 ∨ z.cells.length ≠ n then none else
      match fillA (fun i => some (i * n, n)) ((List.replicate len z.cells).flatten) ((l.map (·.1)).zip vs) with
      | some cs => if cs.all AV.isVal then match (aggT P e).bind fun b => chunksA b n len cs with
          | some xs => some (s1, e, xs)
          | none => none else none
      | none => none
    | _, _ => none
  | _, _ => none
def convertA (s : St) (d : Option Nat) (src dst : TypeId) (a : AV) : Option St :=
  match convA P s src dst a with
  | some v => some (s.put d v)
  | none => match P.underlying src, P.underlying dst with
    | some .string, some (.slice e) => match a, P.underlying e with
      | .str l, some (.int .u8) => if l.length ≤ 9223372036854775807 ∧ P.cellsOf e = 1 then some (s.put d (.sl e (avsOfBytes l))) else none
      | _, _ => none
    | some (.slice _), some (.slice e) => if src = dst then match P.underlying e, a with
        | some (.int .u8), .arr i k e' lo (n + 1) tot => match getOb s.stores i k, s.elems i k lo (n + 1) tot with
          | some (.arr false _ _), some xs => some ((s.setFz i k).put d (.sl e' xs))
          | _, _ => none
        | _, _ => none else none
    | _, _ => none
def nilA (s : St) : AV → Bool
  | .ref _ _ _ => true
  | .efz _ _ => true
  | .ear i k _ tot _ _ => match getOb s.stores i k with
    | some (.arr _ _ xs) => xs.length == tot
    | _ => false
  | _ => false
def opA (s : St) (o : Oper) : Option St :=
  match o.op with
  | .move x => (evalO s x).map fun a => s.put o.dst a
  | .assign x => (evalO s x).map fun a => s.put o.dst a
  | .pick c a b => match evalO s c with
    | some (.x (.bool t)) => (if t then evalO s a else evalO s b).map fun v => s.put o.dst v
    | _ => none
  | .nilCheck x => match evalO s x with
    | some a => if nilA s a then some (s.put o.dst a) else none
    | none => none
  | .alloc e => match zeroT P e with
    | some z => boxA P s o.dst e z
    | none => none
  | .box e x => match evalO s x with
    | some a => boxA P s o.dst e a
    | none => none
  | .build t ps => match partsA s ps.toList with
    | some l => buildA P s o.dst t l
    | none => none
  | .buildSlice t len ps => match partsA s ps.toList with
    | some l => buildSliceA P s o.dst t len l
    | none => none
  | .makeSlice t lo co => match evalO s lo, evalO s co with
    | some (.x (.int _ l)), some (.x (.int _ c)) => makeA P s o.dst t l c
    | _, _ => none
  | .load t x => match evalO s x with
    | some p => (loadA P s t p).map fun a => s.put o.dst a
    | none => none
  | .store t x y => match evalO s x, evalO s y with
    | some p, some v => storeA P s o.dst t p v
    | _, _ => none
  | .fieldAddr t x f => match P.underlying t, evalO s x with
    | some (.struct fields), some p => match fields[f]? with
      | some fd => match sizeT P fd.type with
        | some (_ + 1) => (s.fwd fd.offset p).map fun a => s.put o.dst a
        | _ => none
      | none => none
    | _, _ => none
  | .indexAddr t x y => match evalO s x, evalO s y with
    | some p, some (.x (.int _ i)) => (indexAddrA P s t p i).map fun a => s.put o.dst a
    | _, _ => none
  | .field t x f => match P.underlying t, evalO s x with
    | some (.struct fields), some (.agg cs) => match fields[f]? with
      | some fd => (partA P fd.type cs fd.offset).map fun a => s.put o.dst a
      | none => none
    | _, _ => none
  | .index t x y => match evalO s x, evalO s y with
    | some a, some (.x (.int _ i)) => match P.underlying t with
      | some (.array len e) => match a, sizeT P e with
        | .agg cs, some n => if 0 ≤ i ∧ i < len then (partA P e cs (i.toNat * n)).map fun a => s.put o.dst a else none
        | _, _ => none
      | some .string => match a with
        | .str l => if 0 ≤ i then match l[i.toNat]? with
          | some b => some (s.put o.dst (.int .u8 b.toNat))
          | none => none else none
        | _ => none
      | _ => none
    | _, _ => none
  | .slice t x lo hi mx => match evalO s x with
    | some a => (sliceA P s t a lo hi mx).map fun v => s.put o.dst v
    | none => none
  | .binOp op t x y _ => match evalO s x, evalO s y with
    | some a, some b => (binA P s op t a b).map fun v => s.put o.dst v
    | _, _ => none
  | .unOp op _ x => match evalO s x with
    | some a => (unA op a).map fun v => s.put o.dst v
    | none => none
  | .convert src dst x => match evalO s x with
    | some a => convertA P s o.dst src dst a
    | none => none
  | .extract x i => match evalO s x with
    | some (.tup vs) => (vs[i]?).map fun a => s.put o.dst a
    | _ => none
  | .call c => match c.callee with
    | .builtin b => match evalOs s c.args.toList with
      | some as => builtinA P s o.dst b c.argTypes.toList as
      | none => none
    | _ => none
  | _ => none
inductive AExit where
  | normal
  | exit (id : Nat)
  | goto (l : Nat)
  | ret
  deriving DecidableEq, Inhabited
inductive Task where
  | code (c : Code)
  | within (c rest : Code)
abbrev Rec := Task → St → Option (AExit × St)
def resultOne (s : St) : ResultVar → Option AV
  | .tmp t => some (s.get t)
  | .cell a t => loadA P s t (s.get a)
def resultAll (s : St) : List ResultVar → Option (List AV)
  | [] => some []
  | r :: l => match resultOne P s r, resultAll s l with
    | some a, some b => some (a :: b)
    | _, _ => none
def objE : Nat := 999999999
def wholeA (s : St) (k : Nat) (e : TypeId) (lo n tot : Nat) : Bool :=
  match getOb s.stores 0 k with
  | some (.arr fz e' xs) => !fz && xs.length == tot && e' == e && lo == 0 && n == tot
  | _ => false
def outOne (s : St) (used : List Nat) (a : AV) : Option (List Nat × AV) :=
  match a with
  | .arr 0 k e lo n tot => if (wholeA s k e lo n tot ∧ used.contains k = false) ∧ Nat.beq e objE = false then match getOb s.stores 0 k with
    | some (.arr _ _ xs) => some (k :: used, .own e xs)
    | _ => none else none
  | .ref 0 k 0 => match getOb s.stores 0 k with
    | some (.box cs) => if cs.all AV.isVal = true ∧ used.contains k = false then some (k :: used, .own objE [.agg cs]) else none
    | _ => none
  | .arr (i + 1) k e lo n tot => some (used, .arr i k e lo n tot)
  | .ref (i + 1) k off => some (used, .ref i k off)
  | .x v => some (used, .x v)
  | .str l => some (used, .str l)
  | .nils => some (used, .nils)
  | .cap0 => some (used, .cap0)
  | .sl e xs => some (used, .sl e xs)
  | .agg cs => if cs.all AV.isVal then some (used, .agg cs) else none
  | _ => none
def outAll (s : St) (used : List Nat) : List AV → Option (List AV)
  | [] => some []
  | a :: r => match outOne s used a with
    | some (u1, b) => match outAll s u1 r with
      | some l => some (b :: l)
      | none => none
    | none => none
def settleOne (s : St) (a : AV) : Option (St × AV) :=
  match a with
  | .agg cs => resolve s (.agg cs)
  | .arr 0 k e lo n tot => if wholeA s k e lo n tot then some (s, .arr 0 k e lo n tot) else resolve1 s (.arr 0 k e lo n tot)
  | a => some (s, a)
def settle (s : St) : List AV → Option (St × List AV)
  | [] => some (s, [])
  | a :: r => match settleOne s a with
    | some (s1, b) => match settle s1 r with
      | some (s2, l) => some (s2, b :: l)
      | none => none
    | none => none
def inOne (s : St) (k : Nat) (a : AV) : St × AV :=
  match a with
  | .own e xs => match Nat.beq e objE with
    | true => match xs with
      | [.agg cs] => (s.create k (.box cs), .ref 0 k 0)
      | _ => (s, .dead)
    | false => (s.create k (.arr false e xs), .arr 0 k e 0 xs.length xs.length)
  | a => (s, a)
def AV.kills (k : Nat) : Nat → AV → AV
  | 0, a => a
  | n + 1, a => AV.kills (k + 1) n (a.kill1 k)
def inAll (s : St) (k : Nat) : List AV → St × List AV
  | [] => (s, [])
  | a :: r =>
    let q := inAll s (k + 1) r
    let p := inOne q.1 k (a.kills (k + 1) r.length)
    (p.1, p.2 :: q.2.map (AV.kill1 k))
def AV.flat0 : AV → Bool
  | .x _ | .str _ | .nils | .cap0 => true
  | _ => false
def AV.flat1 : AV → Bool
  | .agg cs => cs.all AV.flat0
  | a => a.flat0
def AV.flat2 : AV → Bool
  | .own _ xs => xs.all AV.flat1
  | a => a.flat1
def AV.hasSl : AV → Bool
  | .tup vs => !(vs.all AV.flat2)
  | a => !a.flat2
def AV.shut1 : AV → Bool
  | .own _ _ => true
  | .agg cs => cs.all AV.isVal
  | a => a.isVal
def AV.shut : AV → Bool
  | .tup vs => vs.all AV.shut1
  | a => a.shut1
def openA (lend : Nat → Bool) : Nat → List AV → Bool
  | _, [] => false
  | j, a :: r => (match a with
    | .arr .. => lend j
    | .ref .. => true
    | _ => false) || openA lend (j + 1) r
def lendAll (s : St) : List AV → Option (St × List AV)
  | [] => some (s, [])
  | a :: r => match lendAll s r with
    | none => none
    | some (s1, l) => match a with
      | .arr i k e lo n tot => some (s1, .arr (i + 1) k e lo n tot :: l)
      | .ref i k off => some (s1, .ref (i + 1) k off :: l)
      | a => match resolve s1 a with
        | some (s2, b) => some (s2, b :: l)
        | none => none
structure Env where
  Φ : FuncId → Option Func
  Γ : FuncId → List AV → Option AV
  Δ : FuncId → List AV → List Store → Option (List Store × AV)
  lend : FuncId → Nat → Bool
  solo : Oper → Bool
  ok : Array Oper → Bool
  ok2 : Array Oper → Bool := fun _ => false
variable (E : Env)
def enterA (fn : Func) (args : List AV) (stores : List Store) : St :=
  { slots := args ++ List.replicate (fn.ntmps - args.length) .und, stores := [] :: stores }
def oneOf : List AV → AV
  | [v] => v
  | vs => .tup vs
def callA (rec : Rec) (f : FuncId) (args : List AV) (stores : List Store) : Option (List Store × AV) :=
  match E.Γ f args with
  | some r => some (stores, r)
  | none => match E.Δ f args stores with
  | some z => some z
  | none => match E.Φ f with
    | some fn => match fn.body with
      | some c => match rec (.code c) (enterA fn args stores) with
        | some (e, s) => if e = .ret ∨ e = .normal then match resultAll P s fn.results.toList with
            | some l => match settle s l with
              | some (s1, l1) => match outAll s1 [] l1 with
                | some vs => match s1.stores with
                  | [] => none
                  | _ :: r => some (r, oneOf vs)
                | none => none
              | none => none
            | none => none else none
        | none => none
      | none => none
    | none => none
def bindA (s : St) (d : Option Nat) (r : AV) : St :=
  match d with
  | none => s
  | some k => match r with
    | .tup vs => if home k 0 + vs.length ≤ 500000 then let p := inAll s (home k 0) vs; p.1.put (some k) (.tup p.2) else s.put (some k) .dead
    | r => if k < 500000 then let p := inOne s k r; p.1.put (some k) p.2 else s.put (some k) .dead
def callOpA (rec : Rec) (s : St) (d : Option Nat) (f : FuncId) (args : List AV) : Option St :=
  if openA (E.lend f) 0 args then match lendAll s args with
    | some (s1, as) => match callA P E rec f as s1.stores with
      | some (t :: S, r) => some (bindA { s1 with stores := t :: S } d r)
      | _ => none
    | none => none
  else match resolveAll s args with
    | some (s1, as) => match callA P E rec f as [] with
      | some (_, r) => if r.shut then some (bindA (if r.hasSl then s1 else s) d r) else none
      | none => none
    | none => none
def stepOp (rec : Rec) (s : St) (o : Oper) : Option St :=
  match o.op with
  | .call c => match calleeA s c.callee with
    | some f => match evalOs s c.args.toList with
      | some as => callOpA P E rec s o.dst f as
      | none => none
    | none => opA P s o
  | _ => opA P s o
def guardA (ops : Array Oper) (s : St) : Option (Nat × Bool) → Option Bool
  | none => some true
  | some (j, want) => match (ops[j]?).bind (·.dst) with
    | some t => match s.get t with
      | .x (.bool b) => some (b == want)
      | .und => some false
      | _ => none
    | none => none
def opsA (st : Oper → St → Option St) (ops : Array Oper) : List Nat → St → Option St
  | [], s => some s
  | i :: r, s => match ops[i]? with
    | none => opsA st ops r s
    | some o => match guardA ops s o.guard with
      | some true => match st o s with
        | some s1 => opsA st ops r s1
        | none => none
      | some false => opsA st ops r (s.put o.dst .und)
      | none => none
def AV.unown : AV → AV
  | .own e xs => match Nat.beq e objE with
    | true => .dead
    | false => .sl e xs
  | a => a
def AV.unowns : AV → AV
  | .tup vs => .tup (vs.map AV.unown)
  | a => a.unown
def veq : Value → Value → Bool
  | .int k a, .int k' b => decide (k = k') && decide (a = b)
  | .bool a, .bool b => a == b
  | _, _ => false
def aveq : AV → AV → Bool
  | .x v, .x u => veq v u
  | .nils, .nils => true
  | .cap0, .cap0 => true
  | .dead, .dead => true
  | .str a, .str b => decide (a = b)
  | .ref i k o, .ref i' k' o' => Nat.beq i i' && Nat.beq k k' && Nat.beq o o'
  | .arr i k e lo n tot, .arr i' k' e' lo' n' tot' => Nat.beq i i' && Nat.beq k k' && Nat.beq e e' && Nat.beq lo lo' && Nat.beq n n' && Nat.beq tot tot'
  | _, _ => false
def leq {α : Type} (f : α → α → Bool) : List α → List α → Bool
  | [], [] => true
  | a :: r, b :: q => f a b && leq f r q
  | _, _ => false
def aveq1 : AV → AV → Bool
  | .agg cs, .agg ds => leq aveq cs ds
  | a, b => aveq a b
def obeq : Ob → Ob → Bool
  | .box cs, .box ds => leq aveq cs ds
  | .arr fz e xs, .arr fz' e' ys => (fz == fz') && Nat.beq e e' && leq aveq1 xs ys
  | _, _ => false
def steq (a b : List Store) : Bool := leq (leq fun p q => Nat.beq p.1 q.1 && obeq p.2 q.2) a b
def readArgs : List AV → Option (List AV)
  | [] => some []
  | a :: r => match readArgs r with
    | none => none
    | some l => match a with
      | .ref i k off => some (.ref (i + 1) k off :: l)
      | a => if a.isVal then some (a :: l) else none
def AV.read : AV → Bool
  | .own .. => false
  | .tup .. => false
  | r => r.shut1
def readA (rec : Rec) (f : FuncId) (as : List AV) (S : List Store) : Option AV :=
  match readArgs as with
  | none => none
  | some bs => match callA P E rec f bs S with
    | none => none
    | some (S', r) => if steq S S' = true ∧ r.read = true then some r else none
def quietA (rec : Rec) (s : St) (o : Oper) : Option St :=
  match o.op with
  | .call c => match calleeA s c.callee with
    | some f => match evalOs s c.args.toList with
      | some as => match resolveAll s as with
        | some (_, bs) => match callA P E rec f bs [] with
          | some (_, r) => if r.shut ∧ (r.hasSl = false ∨ as.all AV.isVal = true) then some (s.put o.dst r.unowns) else none
          | none => none
        | none => (readA P E rec f as s.stores).map fun r => s.put o.dst r
      | none => none
    | none => (match c.callee with
      | .builtin .len | .builtin .min | .builtin .max | .builtin .real | .builtin .imag | .builtin .complex => opA P s o
      | _ => none)
  | .move _ | .assign _ | .pick .. | .nilCheck _ | .build .. | .load .. | .fieldAddr .. | .indexAddr .. | .field .. | .index .. | .slice .. | .binOp .. | .unOp .. | .extract .. => opA P s o
  | .convert src dst x => match evalO s x with
    | some a => (convA P s src dst a).map fun v => s.put o.dst v
    | none => none
  | _ => none
def AV.isVals : AV → Bool
  | .agg cs => cs.all AV.isVal
  | a => a.isVal
def quietQ (rec : Rec) (s : St) (o : Oper) : Option St :=
  match o.op with
  | .buildSlice t len ps => match partsA s ps.toList with
    | some l => if l.all (fun p => p.2.isVals) = true then (buildSliceO P s t len l).map fun q => s.put o.dst (.sl q.2.1 q.2.2) else none
    | none => none
  | .makeSlice t lo co => match evalO s lo, evalO s co with
    | some (.x (.int _ l)), some (.x (.int _ c)) => (makeO P t l c).map fun q => s.put o.dst (.sl q.1 q.2)
    | _, _ => none
  | .call c => match calleeA s c.callee with
    | some _ => match (evalOs s c.args.toList).bind fun as => resolveAll s as with
      | some _ => quietA P E rec s o
      | none => none
    | none => quietA P E rec s o
  | _ => quietA P E rec s o
def newB (o : Oper) : Bool := match o.op with
  | .alloc _ => true
  | .box _ _ => true
  | _ => false
def barB (o : Oper) : Bool := E.solo o && (match o.op with
  | .buildSlice .. => false
  | .makeSlice .. => false
  | _ => true)
def AV.free0 (k : Nat) : AV → Bool
  | .arr 0 j _ _ _ _ => !(Nat.beq j k)
  | .ref 0 j _ => !(Nat.beq j k)
  | .ear 0 j _ _ _ _ => !(Nat.beq j k)
  | _ => true
def AV.free1 (k : Nat) : AV → Bool
  | .agg cs => cs.all (AV.free0 k)
  | a => a.free0 k
def AV.free (k : Nat) : AV → Bool
  | .tup vs => vs.all (AV.free1 k)
  | a => a.free1 k
def Ob.free (k : Nat) : Ob → Bool
  | .box cs => cs.all (AV.free0 k)
  | _ => true
def St.free (k : Nat) (s : St) : Bool := match s.stores with
  | [] => false
  | t :: _ => (look t k).isNone && t.all (fun p => p.2.free k) && s.slots.all (AV.free k)
def cleanA (K : List Nat) (s : St) : Bool := K.all fun k => (getOb s.stores 0 k).isSome || s.free k
def newNames (ops : Array Oper) : List Nat := ops.toList.filterMap fun o => if newB o then o.dst else none
def freshB (s : St) (d : Option Nat) : Bool := match d with
  | some k => s.free k
  | none => false
def drawIn (rec : Rec) (s : St) (o : Oper) : Option St :=
  if newB o then (if freshB s o.dst then opA P s o else none)
  else if barB E o then stepOp P E rec s o else quietQ P E rec s o
def ab (st : Oper → St → Option St) (ops : Array Oper) (i : Nat) (s : St) : Option St :=
  match ops[i]? with
  | none => some s
  | some o => match guardA ops s o.guard with
    | some true => st o s
    | some false => some (s.put o.dst .und)
    | none => none
def ab2 (st : Oper → St → Option St) (K : List Nat) (ops : Array Oper) (i : Nat) (s : St) : Option St :=
  if cleanA K s then match ab st ops i s with
    | some s1 => if cleanA K s1 then some s1 else none
    | none => none
  else none
def runL (f : Nat → St → Option St) : List Nat → St → Option St
  | [], s => some s
  | i :: r, s => match f i s with
    | some s1 => runL f r s1
    | none => none
def drawOp (rec : Rec) (s : St) (o : Oper) : Option St := if E.solo o then stepOp P E rec s o else quietA P E rec s o
def stepT (rec : Rec) : Rec
  | .code .skip, s => some (.normal, s)
  | .code (.label _), s => some (.normal, s)
  | .code (.region _ ops false), s => match opsA (fun o s => stepOp P E rec s o) ops (List.range ops.size) s with
    | some s1 => some (.normal, s1)
    | none => none
  | .code (.region _ ops true), s => if E.ok ops then match opsA (fun o s => drawOp P E rec s o) ops (List.range ops.size) s with
    | some s1 => some (.normal, s1)
    | none => none
    else if E.ok2 ops then match runL (ab2 (fun o s => drawIn P E rec s o) (newNames ops) ops) (List.range ops.size) s with
      | some s1 => some (.normal, s1)
      | none => none else none
  | .code (.seq a b), s => match rec (.code a) s with
    | some (.normal, s1) => rec (.code b) s1
    | r => r
  | .code (.cond c a b), s => match evalO s c with
    | some (.x (.bool t)) => rec (.code (if t then a else b)) s
    | _ => none
  | .code (.block id c), s => match rec (.code c) s with
    | some (.exit i, s1) => if i = id then some (.normal, s1) else some (.exit i, s1)
    | r => r
  | .code (.loop c), s => match rec (.code c) s with
    | some (.normal, s1) => rec (.code (.loop c)) s1
    | r => r
  | .code (.exit id), s => some (.exit id, s)
  | .code (.goto l), s => some (.goto l, s)
  | .code .ret, s => some (.ret, s)
  | .code (.scope c), s => rec (.within c c) s
  | .within c rest, s => match rec (.code rest) s with
    | some (.goto l, s1) => match findLabel c l with
      | some rest1 => rec (.within c rest1) s1
      | none => some (.goto l, s1)
    | r => r
  | .code (.rangeFunc ..), _ => none
  | .code (.refuse _), _ => none
def runN : Nat → Rec
  | 0 => fun _ _ => none
  | n + 1 => stepT P E (runN n)
def runF (n : Nat) (f : FuncId) (args : List AV) : Option AV := (callA P E (runN P E n) f args []).map (·.2)
end
end Go.AbsM
end

section
namespace Go.AbsM
def flat (us : List Value) : List Value := us.flatMap fun u => u.cells.toList
inductive Rep (P : Program) (w : World) (M : Nat → Nat → Prop) : AV → Value → Prop
  | x {v : Value} : plain v = true → Rep P w M (.x v) v
  | str {l : List UInt8} : Rep P w M (.str l) (.string ⟨l.toArray⟩)
  | nils : Rep P w M .nils (.slice none 0 0)
  | cap0 {A : Option Addr} : Rep P w M .cap0 (.slice A 0 0)
  | sl {e : TypeId} {xs : List AV} {A : Option Addr} {n c : Nat} {us : List Value} : n = xs.length → us.length = xs.length → xs.length ≤ c → c ≤ maxLen → 0 < P.cellsOf e →
      (∀ (i : Nat) (x : AV) (u : Value), xs[i]? = some x → us[i]? = some u → Rep P w M x u) → (∀ u, u ∈ us → u.cells.size = P.cellsOf e) →
      (xs ≠ [] → ∃ b o, A = some ⟨b, o, none⟩ ∧ ∀ (j : Nat) (cv : Value), (flat us)[j]? = some cv → w.cell? ⟨b, o + j, none⟩ = some cv ∧ M b (o + j)) → Rep P w M (.sl e xs) (.slice A n c)
  | agg {cs : List AV} {vs : List Value} : vs.length = cs.length → (∀ (i : Nat) (c : AV) (v : Value), cs[i]? = some c → vs[i]? = some v → Rep P w M c v) → (∀ c, c ∈ cs → c.isVal = true) → Rep P w M (.agg cs) (.agg vs.toArray)
theorem Rep.mono {P : Program} {w w' : World} {M M' : Nat → Nat → Prop} (hM : ∀ b o, M b o → M' b o) (hc : ∀ b o, M b o → w'.cell? ⟨b, o, none⟩ = w.cell? ⟨b, o, none⟩) {a : AV} {v : Value} (h : Rep P w M a v) : Rep P w' M' a v := by
  induction h with
  | x h => exact .x h
  | str => exact .str
  | nils => exact .nils
  | cap0 => exact .cap0
  | sl hn hl hxc hcm he _ hsz hcells ih =>
    refine .sl hn hl hxc hcm he ih hsz fun hne => ?_
    obtain ⟨b, o, hA, hj⟩ := hcells hne
    exact ⟨b, o, hA, fun j cv hv => ⟨(hc _ _ (hj j cv hv).2).trans (hj j cv hv).1, hM _ _ (hj j cv hv).2⟩⟩
  | agg hl _ hv ih => exact .agg hl ih hv
theorem Rep.oneCell {P : Program} {w : World} {M : Nat → Nat → Prop} {a : AV} {v : Value} (h : Rep P w M a v) (ha : a.isVal = true) : v.oneCell' = true := by
  cases h with
  | x h => cases v <;> simp_all [plain, Value.oneCell']
  | str => rfl
  | nils => rfl
  | cap0 => rfl
  | sl => rfl
  | agg => simp [AV.isVal] at ha
structure Gh where
  M : Nat → Nat → Prop
  B : Nat → Nat → Nat
  C : Nat → Nat → Nat
def CRep (P : Program) (w : World) (g : Gh) (S : List Store) (a : AV) (v : Value) : Prop :=
  match a with
  | .arr i k e lo n tot => ∃ fz xs, getOb S i k = some (.arr fz e xs) ∧ tot ≤ xs.length ∧ (xs.length = tot → lo + n ≤ tot ∧ ∃ A c, v = .slice A n c ∧ n ≤ c ∧ c ≤ maxLen ∧
      (lo = 0 ∨ 0 < n → A = some ⟨g.B i k, lo * P.cellsOf e, none⟩) ∧ (fz = false → (lo + c) * P.cellsOf e ≤ g.C i k)) ∧ v.oneCell' = true
  | .ref i k off => (∃ cs, getOb S i k = some (.box cs)) ∧ v = .pointer (some ⟨g.B i k, off, none⟩)
  | .efz cs off => ∃ (b o : Nat) (vs : List Value), v = .pointer (some ⟨b, o + off, none⟩) ∧ vs.length = cs.length ∧ (∀ (j : Nat) (c : AV) (u : Value), cs[j]? = some c → vs[j]? = some u → Rep P w g.M c u) ∧ (∀ c, c ∈ cs → c.isVal = true) ∧
      (∀ (j : Nat) (u : Value), vs[j]? = some u → w.cell? ⟨b, o + j, none⟩ = some u ∧ g.M b (o + j))
  | .ear i k e tot j off => ∃ fz xs, getOb S i k = some (.arr fz e xs) ∧ tot ≤ xs.length ∧ (xs.length = tot → j < tot ∧ v = .pointer (some ⟨g.B i k, j * P.cellsOf e + off, none⟩))
  | .und => v = undef
  | .dead => True
  | .agg _ | .tup _ | .own _ _ | .obj _ => False
  | a => Rep P w g.M a v
def HRep1 (P : Program) (w : World) (g : Gh) (S : List Store) (a : AV) (v : Value) : Prop :=
  match a with
  | .agg cs => ∃ vs : List Value, v = .agg vs.toArray ∧ vs.length = cs.length ∧ ∀ (i : Nat) (c : AV) (u : Value), cs[i]? = some c → vs[i]? = some u → CRep P w g S c u ∧ u.oneCell' = true
  | a => CRep P w g S a v
def HRep (P : Program) (w : World) (g : Gh) (S : List Store) (a : AV) (v : Value) : Prop :=
  match a with
  | .tup as => ∃ vs : List Value, v = .tuple vs.toArray ∧ vs.length = as.length ∧ ∀ (i : Nat) (c : AV) (u : Value), as[i]? = some c → vs[i]? = some u → HRep1 P w g S c u
  | a => HRep1 P w g S a v
def RepL (P : Program) (w : World) (M : Nat → Nat → Prop) (e : TypeId) (xs : List AV) (us : List Value) : Prop :=
  us.length = xs.length ∧ (∀ (i : Nat) (x : AV) (u : Value), xs[i]? = some x → us[i]? = some u → Rep P w M x u) ∧ (∀ u, u ∈ us → u.cells.size = P.cellsOf e)
structure SInv (P : Program) (w : World) (g : Gh) (may : Nat → Prop) (S : List Store) : Prop where
  box : ∀ i k cs, getOb S i k = some (.box cs) → may (g.B i k) ∧ (∀ o, ¬ g.M (g.B i k) o) ∧ ∃ (vs : List Value) (t : TypeId), w.heap[g.B i k]? = some (.cells vs.toArray t (0, 0)) ∧ vs.length = cs.length ∧
    ∀ (j : Nat) (c : AV) (u : Value), cs[j]? = some c → vs[j]? = some u → CRep P w g S (c.shift i) u ∧ u.oneCell' = true
  arr : ∀ i k e xs, getOb S i k = some (.arr false e xs) → may (g.B i k) ∧ (∀ o, ¬ g.M (g.B i k) o) ∧ 0 < P.cellsOf e ∧ ∃ (cur : List Value) (us : List Value) (cap : Nat), w.heap[g.B i k]? = some (.cells cur.toArray e (0, 0)) ∧
    cur.length = g.C i k ∧ g.C i k = cap * P.cellsOf e ∧ cap ≤ maxLen ∧ xs.length ≤ cap ∧ RepL P w g.M e xs us ∧ cur.take (xs.length * P.cellsOf e) = flat us
  fz : ∀ i k e xs, getOb S i k = some (.arr true e xs) → 0 < P.cellsOf e ∧ ∃ us : List Value, RepL P w g.M e xs us ∧ ∀ (j : Nat) (cv : Value), (flat us)[j]? = some cv → w.cell? ⟨g.B i k, j, none⟩ = some cv ∧ g.M (g.B i k) j
  inj : ∀ i k o i' k' o', getOb S i k = some o → getOb S i' k' = some o' → o.loose = true → o'.loose = true → g.B i k = g.B i' k' → i = i' ∧ k = k'
  mlt : ∀ b o, g.M b o → b < w.heap.size
end Go.AbsM
end

section
namespace Go.AbsM
theorem look_lay (st : Store) (n m : Nat) (p : Ob) : look (lay st n p) m = if m = n then (look st n).map (fun _ => p) else look st m := by
  induction st with
  | nil => simp [lay, look]
  | cons x r ih =>
    obtain ⟨k, o⟩ := x
    simp only [lay]
    by_cases hk : k = n
    · subst hk
      simp only [if_pos, look]
      by_cases hm : m = k
      · subst hm; simp [look]
      · rw [if_neg (Ne.symm hm), if_neg hm, if_neg (Ne.symm hm)]
    · simp only [if_neg hk, look, ih]
      by_cases hm : m = n
      · subst hm; simp [hk]
      · simp [hm]
theorem look_drop (st : Store) (n m : Nat) : look (drop st n) m = if m = n then none else look st m := by
  induction st with
  | nil => simp [drop, look]
  | cons x r ih =>
    obtain ⟨k, o⟩ := x
    simp only [drop]
    by_cases hk : k = n
    · subst hk
      simp only [if_pos, ih, look]
      by_cases hm : m = k
      · simp [hm]
      · simp [hm, Ne.symm hm]
    · simp only [if_neg hk, look, ih]
      by_cases hm : m = n
      · subst hm; simp [hk]
      · simp [hm]
theorem look_kill (st : Store) (k m : Nat) : look (killStore k st) m = (look st m).map (Ob.kill k) := by
  induction st with
  | nil => rfl
  | cons x r ih =>
    obtain ⟨j, o⟩ := x
    simp only [killStore, look, ih]
    split <;> rfl
theorem getOb_set (S : List Store) (i k : Nat) (o : Ob) (j m : Nat) : getOb (setOb S i k o) j m = if j = i ∧ m = k then (getOb S i k).map (fun _ => o) else getOb S j m := by
  induction S generalizing i j with
  | nil => simp [setOb, getOb]
  | cons t r ih =>
    cases i with
    | zero =>
      cases j with
      | zero => simp [setOb, getOb, look_lay]
      | succ j => simp [setOb, getOb]
    | succ i =>
      cases j with
      | zero => simp [setOb, getOb]
      | succ j => simp [setOb, getOb, ih]
theorem getOb_create (t : Store) (r : List Store) (k : Nat) (o : Ob) (j m : Nat) : getOb (((k, o) :: drop (killStore k t) k) :: r) j m =
    if j = 0 then (if m = k then some o else (getOb (t :: r) 0 m).map (Ob.kill k)) else getOb (t :: r) j m := by
  cases j with
  | zero =>
    simp only [getOb, look, look_drop, look_kill, if_true]
    by_cases hm : m = k
    · subst hm; simp
    · simp [hm, Ne.symm hm]
  | succ j => simp [getOb]
structure Fr (may : Nat → Prop) (w : World) (M : Nat → Nat → Prop) (w' : World) (M' : Nat → Nat → Prop) : Prop where
  os : w'.os = w.os
  tape : w'.tape = w.tape
  output : w'.output = w.output
  size : w.heap.size ≤ w'.heap.size
  heap : ∀ b, ¬ may b → w'.heap[b]? = w.heap[b]?
  sub : ∀ b o, M b o → M' b o
  cell : ∀ b o, M b o → w'.cell? ⟨b, o, none⟩ = w.cell? ⟨b, o, none⟩
  new : ∀ b o, ¬ may b → M' b o → M b o
theorem Fr.refl (may : Nat → Prop) (w : World) (M : Nat → Nat → Prop) : Fr may w M w M := ⟨rfl, rfl, rfl, Nat.le_refl _, fun _ _ => rfl, fun _ _ h => h, fun _ _ _ => rfl, fun _ _ _ h => h⟩
theorem Fr.trans {may : Nat → Prop} {w w1 w2 : World} {M M1 M2 : Nat → Nat → Prop} (h : Fr may w M w1 M1) (k : Fr may w1 M1 w2 M2) : Fr may w M w2 M2 :=
  ⟨k.os.trans h.os, k.tape.trans h.tape, k.output.trans h.output, Nat.le_trans h.size k.size, fun b hb => (k.heap b hb).trans (h.heap b hb), fun b o hm => k.sub b o (h.sub b o hm),
    fun b o hm => (k.cell b o (h.sub b o hm)).trans (h.cell b o hm), fun b o hb hm => h.new b o hb (k.new b o hb hm)⟩
structure Kp (lv : Nat) (S : List Store) (g : Gh) (S' : List Store) (g' : Gh) : Prop where
  box : ∀ i k cs, lv ≤ i ∨ 500000 ≤ k → getOb S i k = some (.box cs) → (∃ cs', getOb S' i k = some (.box cs')) ∧ g'.B i k = g.B i k
  arr : ∀ i k fz e xs, lv ≤ i ∨ 500000 ≤ k → getOb S i k = some (.arr fz e xs) → ∃ fz' xs', getOb S' i k = some (.arr fz' e xs') ∧ xs.length ≤ xs'.length ∧
    (xs'.length = xs.length → g'.B i k = g.B i k ∧ (fz' = false → fz = false ∧ g'.C i k = g.C i k))
structure Kp0 (lv : Nat) (S : List Store) (g : Gh) (S' : List Store) (g' : Gh) : Prop where
  box : ∀ i k cs, lv ≤ i → getOb S i k = some (.box cs) → (∃ cs', getOb S' i k = some (.box cs')) ∧ g'.B i k = g.B i k
  arr : ∀ i k fz e xs, lv ≤ i → getOb S i k = some (.arr fz e xs) → ∃ fz' xs', getOb S' i k = some (.arr fz' e xs') ∧ xs.length ≤ xs'.length ∧
    (xs'.length = xs.length → g'.B i k = g.B i k ∧ (fz' = false → fz = false ∧ g'.C i k = g.C i k))
theorem Kp.to0 {lv : Nat} {S S' : List Store} {g g' : Gh} (h : Kp lv S g S' g') : Kp0 lv S g S' g' := ⟨fun i k cs hi => h.box i k cs (.inl hi), fun i k fz e xs hi => h.arr i k fz e xs (.inl hi)⟩
theorem Kp.refl (lv : Nat) (S : List Store) (g : Gh) : Kp lv S g S g :=
  ⟨fun i k cs _ h => ⟨⟨cs, h⟩, rfl⟩, fun i k fz e xs _ h => ⟨fz, xs, h, Nat.le_refl _, fun _ => ⟨rfl, fun h => ⟨h, rfl⟩⟩⟩⟩
theorem Kp.trans {lv : Nat} {S S1 S2 : List Store} {g g1 g2 : Gh} (h : Kp lv S g S1 g1) (k : Kp lv S1 g1 S2 g2) : Kp lv S g S2 g2 := by
  refine ⟨fun i n cs hi hb => ?_, fun i n fz e xs hi ha => ?_⟩
  · obtain ⟨⟨cs1, h1⟩, e1⟩ := h.box i n cs hi hb
    obtain ⟨h2, e2⟩ := k.box i n cs1 hi h1
    exact ⟨h2, e2.trans e1⟩
  · obtain ⟨fz1, xs1, h1, l1, q1⟩ := h.arr i n fz e xs hi ha
    obtain ⟨fz2, xs2, h2, l2, q2⟩ := k.arr i n fz1 e xs1 hi h1
    refine ⟨fz2, xs2, h2, by omega, fun he => ?_⟩
    obtain ⟨b1, c1⟩ := q1 (by omega)
    obtain ⟨b2, c2⟩ := q2 (by omega)
    refine ⟨b2.trans b1, fun hf => ?_⟩
    obtain ⟨f1, d2⟩ := c2 hf
    obtain ⟨f0, d1⟩ := c1 f1
    exact ⟨f0, d2.trans d1⟩
theorem Kp.mono {lv lv' : Nat} {S S' : List Store} {g g' : Gh} (h : Kp lv S g S' g') (hl : lv ≤ lv') : Kp lv' S g S' g' :=
  ⟨fun i k cs hi => h.box i k cs (by omega), fun i k fz e xs hi => h.arr i k fz e xs (by omega)⟩
def AV.from (lv : Nat) : AV → Prop
  | .arr i _ _ _ _ _ => lv ≤ i
  | .ref i _ _ => lv ≤ i
  | .ear i _ _ _ _ _ => lv ≤ i
  | _ => True
theorem AV.from_shift (c : AV) (n : Nat) : (c.shift n).from n := by cases c <;> simp [AV.shift, AV.from]
theorem AV.from_zero (c : AV) : c.from 0 := by cases c <;> simp [AV.from]
section
variable {P : Program} {w w' : World} {g g' : Gh} {S S' : List Store}
theorem CRep.keep0 {lv : Nat} (hs : ∀ b o, g.M b o → g'.M b o) (hc : ∀ b o, g.M b o → w'.cell? ⟨b, o, none⟩ = w.cell? ⟨b, o, none⟩) (hk : Kp0 lv S g S' g') {a : AV} {v : Value} (ha : a.from lv) (h : CRep P w g S a v) : CRep P w' g' S' a v := by
  cases a with
  | arr i k e lo n tot =>
    obtain ⟨fz, xs, hg, ht, hv, h1⟩ := h
    obtain ⟨fz', xs', hg', hl, hq⟩ := hk.arr i k fz e xs ha hg
    refine ⟨fz', xs', hg', by omega, fun he => ?_, h1⟩
    obtain ⟨hb, hf⟩ := hq (by omega)
    obtain ⟨hln, A, c, rfl, hnc, hcm, hA, hC⟩ := hv (by omega)
    refine ⟨hln, A, c, rfl, hnc, hcm, fun h => by rw [hb]; exact hA h, fun hff => ?_⟩
    obtain ⟨f0, d⟩ := hf hff
    rw [d]
    exact hC f0
  | ref i k off =>
    obtain ⟨⟨cs, hg⟩, hv⟩ := h
    obtain ⟨hb, he⟩ := hk.box i k cs ha hg
    exact ⟨hb, by rw [he]; exact hv⟩
  | efz cs off =>
    obtain ⟨b, o, vs, hv, hl, hr, hval, hcell⟩ := h
    exact ⟨b, o, vs, hv, hl, fun j c u h1 h2 => (hr j c u h1 h2).mono hs hc, hval, fun j u hu => ⟨(hc _ _ (hcell j u hu).2).trans (hcell j u hu).1, hs _ _ (hcell j u hu).2⟩⟩
  | ear i k e tot j off =>
    obtain ⟨fz, xs, hg, ht, hv⟩ := h
    obtain ⟨fz', xs', hg', hl, hq⟩ := hk.arr i k fz e xs ha hg
    refine ⟨fz', xs', hg', by omega, fun he => ?_⟩
    obtain ⟨hb, hf⟩ := hq (by omega)
    rw [hb]
    exact hv (by omega)
  | und => exact h
  | dead => trivial
  | agg => exact h.elim
  | tup => exact h.elim
  | own => exact h.elim
  | obj => exact h.elim
  | x => exact Rep.mono hs hc h
  | str => exact Rep.mono hs hc h
  | nils => exact Rep.mono hs hc h
  | cap0 => exact Rep.mono hs hc h
  | sl => exact Rep.mono hs hc h
theorem CRep.keep {lv : Nat} (hs : ∀ b o, g.M b o → g'.M b o) (hc : ∀ b o, g.M b o → w'.cell? ⟨b, o, none⟩ = w.cell? ⟨b, o, none⟩) (hk : Kp lv S g S' g') {a : AV} {v : Value} (ha : a.from lv) (h : CRep P w g S a v) : CRep P w' g' S' a v := h.keep0 hs hc hk.to0 ha
theorem HRep1.keep (hs : ∀ b o, g.M b o → g'.M b o) (hc : ∀ b o, g.M b o → w'.cell? ⟨b, o, none⟩ = w.cell? ⟨b, o, none⟩) (hk : Kp 0 S g S' g') {a : AV} {v : Value} (h : HRep1 P w g S a v) : HRep1 P w' g' S' a v := by
  cases a with
  | agg cs =>
    obtain ⟨vs, hv, hl, hr⟩ := h
    exact ⟨vs, hv, hl, fun i c u h1 h2 => ⟨(hr i c u h1 h2).1.keep hs hc hk c.from_zero, (hr i c u h1 h2).2⟩⟩
  | _ =>
    unfold HRep1 at h ⊢
    exact CRep.keep hs hc hk (AV.from_zero _) h
theorem HRep.keep (hs : ∀ b o, g.M b o → g'.M b o) (hc : ∀ b o, g.M b o → w'.cell? ⟨b, o, none⟩ = w.cell? ⟨b, o, none⟩) (hk : Kp 0 S g S' g') {a : AV} {v : Value} (h : HRep P w g S a v) : HRep P w' g' S' a v := by
  cases a with
  | tup as =>
    obtain ⟨vs, hv, hl, hr⟩ := h
    exact ⟨vs, hv, hl, fun i c u h1 h2 => (hr i c u h1 h2).keep hs hc hk⟩
  | _ =>
    unfold HRep at h ⊢
    exact HRep1.keep hs hc hk h
end
structure Sim (P : Program) (may : Nat → Prop) (s : St) (a : Act) (w : World) (g : Gh) : Prop where
  inv : SInv P w g may s.stores
  len : a.tmps.size = s.slots.length
  slots : ∀ (t : Nat) (x : AV), s.slots[t]? = some x → HRep P w g s.stores x (a.tmps.getD t undef)
  defers : a.defers = []
  ne : s.stores ≠ []
section
variable {P : Program} {may : Nat → Prop} {s : St} {a : Act} {w : World} {g : Gh}
theorem Sim.get (h : Sim P may s a w g) (t : Nat) : HRep P w g s.stores (s.get t) (a.tmps.getD t undef) := by
  unfold St.get
  rw [List.getD_eq_getElem?_getD]
  cases hx : s.slots[t]? with
  | none => trivial
  | some x => exact h.slots t x hx
theorem put_tmps (a : Act) (d : Nat) (v : Value) (t : Nat) : (a.put (some d) v).tmps.getD t undef = if t = d ∧ d < a.tmps.size then v else a.tmps.getD t undef := by
  simp only [Act.put, Array.getD_eq_getD_getElem?, Array.getElem?_setIfInBounds]
  by_cases h : d = t
  · subst h
    by_cases hd : d < a.tmps.size
    · simp [hd]
    · simp [hd]
  · simp [h, Ne.symm h]
theorem Sim.put (h : Sim P may s a w g) {x : AV} {v : Value} (hx : HRep P w g s.stores x v) (d : Option Nat) : Sim P may (s.put d x) (a.put d v) w g := by
  cases d with
  | none => exact h
  | some d =>
    refine ⟨h.inv, ?_, fun t y hy => ?_, h.defers, h.ne⟩
    · simp [St.put, Act.put, h.len]
    · simp only [St.put, List.getElem?_set] at hy
      rw [put_tmps]
      by_cases htd : d = t
      · subst htd
        by_cases hd : d < s.slots.length
        · simp [hd] at hy; subst hy
          rw [if_pos ⟨rfl, by rw [h.len]; exact hd⟩]; exact hx
        · simp [hd] at hy
      · rw [if_neg htd] at hy
        rw [if_neg (fun e => htd e.1.symm)]
        exact h.slots t y hy
theorem Sim.keep (h : Sim P may s a w g) {w' : World} {g' : Gh} {S' : List Store} (hs : ∀ b o, g.M b o → g'.M b o) (hc : ∀ b o, g.M b o → w'.cell? ⟨b, o, none⟩ = w.cell? ⟨b, o, none⟩) (hk : Kp 0 s.stores g S' g')
    (hi : SInv P w' g' may S') (hne : S' ≠ []) : Sim P may { s with stores := S' } a w' g' :=
  ⟨hi, h.len, fun t x hx => (h.slots t x hx).keep hs hc hk, h.defers, hne⟩
theorem setOb_ne {S : List Store} (h : S ≠ []) (i k : Nat) (o : Ob) : setOb S i k o ≠ [] := by
  cases S with
  | nil => exact absurd rfl h
  | cons t r => cases i <;> simp [setOb]
end
section
variable {P : Program} {w : World} {g : Gh} {S : List Store}
theorem constCell_rep {v : Value} {x : AV} (h : constCell v = some x) (M : Nat → Nat → Prop) : Rep P w M x v ∧ x.isVal = true := by
  unfold constCell at h
  split at h <;> simp at h <;> subst h <;> first
    | exact ⟨.x rfl, rfl⟩
    | exact ⟨.nils, rfl⟩
    | skip
  rename_i s
  refine ⟨?_, rfl⟩
  have : (Rep P w M (.str s.data.toList) (.string ⟨s.data.toList.toArray⟩)) := .str
  simpa using this
theorem CRep.of_rep {x : AV} {v : Value} (h : Rep P w g.M x v) (hx : x.isVal = true) : CRep P w g S x v := by
  cases x <;> first | exact h | simp [AV.isVal] at hx
theorem CRep.rep {x : AV} {v : Value} (h : CRep P w g S x v) (hx : x.isVal = true) : Rep P w g.M x v := by
  cases x <;> first | exact h | simp [AV.isVal] at hx
theorem HRep.of_cell {x : AV} {v : Value} (h : CRep P w g S x v) : HRep P w g S x v := by
  cases x <;> first | exact h | exact h.elim
theorem HRep1.of_cell {x : AV} {v : Value} (h : CRep P w g S x v) : HRep1 P w g S x v := by
  cases x <;> first | exact h | exact h.elim
theorem constCells_rep {vs : List Value} {l : List AV} (h : constCells vs = some l) (M : Nat → Nat → Prop) :
    vs.length = l.length ∧ ∀ (i : Nat) (c : AV) (u : Value), l[i]? = some c → vs[i]? = some u → Rep P w M c u ∧ c.isVal = true := by
  induction vs generalizing l with
  | nil => simp [constCells] at h; subst h; simp
  | cons v r ih =>
    simp only [constCells] at h
    split at h
    · rename_i a b ha hb
      simp at h; subst h
      obtain ⟨hl, hr⟩ := ih hb
      refine ⟨by simp [hl], fun i c u hc hu => ?_⟩
      cases i with
      | zero => simp at hc hu; subst hc; subst hu; exact constCell_rep ha M
      | succ i => simp at hc hu; exact hr i c u hc hu
    · simp at h
theorem constAV_rep {v : Value} {x : AV} (h : constAV v = some x) (M : Nat → Nat → Prop) : Rep P w M x v := by
  unfold constAV at h
  split at h
  · rename_i cs
    obtain ⟨l, hl, rfl⟩ := Option.map_eq_some_iff.1 h
    obtain ⟨h1, h2⟩ := constCells_rep (P := P) (w := w) hl M
    have : Rep P w M (.agg l) (.agg cs.toList.toArray) := .agg h1 (fun i c u hc hu => (h2 i c u hc hu).1) fun c hc => by
      obtain ⟨i, hi, rfl⟩ := List.getElem_of_mem hc
      exact (h2 i l[i] (cs.toList[i]'(by omega)) (by simp [hi]) (by simp)).2
    simpa using this
  · exact (constCell_rep h M).1
theorem HRep.of_rep {x : AV} {v : Value} (h : Rep P w g.M x v) : HRep P w g S x v := by
  cases h with
  | x h => exact Rep.x h
  | str => exact Rep.str
  | nils => exact Rep.nils
  | cap0 => exact Rep.cap0
  | sl h1 h2 h3 h4 h5 h6 h7 h8 => exact Rep.sl h1 h2 h3 h4 h5 h6 h7 h8
  | agg hl hr hv => exact ⟨_, rfl, hl, fun i c u hc hu => ⟨CRep.of_rep (hr i c u hc hu) (hv c (List.mem_of_getElem? hc)), (hr i c u hc hu).oneCell (hv c (List.mem_of_getElem? hc))⟩⟩
end
theorem Sim.evalO {P : Program} {may : Nat → Prop} {s : St} {a : Act} {w : World} {g : Gh} (h : Sim P may s a w g) {o : Operand} {x : AV} (hx : AbsM.evalO s o = some x) : HRep P w g s.stores x (a.eval o) := by
  cases o with
  | tmp t => simp only [AbsM.evalO, Option.some.injEq] at hx; subst hx; exact h.get t
  | const v => exact HRep.of_rep (constAV_rep hx g.M)
  | global => simp [AbsM.evalO] at hx
  | func => simp only [AbsM.evalO, Option.some.injEq] at hx; subst hx; exact HRep.of_rep (.x (by simp [plain]))
end Go.AbsM
end

section
namespace Go.AbsM
section
variable {P : Program} {w : World} {g : Gh} {S : List Store}
theorem HRep.inv_x {u v : Value} (h : HRep P w g S (.x u) v) : v = u ∧ plain u = true := by
  have h' : Rep P w g.M (.x u) v := h
  cases h' with
  | x hp => exact ⟨rfl, hp⟩
theorem HRep.inv_str {l : List UInt8} {v : Value} (h : HRep P w g S (.str l) v) : v = .string ⟨l.toArray⟩ := by
  have h' : Rep P w g.M (.str l) v := h
  cases h'
  rfl
theorem HRep.inv_nils {v : Value} (h : HRep P w g S .nils v) : v = .slice none 0 0 := by
  have h' : Rep P w g.M .nils v := h
  cases h'
  rfl
theorem HRep.inv_cap0 {v : Value} (h : HRep P w g S .cap0 v) : ∃ A, v = .slice A 0 0 := by
  have h' : Rep P w g.M .cap0 v := h
  cases h'
  exact ⟨_, rfl⟩
theorem HRep.mk_x {u : Value} (h : plain u = true) : HRep P w g S (.x u) u := HRep.of_rep (.x h)
theorem HRep.mk_int (k : IntKind) (n : Int) : HRep P w g S (.int k n) (.int k n) := HRep.of_rep (.x rfl)
theorem HRep.mk_bool (b : Bool) : HRep P w g S (.bool b) (.bool b) := HRep.of_rep (.x rfl)
theorem HRep.mk_str (l : List UInt8) : HRep P w g S (.str l) (.string ⟨l.toArray⟩) := HRep.of_rep .str
theorem intBin_sound {op : BinOp} {k : IntKind} {a b : Int} {r : AV} (t : TypeId) (hs : op ≠ .shl ∧ op ≠ .shr) (h : intBin op k a b = some r) : ∃ v, (binOp op t (.int k a) (.int k b)).run P w = .ok v w ∧ HRep P w g S r v := by
  cases op <;> simp only [intBin] at h <;> try (simp only [Option.some.injEq] at h; subst h; exact ⟨_, by simp [binOp, Op.intArith, Op.intBits, Op.intCmp], HRep.mk_x rfl⟩)
  · split at h
    · cases h
    · rename_i hb
      simp only [Option.some.injEq] at h; subst h
      exact ⟨_, by simp [binOp, Op.intDiv, hb], HRep.mk_x rfl⟩
  · split at h
    · cases h
    · rename_i hb
      simp only [Option.some.injEq] at h; subst h
      exact ⟨_, by simp [binOp, Op.intDiv, hb], HRep.mk_x rfl⟩
  all_goals simp at h
theorem shiftA_sound {op : BinOp} {k k' : IntKind} {a b : Int} {r : AV} (t : TypeId) (hs : op = .shl ∨ op = .shr) (h : shiftA op k a b = some r) : ∃ v, (binOp op t (.int k a) (.int k' b)).run P w = .ok v w ∧ HRep P w g S r v := by
  unfold shiftA at h
  split at h
  · cases h
  · rename_i hb
    rcases hs with rfl | rfl <;> simp only [Option.some.injEq] at h <;> subst h <;> exact ⟨_, by simp [binOp, Op.shift, hb], HRep.mk_x rfl⟩
theorem floatArith_run {op : BinOp} {k : FloatKind} {a b r : Nat} (h : floatArithA op k a b = some r) : (Op.floatArith op k a b).run P w = .ok (.float k r) w := by
  cases op <;> simp only [floatArithA] at h <;> first | (simp [Op.floatArith, h]; done) | (cases h; done)
theorem floatBin_sound {op : BinOp} {k : FloatKind} {a b : Nat} {r : AV} (t : TypeId) (h : floatBin op k a b = some r) : ∃ v, (binOp op t (.float k a) (.float k b)).run P w = .ok v w ∧ HRep P w g S r v := by
  cases op <;> simp only [floatBin] at h <;> try (simp only [Option.some.injEq] at h; subst h; exact ⟨_, by simp [binOp, Op.floatCmp], HRep.mk_x rfl⟩)
  all_goals first
    | (obtain ⟨r', hr, rfl⟩ := Option.map_eq_some_iff.1 h
       exact ⟨_, by simp only [binOp]; simp [floatArith_run hr], HRep.mk_x rfl⟩)
    | (cases h; done)
theorem complex_arith {op : BinOp} {k : FloatKind} {a b r : Nat} (h : floatArithA op k a b = some r) : (Op.Complex.arith op k a b).run P w = .ok r w := by
  simp [Op.Complex.arith, floatArith_run h]
theorem complex_cmp (k : FloatKind) (a b : Nat) : (Op.Complex.cmp .eql k a b).run P w = .ok (k.format.order a b == some .eq) w := by
  simp [Op.Complex.cmp, Op.floatCmp, asBool]
theorem complexBin_sound {op : BinOp} {k : FloatKind} {a b c d : Nat} {r : AV} (t : TypeId) (h : complexBin op k a b c d = some r) : ∃ v, (binOp op t (.complex k a b) (.complex k c d)).run P w = .ok v w ∧ HRep P w g S r v := by
  cases op <;> simp only [complexBin] at h <;> try (cases h; done)
  · split at h
    · rename_i x y hx hy
      simp only [Option.some.injEq] at h; subst h
      exact ⟨_, by simp [binOp, Op.complexOp, complex_arith hx, complex_arith hy], HRep.mk_x rfl⟩
    · cases h
  · split at h
    · rename_i x y hx hy
      simp only [Option.some.injEq] at h; subst h
      exact ⟨_, by simp [binOp, Op.complexOp, complex_arith hx, complex_arith hy], HRep.mk_x rfl⟩
    · cases h
  · split at h
    · rename_i hk
      subst hk
      split at h
      · rename_i ac bd ad bc h1 h2 h3 h4
        split at h
        · rename_i x y hx hy
          simp only [Option.some.injEq] at h; subst h
          refine ⟨.complex .f64 x y, ?_, HRep.mk_x rfl⟩
          simp [binOp, Op.complexOp, Op.Complex.conv, Op.Complex.product, Op.Complex.mul, Op.Complex.sub, Op.Complex.add, complex_arith h1, complex_arith h2, complex_arith h3, complex_arith h4, complex_arith hx, complex_arith hy]
        · cases h
      · cases h
    · cases h
  · simp only [Option.some.injEq] at h; subst h
    exact ⟨_, by simp [binOp, Op.complexOp, complex_cmp], HRep.mk_x rfl⟩
  · simp only [Option.some.injEq] at h; subst h
    exact ⟨_, by simp [binOp, Op.complexOp, complex_cmp], HRep.mk_x rfl⟩
theorem strBin_sound {op : BinOp} {a b : List UInt8} {r : AV} (t : TypeId) (h : strBin op a b = some r) : ∃ v, (binOp op t (.string ⟨a.toArray⟩) (.string ⟨b.toArray⟩)).run P w = .ok v w ∧ HRep P w g S r v := by
  cases op <;> simp only [strBin] at h <;> try (cases h; done)
  · split at h
    · rename_i hl
      simp only [Option.some.injEq] at h; subst h
      refine ⟨.string ⟨(a ++ b).toArray⟩, ?_, HRep.mk_str _⟩
      have hs : ¬ (IntKind.i64.max < (((⟨a.toArray⟩ : ByteArray).size : Int) + ((⟨b.toArray⟩ : ByteArray).size : Int))) := by
        have h1 : (⟨a.toArray⟩ : ByteArray).size = a.length := by simp [ByteArray.size]
        have h2 : (⟨b.toArray⟩ : ByteArray).size = b.length := by simp [ByteArray.size]
        have h3 : IntKind.i64.max = 9223372036854775807 := by decide
        rw [h1, h2, h3]; omega
      have hs' : (((⟨a.toArray⟩ : ByteArray).size : Int) + ((⟨b.toArray⟩ : ByteArray).size : Int)) ≤ 9223372036854775807 := by
        have h3 : IntKind.i64.max = 9223372036854775807 := by decide
        rw [h3] at hs; omega
      have he : (⟨a.toArray⟩ : ByteArray) ++ ⟨b.toArray⟩ = ⟨(a ++ b).toArray⟩ := by
        apply ByteArray.ext
        simp
      simp [binOp, Op.stringOp, hs, he]
      first | done | exact hs'
    · cases h
  all_goals
    simp only [Option.some.injEq] at h; subst h
    exact ⟨_, by simp [binOp, Op.stringOp], HRep.mk_x rfl⟩
theorem unA_sound {op : UnOp} {a r : AV} {v : Value} (hv : HRep P w g S a v) (h : unA op a = some r) : ∃ u, (Op.unary op v).run P w = .ok u w ∧ HRep P w g S r u := by
  unfold unA at h
  split at h
  all_goals first
    | (cases h; done)
    | (obtain ⟨rfl, _⟩ := hv.inv_x
       split at h <;> first
         | (simp only [Option.some.injEq] at h; subst h; exact ⟨_, by simp [Op.unary, Op.intArith, Op.intBits], HRep.mk_x rfl⟩)
         | (cases h; done))
theorem sizeT_run {t : TypeId} {n : Nat} (h : sizeT P t = some n) : (sizeOf t).run P w = .ok n w := by
  obtain ⟨i, hi, rfl⟩ := Option.map_eq_some_iff.1 h
  simp [sizeOf, typeInfo, hi]
theorem sizeT_cells {t : TypeId} {n : Nat} (h : sizeT P t = some n) : P.cellsOf t = n := by
  unfold sizeT at h
  simp [Program.cellsOf, h]
theorem aggT_run {t : TypeId} {b : Bool} (h : aggT P t = some b) : (isAgg t).run P w = .ok b w := by
  unfold aggT at h
  split at h <;> first
    | (cases h; done)
    | (rename_i hu
       simp only [Option.some.injEq] at h; subst h
       simp [isAgg, run_underlying hu])
    | (rename_i d h1 h2 hu
       simp only [Option.some.injEq] at h; subst h
       cases d <;> simp [isAgg, run_underlying hu] <;> first
         | exact absurd rfl (h1 _)
         | exact absurd rfl (h2 _ _))
def CellsRep (P : Program) (w : World) (g : Gh) (S : List Store) (cs : List AV) (vs : List Value) : Prop :=
  vs.length = cs.length ∧ ∀ (i : Nat) (c : AV) (u : Value), cs[i]? = some c → vs[i]? = some u → CRep P w g S c u ∧ u.oneCell' = true
theorem HRep.inv_agg {cs : List AV} {v : Value} (h : HRep P w g S (.agg cs) v) : ∃ vs : List Value, v = .agg vs.toArray ∧ CellsRep P w g S cs vs := by
  obtain ⟨vs, hv, hl, hr⟩ := h
  exact ⟨vs, hv, hl, hr⟩
theorem HRep.mk_agg {cs : List AV} {vs : List Value} (h : CellsRep P w g S cs vs) : HRep P w g S (.agg cs) (.agg vs.toArray) := ⟨vs, rfl, h.1, h.2⟩
theorem CellsRep.drop {cs : List AV} {vs : List Value} (h : CellsRep P w g S cs vs) (n : Nat) : CellsRep P w g S (cs.drop n) (vs.drop n) :=
  ⟨by simp [h.1], fun i c u hc hu => h.2 (n + i) c u (by simpa using hc) (by simpa using hu)⟩
theorem CellsRep.take {cs : List AV} {vs : List Value} (h : CellsRep P w g S cs vs) (n : Nat) : CellsRep P w g S (cs.take n) (vs.take n) :=
  ⟨by simp [h.1], fun i c u hc hu => by
    rw [List.getElem?_take] at hc hu
    split at hc
    · rename_i hi; rw [if_pos hi] at hu; exact h.2 i c u hc hu
    · cases hc⟩
theorem CellsRep.append {cs ds : List AV} {vs us : List Value} (h : CellsRep P w g S cs vs) (k : CellsRep P w g S ds us) : CellsRep P w g S (cs ++ ds) (vs ++ us) := by
  refine ⟨by simp [h.1, k.1], fun i c u hc hu => ?_⟩
  by_cases hi : i < cs.length
  · rw [List.getElem?_append_left hi] at hc
    rw [List.getElem?_append_left (by rw [h.1]; exact hi)] at hu
    exact h.2 i c u hc hu
  · rw [List.getElem?_append_right (by omega)] at hc
    rw [List.getElem?_append_right (by rw [h.1]; omega), h.1] at hu
    exact k.2 _ c u hc hu
theorem partA_sound {t : TypeId} {cs : List AV} {vs : List Value} {off : Nat} {r : AV} (hc : CellsRep P w g S cs vs) (h : partA P t cs off = some r) : ∃ v, (part t vs.toArray off).run P w = .ok v w ∧ HRep P w g S r v := by
  unfold partA at h
  split at h
  · rename_i n hn ha
    split at h
    · rename_i hl
      simp only [Option.some.injEq] at h; subst h
      refine ⟨.agg ((vs.drop off).take n).toArray, ?_, HRep.mk_agg ((hc.drop off).take n)⟩
      simp [part, aggT_run ha, sizeT_run hn]
    · cases h
  · rename_i n hn ha
    have hlt : off < cs.length := by
      rcases Nat.lt_or_ge off cs.length with h1 | h1
      · exact h1
      · rw [List.getElem?_eq_none h1] at h; cases h
    have hlv : off < vs.length := by rw [hc.1]; exact hlt
    refine ⟨vs[off], ?_, HRep.of_cell (hc.2 off r vs[off] h (List.getElem?_eq_getElem hlv)).1⟩
    simp [part, aggT_run ha, hlv]
  · cases h
theorem eqFields_sound {d : Nat} {eq : TypeId → AV → AV → Option Bool} (ih : ∀ (t : TypeId) (x y : AV) (vx vy : Value) (b : Bool), HRep P w g S x vx → HRep P w g S y vy → eq t x y = some b → (Op.equalIn d t vx vy).run P w = .ok b w) :
    ∀ (fs : List Field) (xs ys : List AV) (us vs : List Value) (b : Bool), CellsRep P w g S xs us → CellsRep P w g S ys vs → eqFs P eq fs xs ys = some b → (Op.eqFields d us.toArray vs.toArray fs).run P w = .ok b w
  | [], xs, ys, us, vs, b, hx, hy, h => by simp [eqFs] at h; subst h; simp [Op.eqFields]
  | f :: r, xs, ys, us, vs, b, hx, hy, h => by
    rw [eqFs] at h
    by_cases hn : f.name = "_"
    · rw [if_pos hn] at h
      have := eqFields_sound ih r xs ys us vs b hx hy h
      simpa [Op.eqFields, hn] using this
    · rw [if_neg hn] at h
      split at h
      · rename_i a c ha hc
        obtain ⟨va, hra, hva⟩ := partA_sound hx ha
        obtain ⟨vc, hrc, hvc⟩ := partA_sound hy hc
        split at h
        · rename_i he
          have hq := ih f.type a c va vc true hva hvc he
          have := eqFields_sound ih r xs ys us vs b hx hy h
          simp only [Op.eqFields, ne_eq, hn, not_false_eq_true, if_true, Sem.run_bind, hra, hrc, hq, Result.andThen_ok]
          simpa using this
        · rename_i he
          have hq := ih f.type a c va vc false hva hvc he
          simp only [Option.some.injEq] at h; subst h
          simp [Op.eqFields, hn, hra, hrc, hq]
        · cases h
      · cases h
theorem eqIn_sound : ∀ (d : Nat) (t : TypeId) (x y : AV) (vx vy : Value) (b : Bool), HRep P w g S x vx → HRep P w g S y vy → eqIn P d t x y = some b → (Op.equalIn d t vx vy).run P w = .ok b w := by
  intro d
  induction d with
  | zero => intro t x y vx vy b _ _ h; simp [eqIn] at h
  | succ d ih =>
    intro t x y vx vy b hx hy h
    unfold eqIn at h
    split at h
    · rename_i a c hu
      obtain ⟨rfl, _⟩ := hx.inv_x
      obtain ⟨rfl, _⟩ := hy.inv_x
      simp only [Option.some.injEq] at h; subst h
      exact run_equalIn_bool w d t a c hu
    · rename_i k0 k a k' c hu
      obtain ⟨rfl, _⟩ := hx.inv_x
      obtain ⟨rfl, _⟩ := hy.inv_x
      split at h
      · rename_i hk
        subst hk
        simp only [Option.some.injEq] at h; subst h
        exact run_equalIn_int w d t k k0 a c hu
      · cases h
    · rename_i k0 k a k' c hu
      obtain ⟨rfl, _⟩ := hx.inv_x
      obtain ⟨rfl, _⟩ := hy.inv_x
      split at h
      · rename_i hk
        subst hk
        simp only [Option.some.injEq] at h; subst h
        simp [Op.equalIn, run_underlying hu]
      · cases h
    · rename_i k0 k a b' k' a' b'' hu
      obtain ⟨rfl, _⟩ := hx.inv_x
      obtain ⟨rfl, _⟩ := hy.inv_x
      split at h
      · rename_i hk
        subst hk
        simp only [Option.some.injEq] at h; subst h
        simp [Op.equalIn, run_underlying hu]
      · cases h
    · rename_i a c hu
      have e1 := hx.inv_str
      have e2 := hy.inv_str
      subst e1; subst e2
      simp only [Option.some.injEq] at h; subst h
      rw [run_equalIn_string w d t _ _ hu]
      simp
    · rename_i fields xs ys hu
      obtain ⟨us, rfl, hus⟩ := hx.inv_agg
      obtain ⟨vs, rfl, hvs⟩ := hy.inv_agg
      split at h
      · cases h
      · rename_i hst
        have hf : P.fieldsOf t = fields := by simp [Program.fieldsOf, hu]
        rw [run_equalIn_struct w d t _ _ (by rw [hf]; exact hu) (by simpa using hst), hf]
        exact eqFields_sound ih fields.toList xs ys us vs b hus hvs h
    · cases h
theorem HRep.inv_sl {e : TypeId} {xs : List AV} {v : Value} (h : HRep P w g S (.sl e xs) v) : ∃ A c us, v = .slice A xs.length c ∧ xs.length ≤ c ∧ c ≤ maxLen ∧ 0 < P.cellsOf e ∧ RepL P w g.M e xs us ∧
    (xs ≠ [] → ∃ b o, A = some ⟨b, o, none⟩ ∧ ∀ (j : Nat) (cv : Value), (flat us)[j]? = some cv → w.cell? ⟨b, o + j, none⟩ = some cv ∧ g.M b (o + j)) := by
  have h' : Rep P w g.M (.sl e xs) v := h
  cases h' with
  | sl h1 h2 h3 h4 h5 h6 h7 h8 =>
    subst h1
    exact ⟨_, _, _, rfl, h3, h4, h5, ⟨h2, h6, h7⟩, h8⟩
theorem HRep.inv_arr {i k : Nat} {e : TypeId} {lo n tot : Nat} {v : Value} (h : HRep P w g S (.arr i k e lo n tot) v) : ∃ fz xs, getOb S i k = some (.arr fz e xs) ∧ tot ≤ xs.length ∧ (xs.length = tot → lo + n ≤ tot ∧ ∃ A c, v = .slice A n c ∧ n ≤ c ∧ c ≤ maxLen ∧
      (lo = 0 ∨ 0 < n → A = some ⟨g.B i k, lo * P.cellsOf e, none⟩) ∧ (fz = false → (lo + c) * P.cellsOf e ≤ g.C i k)) ∧ v.oneCell' = true := h
theorem HRep.inv_ref {i k off : Nat} {v : Value} (h : HRep P w g S (.ref i k off) v) : (∃ cs, getOb S i k = some (.box cs)) ∧ v = .pointer (some ⟨g.B i k, off, none⟩) := h
end
end Go.AbsM
end

section
namespace Go.AbsM
theorem flat_cons (u : Value) (us : List Value) : flat (u :: us) = u.cells.toList ++ flat us := by simp [flat]
theorem flat_append (us vs : List Value) : flat (us ++ vs) = flat us ++ flat vs := by simp [flat]
theorem flat_length {es : Nat} {us : List Value} (h : ∀ u, u ∈ us → u.cells.size = es) : (flat us).length = us.length * es := by
  induction us with
  | nil => simp [flat]
  | cons u r ih =>
    rw [flat_cons, List.length_append, ih (fun x hx => h x (by simp [hx]))]
    have := h u (by simp)
    simp [this, Nat.add_mul]; omega
theorem flat_drop {es : Nat} {us : List Value} (h : ∀ u, u ∈ us → u.cells.size = es) (n : Nat) : flat (us.drop n) = (flat us).drop (n * es) := by
  induction us generalizing n with
  | nil => simp [flat]
  | cons u r ih =>
    cases n with
    | zero => simp
    | succ n =>
      rw [List.drop_succ_cons, ih (fun x hx => h x (by simp [hx])), flat_cons]
      have hu : u.cells.toList.length = es := by simpa using h u (by simp)
      rw [show (n + 1) * es = u.cells.toList.length + n * es by rw [hu, Nat.add_mul]; omega, List.drop_append]
      simp
theorem flat_take {es : Nat} {us : List Value} (h : ∀ u, u ∈ us → u.cells.size = es) (n : Nat) : flat (us.take n) = (flat us).take (n * es) := by
  induction us generalizing n with
  | nil => simp [flat]
  | cons u r ih =>
    cases n with
    | zero => simp [flat]
    | succ n =>
      rw [List.take_succ_cons, flat_cons, ih (fun x hx => h x (by simp [hx])), flat_cons]
      have hu : u.cells.toList.length = es := by simpa using h u (by simp)
      have e1 : (n + 1) * es = u.cells.toList.length + n * es := by rw [hu, Nat.add_mul]; omega
      rw [e1, List.take_append]
      rw [List.take_of_length_le (Nat.le_add_right _ _)]
      simp
theorem flat_at {es : Nat} {us : List Value} (h : ∀ u, u ∈ us → u.cells.size = es) {n j : Nat} {u : Value} (hu : us[n]? = some u) (hj : j < es) : (flat us)[n * es + j]? = u.cells[j]? := by
  have h1 : (flat us)[n * es + j]? = ((flat us).drop (n * es))[j]? := by simp
  rw [h1, ← flat_drop h]
  have hlt : n < us.length := (List.getElem?_eq_some_iff.1 hu).1
  rw [List.drop_eq_getElem_cons hlt, flat_cons]
  have hg : us[n] = u := (List.getElem?_eq_some_iff.1 hu).2
  rw [hg]
  have hs : u.cells.toList.length = es := by simpa using h u (List.mem_of_getElem? hu)
  rw [List.getElem?_append_left (by omega)]
  simp
section
variable {P : Program} {w : World} {M : Nat → Nat → Prop} {e : TypeId}
theorem RepL.nil : RepL P w M e [] [] := ⟨rfl, fun i x u h => by simp at h, fun u h => by simp at h⟩
theorem RepL.drop {xs : List AV} {us : List Value} (h : RepL P w M e xs us) (n : Nat) : RepL P w M e (xs.drop n) (us.drop n) :=
  ⟨by simp [h.1], fun i x u hx hu => h.2.1 (n + i) x u (by simpa using hx) (by simpa using hu), fun u hu => h.2.2 u (List.mem_of_mem_drop hu)⟩
theorem RepL.take {xs : List AV} {us : List Value} (h : RepL P w M e xs us) (n : Nat) : RepL P w M e (xs.take n) (us.take n) :=
  ⟨by simp [h.1], (fun i x u hx hu => by
    rw [List.getElem?_take] at hx hu
    split at hx
    · rename_i hi; rw [if_pos hi] at hu; exact h.2.1 i x u hx hu
    · cases hx), fun u hu => h.2.2 u (List.mem_of_mem_take hu)⟩
theorem RepL.append {xs ys : List AV} {us vs : List Value} (h : RepL P w M e xs us) (k : RepL P w M e ys vs) : RepL P w M e (xs ++ ys) (us ++ vs) := by
  refine ⟨by simp [h.1, k.1], fun i x u hx hu => ?_, fun u hu => ?_⟩
  · by_cases hi : i < xs.length
    · rw [List.getElem?_append_left hi] at hx
      rw [List.getElem?_append_left (by rw [h.1]; exact hi)] at hu
      exact h.2.1 i x u hx hu
    · rw [List.getElem?_append_right (by omega)] at hx
      rw [List.getElem?_append_right (by rw [h.1]; omega), h.1] at hu
      exact k.2.1 _ x u hx hu
  · rcases List.mem_append.1 hu with hu | hu
    · exact h.2.2 u hu
    · exact k.2.2 u hu
theorem RepL.mono {w' : World} {M' : Nat → Nat → Prop} {xs : List AV} {us : List Value} (hM : ∀ b o, M b o → M' b o) (hc : ∀ b o, M b o → w'.cell? ⟨b, o, none⟩ = w.cell? ⟨b, o, none⟩) (h : RepL P w M e xs us) : RepL P w' M' e xs us :=
  ⟨h.1, fun i x u hx hu => (h.2.1 i x u hx hu).mono hM hc, h.2.2⟩
theorem RepL.len {xs : List AV} {us : List Value} (h : RepL P w M e xs us) : (flat us).length = xs.length * P.cellsOf e := by rw [flat_length h.2.2, h.1]
theorem Rep.cellsOne {a : AV} {v : Value} (h : Rep P w M a v) : ∀ c, c ∈ v.cells.toList → c.oneCell' = true := by
  cases h with
  | x h => intro c hc; cases v <;> simp_all [plain, Value.cells, Value.oneCell']
  | str => intro c hc; simp [Value.cells] at hc; subst hc; rfl
  | nils => intro c hc; simp [Value.cells] at hc; subst hc; rfl
  | cap0 => intro c hc; simp [Value.cells] at hc; subst hc; rfl
  | sl => intro c hc; simp [Value.cells] at hc; subst hc; rfl
  | agg hl hr hv =>
    rename_i cs vs
    intro c hc
    simp [Value.cells] at hc
    obtain ⟨i, hi, rfl⟩ := List.getElem_of_mem hc
    have hlt : i < cs.length := by omega
    exact (hr i cs[i] vs[i] (by simp [hlt]) (by simp [hi])).oneCell (hv cs[i] (List.getElem_mem hlt))
theorem RepL.ones {xs : List AV} {us : List Value} (h : RepL P w M e xs us) : ∀ c, c ∈ flat us → c.oneCell' = true := by
  intro c hc
  obtain ⟨u, hu, hcu⟩ := List.mem_flatMap.1 hc
  obtain ⟨i, hi, rfl⟩ := List.getElem_of_mem hu
  have hlt : i < xs.length := by rw [← h.1]; exact hi
  exact (h.2.1 i xs[i] us[i] (by simp [hlt]) (by simp [hi])).cellsOne c hcu
end
def Elems (P : Program) (w : World) (M : Nat → Nat → Prop) (e : TypeId) (xs : List AV) (v : Value) : Prop :=
  ∃ A c us, v = .slice A xs.length c ∧ xs.length ≤ c ∧ c ≤ maxLen ∧ RepL P w M e xs us ∧
    (xs ≠ [] → 0 < P.cellsOf e ∧ ∃ b o, A = some ⟨b, o, none⟩ ∧ ∀ (j : Nat) (cv : Value), (flat us)[j]? = some cv → w.cell? ⟨b, o + j, none⟩ = some cv)
section
variable {P : Program} {w : World} {g : Gh} {may : Nat → Prop}
theorem SInv.elems {s : St} (hi : SInv P w g may s.stores) {i k : Nat} {e : TypeId} {lo n tot : Nat} {v : Value} {xs : List AV} (hv : HRep P w g s.stores (.arr i k e lo n tot) v) (h : s.elems i k lo n tot = some xs) :
    xs.length = n ∧ Elems P w g.M e xs v := by
  obtain ⟨fz, ys, hg, ht, hq, _⟩ := hv.inv_arr
  simp only [St.elems, hg] at h
  split at h
  · rename_i hl
    simp only [Option.some.injEq] at h
    obtain ⟨hln, A, c, rfl, hnc, hcm, hA, hC⟩ := hq hl
    have hxl : xs.length = n := by subst h; simp; omega
    refine ⟨hxl, ?_⟩
    have fin : ∀ (us : List Value), 0 < P.cellsOf e → RepL P w g.M e ys us → (∀ (j : Nat) (cv : Value), (flat us)[j]? = some cv → w.cell? ⟨g.B i k, j, none⟩ = some cv) → Elems P w g.M e xs (.slice A n c) := by
      intro us he hr hcell
      subst h
      refine ⟨A, c, (us.drop lo).take n, by rw [hxl], by omega, hcm, (hr.drop lo).take n, fun hne => ⟨he, g.B i k, lo * P.cellsOf e, hA (.inr ?_), fun j cv hj => ?_⟩⟩
      · rcases Nat.eq_zero_or_pos n with h0 | h0
        · exact absurd (List.eq_nil_of_length_eq_zero (by rw [hxl]; exact h0)) hne
        · exact h0
      · rw [flat_take (fun u hu => hr.2.2 u (List.mem_of_mem_drop hu)), flat_drop hr.2.2, List.getElem?_take] at hj
        split at hj
        · rw [List.getElem?_drop] at hj
          exact hcell _ _ hj
        · cases hj
    cases fz with
    | true =>
      obtain ⟨he, us, hr, hcell⟩ := hi.fz i k e ys hg
      exact fin us he hr fun j cv hj => (hcell j cv hj).1
    | false =>
      obtain ⟨_, _, he, cur, us, cap, hh, _, _, _, _, hr, htake⟩ := hi.arr i k e ys hg
      refine fin us he hr fun j cv hj => ?_
      rw [← htake, List.getElem?_take] at hj
      split at hj
      · rw [cell_of_row w (g.B i k) j cur.toArray e (0, 0) hh]
        simpa using hj
      · cases hj
  · cases h
theorem HRep.elems_sl {S : List Store} {e : TypeId} {xs : List AV} {v : Value} (h : HRep P w g S (.sl e xs) v) : Elems P w g.M e xs v := by
  obtain ⟨A, c, us, rfl, h1, h2, h3, h4, h5⟩ := h.inv_sl
  refine ⟨A, c, us, rfl, h1, h2, h4, fun hne => ?_⟩
  obtain ⟨b, o, hA, hj⟩ := h5 hne
  exact ⟨h3, b, o, hA, fun j cv hcv => (hj j cv hcv).1⟩
theorem avs_getElem? (l : List UInt8) (i : Nat) : (avsOfBytes l)[i]? = (l[i]?).map fun b => AV.int .u8 b.toNat := by simp [avsOfBytes]
theorem SInv.src {s : St} (hi : SInv P w g may s.stores) {a : AV} {v : Value} {e : TypeId} {xs : List AV} (hv : HRep P w g s.stores a v) (h : s.src P e a = some xs) :
    ∃ us, RepL P w g.M e xs us ∧ (Builtin.lenOf v).run P w = .ok xs.length w ∧ ∀ n, n ≤ xs.length → ∀ w', (∀ b o cv, w.cell? ⟨b, o, none⟩ = some cv → w'.cell? ⟨b, o, none⟩ = some cv) → (Builtin.firstCells (P.cellsOf e) n v).run P w' = .ok (flat (us.take n)).toArray w' := by
  have slices : ∀ (xs : List AV), Elems P w g.M e xs v → ∃ us, RepL P w g.M e xs us ∧ (Builtin.lenOf v).run P w = .ok xs.length w ∧ ∀ n, n ≤ xs.length → ∀ w', (∀ b o cv, w.cell? ⟨b, o, none⟩ = some cv → w'.cell? ⟨b, o, none⟩ = some cv) → (Builtin.firstCells (P.cellsOf e) n v).run P w' = .ok (flat (us.take n)).toArray w' := by
    rintro xs ⟨A, c, us, rfl, h1, h2, hr, hA⟩
    refine ⟨us, hr, by simp [Builtin.lenOf], fun n hn w' hw' => ?_⟩
    by_cases hne : xs = []
    · subst hne
      have hus : us = [] := List.eq_nil_of_length_eq_zero hr.1
      subst hus
      have : n = 0 := by simpa using hn
      subst this
      cases A with
      | none => simp [Builtin.firstCells, flat]
      | some ad => simp [Builtin.firstCells, flat, loadCells, loadCellsFrom]
    · obtain ⟨he, b, o, rfl, hj⟩ := hA hne
      have hl : (flat (us.take n)).length = n * P.cellsOf e := by
        rw [flat_length (fun u hu => hr.2.2 u (List.mem_of_mem_take hu)), List.length_take, hr.1, Nat.min_eq_left hn]
      refine run_firstCells_some (P := P) w' (P.cellsOf e) n ⟨b, o, none⟩ xs.length c _ hl fun j cv hcv => ?_
      rw [Addr.add_lit]
      rw [flat_take hr.2.2, List.getElem?_take] at hcv
      split at hcv
      · exact hw' _ _ _ (hj j cv hcv)
      · cases hcv
  cases a with
  | str l =>
    simp only [St.src] at h
    split at h
    · rename_i he
      simp only [Option.some.injEq] at h; subst h
      have e1 := hv.inv_str
      subst e1
      refine ⟨l.map fun b => .int .u8 b.toNat, ⟨by simp [avsOfBytes], fun i x u hx hu => ?_, fun u hu => ?_⟩, by simp [Builtin.lenOf, avsOfBytes, ByteArray.size], fun n hn w' _ => ?_⟩
      · rw [avs_getElem?] at hx
        simp only [List.getElem?_map] at hu
        cases hl : l[i]? with
        | none => simp [hl] at hx
        | some b => simp [hl] at hx hu; subst hx; subst hu; exact .x rfl
      · obtain ⟨b, _, rfl⟩ := List.mem_map.1 hu
        rw [he]; rfl
      · simp only [Builtin.firstCells, Sem.run_pure]
        congr 1
        apply Array.ext'
        have hf : ∀ m : List UInt8, flat (m.map fun b => Value.int .u8 b.toNat) = m.map fun b => Value.int .u8 b.toNat := by
          intro m; induction m with
          | nil => rfl
          | cons b r ih => rw [List.map_cons, flat_cons, ih]; rfl
        rw [← List.map_take, hf]
        rw [ByteArray.extract_mk]
        simp
    · cases h
  | nils =>
    simp only [St.src, Option.some.injEq] at h; subst h
    have e1 := hv.inv_nils
    subst e1
    exact ⟨[], RepL.nil, by simp [Builtin.lenOf], fun n hn w' _ => by simp [Builtin.firstCells, flat]⟩
  | cap0 =>
    simp only [St.src, Option.some.injEq] at h; subst h
    obtain ⟨A, rfl⟩ := hv.inv_cap0
    exact slices [] ⟨A, 0, [], rfl, by simp, by simp [maxLen], RepL.nil, fun h => absurd rfl h⟩
  | sl e' ys =>
    simp only [St.src] at h
    split at h
    · rename_i he
      subst he
      simp only [Option.some.injEq] at h; subst h
      exact slices _ hv.elems_sl
    · cases h
  | arr i k e' lo n tot =>
    simp only [St.src] at h
    split at h
    · rename_i he
      subst he
      exact slices _ (hi.elems hv h).2
    · cases h
  | _ => simp [St.src] at h
theorem lenOfA_sound {s : St} (hi : SInv P w g may s.stores) {t : TypeId} {a : AV} {v : Value} {n : Nat} (hv : HRep P w g s.stores a v) (h : lenOfA P s t a = some n) (ts : List TypeId) (ty : TypeId) :
    (Builtin.len_ (t :: ts).toArray ty #[v]).run P w = .ok (.int .i64 n) w := by
  unfold lenOfA at h
  split at h
  · rename_i hu
    split at h
    · rename_i l
      simp only [Option.some.injEq] at h; subst h
      have e1 := hv.inv_str; subst e1
      have hsz : (⟨l.toArray⟩ : ByteArray).size = l.length := by simp [ByteArray.size]
      simp [Builtin.len_, run_underlying hu, goInt]
      first | done | exact congrArg Int.ofNat hsz
    · cases h
  · rename_i e hu
    split at h
    · simp only [Option.some.injEq] at h; subst h
      have e1 := hv.inv_nils; subst e1
      simp [Builtin.len_, run_underlying hu, goInt]
    · simp only [Option.some.injEq] at h; subst h
      obtain ⟨A, rfl⟩ := hv.inv_cap0
      simp [Builtin.len_, run_underlying hu, goInt]
    · simp only [Option.some.injEq] at h; subst h
      obtain ⟨A, c, us, rfl, _⟩ := hv.elems_sl
      simp [Builtin.len_, run_underlying hu, goInt]
    · rename_i i k e' lo m tot
      split at h
      · rename_i xs hx
        simp only [Option.some.injEq] at h; subst h
        obtain ⟨hxl, A, c, us, rfl, _⟩ := hi.elems hv hx
        simp [Builtin.len_, run_underlying hu, goInt, hxl]
      · cases h
    · cases h
  · rename_i m e hu
    simp only [Option.some.injEq] at h; subst h
    simp [Builtin.len_, run_underlying hu, goInt]
  · rename_i arr hu
    split at h
    · rename_i m e hu2
      simp only [Option.some.injEq] at h; subst h
      simp [Builtin.len_, run_underlying hu, run_underlying hu2, goInt]
    · cases h
  · cases h
end
end Go.AbsM
end

section
namespace Go.AbsM
section
variable {P : Program} {w : World} {g : Gh} {may : Nat → Prop} {s : St}
theorem Rep.parts {M : Nat → Nat → Prop} {a : AV} {u : Value} (h : Rep P w M a u) :
    u.cells.toList.length = a.cells.length ∧ (∀ (j : Nat) (c : AV) (v : Value), a.cells[j]? = some c → u.cells.toList[j]? = some v → Rep P w M c v) ∧ ∀ c, c ∈ a.cells → c.isVal = true := by
  have single : ∀ (a : AV) (u : Value), Rep P w M a u → a.isVal = true → a.cells = [a] → u.cells.toList.length = a.cells.length ∧ (∀ (j : Nat) (c : AV) (v : Value), a.cells[j]? = some c → u.cells.toList[j]? = some v → Rep P w M c v) ∧ ∀ c, c ∈ a.cells → c.isVal = true := by
    intro a u h hv hc
    have hone := h.oneCell hv
    have hcl : u.cells = #[u] := by cases u <;> simp_all [Value.cells, Value.oneCell']
    rw [hc, hcl]
    refine ⟨rfl, fun j c v h1 h2 => ?_, fun c hc => by simp at hc; subst hc; exact hv⟩
    cases j with
    | zero => simp at h1 h2; subst h1; subst h2; exact h
    | succ j => simp at h1
  cases h with
  | x h => exact single _ _ (.x h) rfl rfl
  | str => exact single _ _ .str rfl rfl
  | nils => exact single _ _ .nils rfl rfl
  | cap0 => exact single _ _ .cap0 rfl rfl
  | sl h1 h2 h3 h4 h5 h6 h7 h8 => exact single _ _ (.sl h1 h2 h3 h4 h5 h6 h7 h8) rfl rfl
  | agg hl hr hv =>
    refine ⟨by simpa [Value.cells, AV.cells] using hl, fun j c v h1 h2 => hr j c v h1 (by simpa [Value.cells] using h2), hv⟩
theorem fwd_sound {n : Nat} {p p' : AV} {v : Value} (hv : HRep P w g s.stores p v) (h : s.fwd n p = some p') : ∃ b o, v = .pointer (some ⟨b, o, none⟩) ∧ HRep P w g s.stores p' (.pointer (some ⟨b, o + n, none⟩)) := by
  cases p with
  | ref i k off =>
    simp only [St.fwd, Option.some.injEq] at h; subst h
    obtain ⟨hb, rfl⟩ := hv.inv_ref
    exact ⟨_, _, rfl, hb, rfl⟩
  | efz cs off =>
    simp only [St.fwd, Option.some.injEq] at h; subst h
    obtain ⟨b, o, vs, rfl, h1, h2, h3, h4⟩ := hv
    exact ⟨_, _, rfl, b, o, vs, by rw [Nat.add_assoc], h1, h2, h3, h4⟩
  | ear i k e tot j off =>
    obtain ⟨fz, xs, hg, ht, hq⟩ := hv
    simp only [St.fwd, hg] at h
    split at h
    · rename_i hl
      simp only [Option.some.injEq] at h; subst h
      obtain ⟨hj, rfl⟩ := hq hl
      exact ⟨_, _, rfl, fz, xs, hg, ht, fun _ => ⟨hj, by rw [Nat.add_assoc]⟩⟩
    · cases h
  | _ => simp [St.fwd] at h
theorem fieldAddr_sound {t : TypeId} {fields : Array Field} {f : Nat} {fd : Field} {m : Nat} {p p' : AV} {v : Value} (hu : P.underlying t = some (.struct fields)) (hf : fields[f]? = some fd) (hm : sizeT P fd.type = some (m + 1))
    (hv : HRep P w g s.stores p v) (h : s.fwd fd.offset p = some p') : ∃ r, (Instr.fieldAt t v f).run P w = .ok r w ∧ HRep P w g s.stores p' r := by
  obtain ⟨b, o, rfl, hr⟩ := fwd_sound hv h
  refine ⟨_, ?_, hr⟩
  simp [Instr.fieldAt, run_underlying hu, hf, Instr.sureAddr, fieldPlace, sizeT_run hm, Addr.add_lit]
theorem indexAddrA_sound (hi : SInv P w g may s.stores) {t : TypeId} {p p' : AV} {v : Value} {k : IntKind} {i : Int} (hv : HRep P w g s.stores p v) (h : indexAddrA P s t p i = some p') :
    ∃ r, (Instr.indexAt t v (.int k i)).run P w = .ok r w ∧ HRep P w g s.stores p' r := by
  unfold indexAddrA at h
  split at h
  · rename_i e hu
    split at h
    · rename_i h0
      split at h
      · rename_i e' xs
        split at h
        · rename_i he
          subst he
          split at h
          · rename_i a ha
            simp only [Option.some.injEq] at h; subst h
            obtain ⟨A, c, us, rfl, h1, h2, hpos, hr, hA⟩ := hv.inv_sl
            have hlt : i.toNat < xs.length := (List.getElem?_eq_some_iff.1 ha).1
            obtain ⟨b, o, rfl, hj⟩ := hA (by rintro rfl; simp at hlt)
            have hlu : i.toNat < us.length := by rw [hr.1]; exact hlt
            have hus : us[i.toNat]? = some us[i.toNat] := List.getElem?_eq_getElem hlu
            have hsz : us[i.toNat].cells.size = P.cellsOf e' := hr.2.2 _ (List.getElem_mem hlu)
            have hra := hr.2.1 i.toNat a _ ha hus
            have hcs : ∃ n, sizeT P e' = some n := by
              unfold sizeT
              cases hinf : P.info? e' with
              | none => simp [Program.cellsOf, hinf] at hpos
              | some i => exact ⟨_, rfl⟩
            obtain ⟨n, hn⟩ := hcs
            have hn' := sizeT_cells hn
            refine ⟨.pointer (some ⟨b, o + i.toNat * P.cellsOf e', none⟩), ?_, ?_⟩
            · have hil : i < (xs.length : Int) := by omega
              simp [Instr.indexAt, asIntOf, run_underlying hu, h0, hil, sizeT_run hn, Addr.add_lit, hn']
            ·
              have hcell : ∀ (j : Nat) (u : Value), us[i.toNat].cells.toList[j]? = some u → w.cell? ⟨b, o + i.toNat * P.cellsOf e' + j, none⟩ = some u ∧ g.M b (o + i.toNat * P.cellsOf e' + j) := by
                intro j u hju
                have hj' : j < P.cellsOf e' := by
                  have := (List.getElem?_eq_some_iff.1 hju).1
                  simpa [hsz] using this
                have := flat_at hr.2.2 hus hj'
                rw [Nat.add_assoc]
                exact hj _ u (by rw [this]; simpa using hju)
              obtain ⟨hl, hrr, hval⟩ := hra.parts
              exact ⟨b, o + i.toNat * P.cellsOf e', us[i.toNat].cells.toList, rfl, hl, hrr, hval, hcell⟩
          · cases h
        · cases h
      · rename_i j k' e' lo n tot
        split at h
        · rename_i he
          obtain ⟨rfl, hin⟩ := he
          split at h
          · rename_i xs hx
            simp only [Option.some.injEq] at h; subst h
            obtain ⟨fz, ys, hg, ht, hq, _⟩ := hv.inv_arr
            have hl : ys.length = tot := by
              simp only [St.elems, hg] at hx
              split at hx
              · assumption
              · cases hx
            obtain ⟨hln, A, c, rfl, hnc, hcm, hA, hC⟩ := hq hl
            have hcs : ∃ n, sizeT P e' = some n := by
              have hpos : 0 < P.cellsOf e' := by
                cases fz with
                | true => exact (hi.fz j k' e' ys hg).1
                | false => exact (hi.arr j k' e' ys hg).2.2.1
              unfold sizeT
              cases hinf : P.info? e' with
              | none => simp [Program.cellsOf, hinf] at hpos
              | some i => exact ⟨_, rfl⟩
            obtain ⟨m, hn⟩ := hcs
            have hn' := sizeT_cells hn
            rw [hA (.inr (by omega))]
            refine ⟨.pointer (some ⟨g.B j k', lo * P.cellsOf e' + i.toNat * P.cellsOf e', none⟩), ?_, fz, ys, hg, ht, fun _ => ⟨by omega, by rw [Nat.add_mul, Nat.add_zero]⟩⟩
            simp [Instr.indexAt, asIntOf, run_underlying hu, h0, hin, sizeT_run hn, Addr.add_lit, hn']
          · cases h
        · cases h
      · cases h
    · cases h
  · rename_i len e hu
    split at h
    · rename_i n hn
      split at h
      · rename_i hb
        obtain ⟨b, o, rfl, hr⟩ := fwd_sound hv h
        refine ⟨_, ?_, hr⟩
        simp [Instr.indexAt, asIntOf, run_underlying hu, Instr.sureAddr, hb.1, hb.2, sizeT_run hn, Addr.add_lit]
      · cases h
    · cases h
  · cases h
theorem loadVar_run {t : TypeId} {cs : List AV} {vs : List Value} {off : Nat} {r : AV} {b o : Nat} {S : List Store} {w0 : World} (hc : CellsRep P w0 g S cs vs) (hm : ∀ (j : Nat) (u : Value), vs[j]? = some u → w.cell? ⟨b, o + j, none⟩ = some u)
    (h : partA P t cs off = some r) : ∃ v, (loadVar t ⟨b, o + off, none⟩).run P w = .ok v w ∧ HRep P w0 g S r v := by
  unfold partA at h
  split at h
  · rename_i n hn ha
    split at h
    · rename_i hl
      simp only [Option.some.injEq] at h; subst h
      refine ⟨.agg ((vs.drop off).take n).toArray, ?_, HRep.mk_agg ((hc.drop off).take n)⟩
      have hlen : ((vs.drop off).take n).length = n := by simp [hc.1]; omega
      have hld := run_loadCells_list (P := P) w ⟨b, o + off, none⟩ ((vs.drop off).take n) (fun j v hj => by
        rw [Addr.add_lit]
        rw [List.getElem?_take] at hj
        split at hj
        · rw [List.getElem?_drop] at hj
          rw [Nat.add_assoc]
          exact hm _ v hj
        · cases hj)
      rw [hlen] at hld
      simp [loadVar, aggT_run ha, sizeT_run hn, hld]
    · cases h
  · rename_i n hn ha
    have hlt : off < cs.length := by
      rcases Nat.lt_or_ge off cs.length with h1 | h1
      · exact h1
      · rw [List.getElem?_eq_none h1] at h; cases h
    have hlv : off < vs.length := by rw [hc.1]; exact hlt
    refine ⟨vs[off], ?_, HRep.of_cell (hc.2 off r vs[off] h (List.getElem?_eq_getElem hlv)).1⟩
    have := hm off vs[off] (List.getElem?_eq_getElem hlv)
    simp [loadVar, aggT_run ha, this]
  · cases h
theorem partA_map {t : TypeId} {cs : List AV} {off : Nat} {r : AV} (f : AV → AV) (h : partA P t cs off = some r) :
    (∃ ds, r = .agg ds ∧ partA P t (cs.map f) off = some (.agg (ds.map f))) ∨ (cs[off]? = some r ∧ partA P t (cs.map f) off = some (f r)) := by
  unfold partA at h
  split at h
  · rename_i n hn ha
    split at h
    · rename_i hl
      simp only [Option.some.injEq] at h; subst h
      exact .inl ⟨_, rfl, by simp [partA, hn, ha, hl]⟩
    · cases h
  · rename_i n hn ha
    exact .inr ⟨h, by simp [partA, hn, ha, h]⟩
  · cases h
theorem loadA_sound (hi : SInv P w g may s.stores) {t : TypeId} {p r : AV} {v : Value} (hv : HRep P w g s.stores p v) (h : loadA P s t p = some r) : ∃ u, (Instr.loadAt t v).run P w = .ok u w ∧ HRep P w g s.stores r u := by
  unfold loadA at h
  split at h
  · rename_i i k off
    split at h
    · rename_i cs hg
      obtain ⟨_, rfl⟩ := hv.inv_ref
      obtain ⟨_, _, vs, tt, hh, hl, hr⟩ := hi.box i k cs hg
      obtain ⟨r', hp, rfl⟩ := Option.map_eq_some_iff.1 h
      have hc : CellsRep P w g s.stores (cs.map (AV.shift i)) vs := ⟨by simpa using hl, fun j c u h1 h2 => by
        simp only [List.getElem?_map, Option.map_eq_some_iff] at h1
        obtain ⟨c0, h1, rfl⟩ := h1
        exact hr j c0 u h1 h2⟩
      have hm : ∀ (j : Nat) (u : Value), vs[j]? = some u → w.cell? ⟨g.B i k, 0 + j, none⟩ = some u := fun j u hu => by
        rw [Nat.zero_add, cell_of_row w (g.B i k) j vs.toArray tt (0, 0) hh]
        simpa using hu
      rcases partA_map (AV.shift i) hp with ⟨ds, rfl, hp'⟩ | ⟨hin, hp'⟩
      · obtain ⟨u, hrun, hu⟩ := loadVar_run hc hm hp'
        rw [Nat.zero_add] at hrun
        exact ⟨u, by simp [Instr.loadAt, Instr.sureAddr, hrun], hu⟩
      · obtain ⟨u, hrun, hu⟩ := loadVar_run hc hm hp'
        rw [Nat.zero_add] at hrun
        refine ⟨u, by simp [Instr.loadAt, Instr.sureAddr, hrun], ?_⟩
        have : shiftCells i r' = r'.shift i := by
          have hlt : off < vs.length := by rw [hl]; exact (List.getElem?_eq_some_iff.1 hin).1
          have hx := (hr off _ vs[off] hin (List.getElem?_eq_getElem hlt)).1
          cases r' <;> first | rfl | exact hx.elim
        rw [this]
        exact hu
    · cases h
  · rename_i cs off
    obtain ⟨b, o, vs, rfl, hl, hr, hval, hcell⟩ := hv
    have hc : CellsRep P w g s.stores cs vs := ⟨hl, fun j c u h1 h2 => ⟨CRep.of_rep (hr j c u h1 h2) (hval c (List.mem_of_getElem? h1)), (hr j c u h1 h2).oneCell (hval c (List.mem_of_getElem? h1))⟩⟩
    obtain ⟨u, hrun, hu⟩ := loadVar_run hc (fun j u hj => (hcell j u hj).1) h
    exact ⟨u, by simp [Instr.loadAt, Instr.sureAddr, hrun], hu⟩
  · rename_i i k e tot j off
    split at h
    · rename_i fz e' xs hg
      split at h
      · rename_i hl
        split at h
        · rename_i y hy
          obtain ⟨fz', xs', hg', ht, hq⟩ := hv
          rw [hg] at hg'
          simp only [Option.some.injEq, Ob.arr.injEq] at hg'
          obtain ⟨rfl, rfl, rfl⟩ := hg'
          obtain ⟨hj, rfl⟩ := hq hl
          have key : ∀ us : List Value, RepL P w g.M e' xs us → (∀ (m : Nat) (cv : Value), (flat us)[m]? = some cv → w.cell? ⟨g.B i k, m, none⟩ = some cv) → ∃ u, (Instr.loadAt t (.pointer (some ⟨g.B i k, j * P.cellsOf e' + off, none⟩))).run P w = .ok u w ∧ HRep P w g s.stores r u := by
            intro us hr hcell
            have hlu : j < us.length := by rw [hr.1]; omega
            have hus : us[j]? = some us[j] := List.getElem?_eq_getElem hlu
            have hra := hr.2.1 j y _ hy hus
            obtain ⟨h1, h2, h3⟩ := hra.parts
            have hc : CellsRep P w g s.stores y.cells us[j].cells.toList := ⟨h1, fun m c u hc hu => ⟨CRep.of_rep (h2 m c u hc hu) (h3 c (List.mem_of_getElem? hc)), (h2 m c u hc hu).oneCell (h3 c (List.mem_of_getElem? hc))⟩⟩
            have hm : ∀ (m : Nat) (u : Value), us[j].cells.toList[m]? = some u → w.cell? ⟨g.B i k, j * P.cellsOf e' + m, none⟩ = some u := by
              intro m u hmu
              have hm' : m < P.cellsOf e' := by
                have h5 := (List.getElem?_eq_some_iff.1 hmu).1
                have h6 := hr.2.2 _ (List.getElem_mem hlu)
                simp only [Array.length_toList] at h5
                omega
              have := flat_at hr.2.2 hus hm'
              exact hcell _ u (by rw [this]; simpa using hmu)
            obtain ⟨u, hrun, hu⟩ := loadVar_run hc hm h
            exact ⟨u, by simp [Instr.loadAt, Instr.sureAddr, hrun], hu⟩
          cases fz with
          | true =>
            obtain ⟨he, us, hr, hcell⟩ := hi.fz i k e' xs hg
            exact key us hr fun m cv hm => (hcell m cv hm).1
          | false =>
            obtain ⟨_, _, he, cur, us, cap, hh, _, _, _, _, hr, htake⟩ := hi.arr i k e' xs hg
            refine key us hr fun m cv hm => ?_
            rw [← htake, List.getElem?_take] at hm
            split at hm
            · rw [cell_of_row w (g.B i k) m cur.toArray e' (0, 0) hh]
              simpa using hm
            · cases hm
        · cases h
      · cases h
    · cases h
  · cases h
end
end Go.AbsM
end

section
namespace Go.AbsM
section
variable {P : Program} {w : World} {g : Gh} {may : Nat → Prop} {s : St} {a : Act}
theorem boundA_some {d most : Nat} {o : Operand} {n : Nat} (hs : Sim P may s a w g) (h : boundA s d most (some o) = some n) : ∃ k i, a.eval o = .int k i ∧ 0 ≤ i ∧ i ≤ most ∧ n = i.toNat := by
  simp only [boundA] at h
  split at h
  · rename_i k i he
    split at h
    · rename_i hb
      simp only [Option.some.injEq] at h
      obtain ⟨e1, _⟩ := (hs.evalO he).inv_x
      exact ⟨k, i, e1, hb.1, hb.2, h.symm⟩
    · cases h
  · cases h
theorem boundA_le {d most : Nat} {o : Option Operand} {n : Nat} (hs : Sim P may s a w g) (h : boundA s d most o = some n) (hd : d ≤ most) : n ≤ most := by
  cases o with
  | none => simp [boundA] at h; omega
  | some o =>
    obtain ⟨k, i, _, h0, h1, rfl⟩ := boundA_some hs h
    omega
theorem sliceBound_run {k : IntKind} {i : Int} {y : Nat} (c : BoundsCode) (h0 : 0 ≤ i) (h1 : i ≤ y) : (Instr.sliceBound (.int k i) y c).run P w = .ok i.toNat w := by
  simp [Instr.sliceBound, asIntOf, h0, h1]
theorem sliceBounds_plain {isS : Bool} {len cap : Nat} {lo hi : Option Operand} {h l : Nat} (hs : Sim P may s a w g) (hlc : len ≤ cap) (hh : boundA s len len hi = some h) (hl : boundA s 0 h lo = some l) :
    (Instr.sliceBounds isS len cap (lo.map a.eval) (hi.map a.eval) none).run P w = .ok (l, h, cap) w := by
  have fin : ∀ x : Option Value, (match x, (none : Option Value) with
      | some v, some _ => Instr.sliceBound v cap .slice3B
      | some v, none => Instr.sliceBound v cap (if isS then .sliceAcap else .sliceAlen)
      | none, none => pure len
      | none, some _ => stuck "Slice: max without high").run P w = .ok h w →
      (match (lo.map a.eval) with | some v => Instr.sliceBound v h .sliceB | none => pure 0).run P w = .ok l w → True := fun _ _ _ => trivial
  cases hi with
  | none =>
    simp [boundA] at hh
    subst hh
    cases lo with
    | none => simp [boundA] at hl; subst hl; simp [Instr.sliceBounds]
    | some o =>
      obtain ⟨k, i, he, h0, h1, rfl⟩ := boundA_some hs hl
      simp [Instr.sliceBounds, he, sliceBound_run _ h0 h1]
  | some o1 =>
    obtain ⟨k1, i1, he1, h01, h11, rfl⟩ := boundA_some hs hh
    have h12 : i1 ≤ (cap : Int) := by omega
    cases lo with
    | none => simp [boundA] at hl; subst hl; simp [Instr.sliceBounds, he1, sliceBound_run _ h01 h12]
    | some o =>
      obtain ⟨k, i, he, h0, h1, rfl⟩ := boundA_some hs hl
      simp [Instr.sliceBounds, he, he1, sliceBound_run _ h01 h12, sliceBound_run _ h0 h1]
theorem sliceBounds_max {isS : Bool} {len cap mm : Nat} {lo : Option Operand} {o1 om : Operand} {m h l d d2 : Nat} (hs : Sim P may s a w g) (hmc : mm ≤ cap) (hm : boundA s d2 mm (some om) = some m) (hh : boundA s d m (some o1) = some h) (hl : boundA s 0 h lo = some l) :
    (Instr.sliceBounds isS len cap (lo.map a.eval) ((some o1).map a.eval) ((some om).map a.eval)).run P w = .ok (l, h, m) w := by
  obtain ⟨km, im, hem, h0m, h1m, rfl⟩ := boundA_some hs hm
  have h2m : im ≤ (cap : Int) := by omega
  obtain ⟨k1, i1, he1, h01, h11, rfl⟩ := boundA_some hs hh
  cases lo with
  | none => simp [boundA] at hl; subst hl; simp [Instr.sliceBounds, he1, hem, sliceBound_run _ h0m h2m, sliceBound_run _ h01 h11]
  | some o =>
    obtain ⟨k, i, he, h0, h1, rfl⟩ := boundA_some hs hl
    simp [Instr.sliceBounds, he, he1, hem, sliceBound_run _ h0m h2m, sliceBound_run _ h01 h11, sliceBound_run _ h0 h1]
theorem slice_run {t e : TypeId} {A : Option Addr} {len cap l h m n : Nat} {lo hi mx : Option Value} (hu : P.underlying t = some (.slice e)) (hn : sizeT P e = some n) (hb : (Instr.sliceBounds true len cap lo hi mx).run P w = .ok (l, h, m) w) :
    (Instr.sliceAt t (.slice A len cap) lo hi mx).run P w = .ok (.slice (if m = l then A else A.map (·.add (l * n))) (h - l) (m - l)) w := by
  simp [Instr.sliceAt, Instr.slice, run_underlying hu, hb, sizeT_run hn]
theorem sl_cut {S : List Store} {e : TypeId} {xs : List AV} {A : Option Addr} {c l h m : Nat} (hv : HRep P w g S (.sl e xs) (.slice A xs.length c)) (hlh : l ≤ h) (hhm : h ≤ m) (hhx : h ≤ xs.length) (hmc : m ≤ c) :
    HRep P w g S (.sl e ((xs.take h).drop l)) (.slice (if m = l then A else A.map (·.add (l * P.cellsOf e))) (h - l) (m - l)) := by
  obtain ⟨A', c', us, heq, h1, h2, hpos, hr, hA⟩ := hv.inv_sl
  injection heq with e1 e2 e3
  subst e1; subst e3
  have hlen : ((xs.take h).drop l).length = h - l := by simp; omega
  refine HRep.of_rep (.sl (us := (us.take h).drop l) hlen.symm (by simp [hr.1]) (by rw [hlen]; omega) (by omega) hpos ((hr.take h).drop l).2.1 ((hr.take h).drop l).2.2 fun hne => ?_)
  have hlt : l < h := by
    rcases Nat.lt_or_ge l h with h3 | h3
    · exact h3
    · exact absurd (List.eq_nil_of_length_eq_zero (by rw [hlen]; omega)) hne
  obtain ⟨b, o, rfl, hj⟩ := hA (by rintro rfl; simp at hhx; omega)
  rw [if_neg (by omega)]
  refine ⟨b, o + l * P.cellsOf e, by simp [Addr.add_lit], fun j cv hcv => ?_⟩
  rw [flat_drop (fun u hu => hr.2.2 u (List.mem_of_mem_take hu)), flat_take hr.2.2, List.getElem?_drop, List.getElem?_take] at hcv
  split at hcv
  · rw [Nat.add_assoc]; exact hj _ cv hcv
  · cases hcv
theorem arr_cut {S : List Store} {i k : Nat} {e : TypeId} {lo n tot : Nat} {A : Option Addr} {c l h m : Nat} {ys : List AV} {fz : Bool} (hv : HRep P w g S (.arr i k e lo n tot) (.slice A n c)) (hg : getOb S i k = some (.arr fz e ys)) (hl : ys.length = tot)
    (hlh : l ≤ h) (hhm : h ≤ m) (hhx : h ≤ n) (hmc : m ≤ c) :
    HRep P w g S (.arr i k e (lo + l) (h - l) tot) (.slice (if m = l then A else A.map (·.add (l * P.cellsOf e))) (h - l) (m - l)) := by
  obtain ⟨fz', xs', hg', ht, hq, _⟩ := hv.inv_arr
  rw [hg] at hg'
  simp only [Option.some.injEq, Ob.arr.injEq] at hg'
  obtain ⟨rfl, _, rfl⟩ := hg'
  refine ⟨fz, ys, hg, ht, fun _ => ?_, rfl⟩
  obtain ⟨hln, A', c', heq, hnc, hcm, hA, hC⟩ := hq hl
  injection heq with e1 e2 e3
  subst e1; subst e3
  refine ⟨by omega, _, _, rfl, by omega, by omega, fun h3 => ?_, fun hf => ?_⟩
  · by_cases hml : m = l
    · rw [if_pos hml]
      have hl0 : l = 0 := by
        rcases h3 with h3 | h3 <;> omega
      subst hl0
      rw [Nat.add_zero]
      exact hA (by rcases h3 with h3 | h3
                   · exact .inl (by omega)
                   · omega)
    · rw [if_neg hml]
      rw [hA (by rcases h3 with h3 | h3
                 · exact .inl (by omega)
                 · exact .inr (by omega))]
      simp [Addr.add_lit, Nat.add_mul]
  · have := hC hf
    refine Nat.le_trans (Nat.mul_le_mul_right _ ?_) this
    omega
theorem sliceA_sound (hs : Sim P may s a w g) {t : TypeId} {x r : AV} {v : Value} {lo hi mx : Option Operand} (hv : HRep P w g s.stores x v) (h : sliceA P s t x lo hi mx = some r) :
    ∃ u, (Instr.sliceAt t v (lo.map a.eval) (hi.map a.eval) (mx.map a.eval)).run P w = .ok u w ∧ HRep P w g s.stores r u := by
  unfold sliceA at h
  split at h
  · rename_i hu
    split at h
    · rename_i l
      split at h
      · rename_i hh hhe
        split at h
        · rename_i b hb
          simp only [Option.some.injEq] at h; subst h
          have e1 := hv.inv_str; subst e1
          have hsz : (⟨l.toArray⟩ : ByteArray).size = l.length := by simp [ByteArray.size]
          have hbd := sliceBounds_plain (isS := false) hs (Nat.le_refl l.length) hhe hb
          refine ⟨_, ?_, HRep.mk_str _⟩
          simp only [Instr.sliceAt, Instr.slice, run_underlying hu, Sem.run_bind, Result.andThen_ok, hsz, Option.map_none, Option.isSome_none, Bool.false_eq_true, if_false, hbd, Sem.run_pure]
          congr 2
          rw [ByteArray.extract_mk]
          congr 2
          rw [List.drop_take]
        · cases h
      · cases h
    · cases h
  · rename_i e hu
    split at h
    · cases h
    rename_i n hn
    have hce := sizeT_cells hn
    split at h
    ·
      rename_i hi0
      split at h
      · rename_i e' xs
        split at h
        · rename_i he
          subst he
          split at h
          · rename_i hh hhe
            split at h
            · rename_i b hb
              simp only [Option.some.injEq] at h; subst h
              obtain ⟨A, c, us, rfl, h1, h2, hpos, hr, hA⟩ := hv.inv_sl
              have hle := boundA_le hs hhe (Nat.le_refl _)
              have hlb := boundA_le hs hb (Nat.zero_le _)
              refine ⟨_, slice_run hu hn (sliceBounds_plain (isS := true) hs h1 hhe hb), ?_⟩
              rw [← hce]
              exact sl_cut hv hlb (by omega) hle (Nat.le_refl _)
            · cases h
          · cases h
        · cases h
      · rename_i i k e' lo' n' tot
        split at h
        · rename_i he
          subst he
          split at h
          · rename_i ys hh hx hhe
            split at h
            · rename_i b hb
              simp only [Option.some.injEq] at h; subst h
              obtain ⟨hyl, A, c, us, rfl, h1, h2, hr, hA⟩ := hs.inv.elems hv hx
              obtain ⟨fz, zs, hg, ht, hq, _⟩ := hv.inv_arr
              have hl : zs.length = tot := by
                simp only [St.elems, hg] at hx
                split at hx
                · assumption
                · cases hx
              rw [hyl] at hv h1
              have hle := boundA_le hs hhe (Nat.le_refl _)
              have hlb := boundA_le hs hb (Nat.zero_le _)
              rw [hyl]
              refine ⟨_, slice_run hu hn (sliceBounds_plain (isS := true) hs h1 hhe hb), ?_⟩
              rw [← hce]
              exact arr_cut hv hg hl hlb (by omega) hle (Nat.le_refl _)
            · cases h
          · cases h
        · cases h
      · split at h
        · rename_i hh hhe
          split at h
          · rename_i b hb
            simp only [Option.some.injEq] at h; subst h
            have e1 := hv.inv_nils; subst e1
            have hle := boundA_le hs hhe (Nat.le_refl _)
            have hlb := boundA_le hs hb (Nat.zero_le _)
            refine ⟨_, slice_run hu hn (sliceBounds_plain (isS := true) hs (Nat.le_refl 0) hhe hb), ?_⟩
            have h1 : hh = 0 := by omega
            have h2 : b = 0 := by omega
            subst h1; subst h2
            exact HRep.of_rep .nils
          · cases h
        · cases h
      · split at h
        · rename_i hh hhe
          split at h
          · rename_i b hb
            simp only [Option.some.injEq] at h; subst h
            obtain ⟨A, rfl⟩ := hv.inv_cap0
            have hle := boundA_le hs hhe (Nat.le_refl _)
            have hlb := boundA_le hs hb (Nat.zero_le _)
            refine ⟨_, slice_run hu hn (sliceBounds_plain (isS := true) hs (Nat.le_refl 0) hhe hb), ?_⟩
            have h1 : hh = 0 := by omega
            have h2 : b = 0 := by omega
            subst h1; subst h2
            exact HRep.of_rep .cap0
          · cases h
        · cases h
      · cases h
    ·
      rename_i m o1
      split at h
      · split at h
        · rename_i m' hm
          split at h
          · rename_i hh hhe
            split at h
            · rename_i b hb
              simp only [Option.some.injEq] at h; subst h
              have e1 := hv.inv_nils; subst e1
              have hlm := boundA_le hs hm (Nat.le_refl _)
              have hle := boundA_le hs hhe (Nat.zero_le _)
              have hlb := boundA_le hs hb (Nat.zero_le _)
              refine ⟨_, slice_run hu hn (sliceBounds_max (isS := true) (len := 0) hs (Nat.le_refl 0) hm hhe hb), ?_⟩
              have h0 : m' = 0 := by omega
              have h1 : hh = 0 := by omega
              have h2 : b = 0 := by omega
              subst h0; subst h1; subst h2
              exact HRep.of_rep .nils
            · cases h
          · cases h
        · cases h
      · split at h
        · rename_i m' hm
          split at h
          · rename_i hh hhe
            split at h
            · rename_i b hb
              simp only [Option.some.injEq] at h; subst h
              obtain ⟨A, rfl⟩ := hv.inv_cap0
              have hlm := boundA_le hs hm (Nat.le_refl _)
              have hle := boundA_le hs hhe (Nat.zero_le _)
              have hlb := boundA_le hs hb (Nat.zero_le _)
              refine ⟨_, slice_run hu hn (sliceBounds_max (isS := true) (len := 0) hs (Nat.le_refl 0) hm hhe hb), ?_⟩
              have h0 : m' = 0 := by omega
              have h1 : hh = 0 := by omega
              have h2 : b = 0 := by omega
              subst h0; subst h1; subst h2
              exact HRep.of_rep .cap0
            · cases h
          · cases h
        · cases h
      · rename_i e' xs
        split at h
        · rename_i he
          subst he
          split at h
          · rename_i m' hm
            split at h
            · rename_i hh hhe
              split at h
              · rename_i b hb
                obtain ⟨A, c, us, rfl, h1, h2, hpos, hr, hA⟩ := hv.inv_sl
                have hlm := boundA_le hs hm (Nat.zero_le _)
                have hle := boundA_le hs hhe (Nat.zero_le _)
                have hlb := boundA_le hs hb (Nat.zero_le _)
                have hrun := slice_run (A := A) hu hn (sliceBounds_max (isS := true) (len := xs.length) hs h1 hm hhe hb)
                refine ⟨_, hrun, ?_⟩
                split at h
                · simp only [Option.some.injEq] at h; subst h
                  have h1 : hh = 0 := by omega
                  have h2 : b = 0 := by omega
                  subst h1; subst h2
                  exact HRep.of_rep .cap0
                · simp only [Option.some.injEq] at h; subst h
                  rw [← hce]
                  exact sl_cut hv hlb hle (by omega) (by omega)
              · cases h
            · cases h
          · cases h
        · cases h
      · rename_i i k e' lo' n' tot
        split at h
        · rename_i he
          subst he
          split at h
          · rename_i ys m' hx hm
            split at h
            · rename_i hh hhe
              split at h
              · rename_i b hb
                obtain ⟨hyl, A, c, us, rfl, h1, h2, hr, hA⟩ := hs.inv.elems hv hx
                obtain ⟨fz, zs, hg, ht, hq, _⟩ := hv.inv_arr
                have hl : zs.length = tot := by
                  simp only [St.elems, hg] at hx
                  split at hx
                  · assumption
                  · cases hx
                rw [hyl] at hv h1
                have hlm := boundA_le hs hm (Nat.zero_le _)
                have hle := boundA_le hs hhe (Nat.zero_le _)
                have hlb := boundA_le hs hb (Nat.zero_le _)
                rw [hyl]
                have hrun := slice_run (A := A) hu hn (sliceBounds_max (isS := true) (len := n') hs h1 hm hhe hb)
                refine ⟨_, hrun, ?_⟩
                split at h
                · simp only [Option.some.injEq] at h; subst h
                  have h1 : hh = 0 := by omega
                  have h2 : b = 0 := by omega
                  subst h1; subst h2
                  exact HRep.of_rep .cap0
                · simp only [Option.some.injEq] at h; subst h
                  rw [← hce]
                  exact arr_cut hv hg hl hlb hle (by omega) (by omega)
              · cases h
            · cases h
          · cases h
        · cases h
      · cases h
    · cases h
  · cases h
end
end Go.AbsM
end
