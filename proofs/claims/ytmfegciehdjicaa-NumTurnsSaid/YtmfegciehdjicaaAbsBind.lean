/-
  The abstract machine: what a call handed back goes into a slot.
-/
import Derived.Test.YtmfegciehdjicaaAbsFrame
set_option linter.unusedVariables false
set_option linter.unusedSimpArgs false
namespace Go.AbsM

section
variable {P : Program} {w : World} {g : Gh} {may : Nat → Prop} {s s' : St} {a : Act}

def Lone (g : Gh) (S : List Store) (b : Nat) : Prop := (∀ o, ¬ g.M b o) ∧ ∀ i k o, getOb S i k = some o → o.loose = true → g.B i k ≠ b

theorem Lone.create {S : List Store} (hne : S ≠ []) {b b0 c0 k : Nat} {o : Ob} (h : Lone g S b) (hb : b ≠ b0) : Lone (g.new k b0 c0) (createS S k o) b := by
  refine ⟨h.1, fun i j p hp hl he => ?_⟩
  rw [getOb_createS hne] at hp
  by_cases h0 : i = 0
  · subst h0
    rw [if_pos rfl] at hp
    by_cases hj : j = k
    · subst hj
      simp [Gh.new] at he
      exact hb he.symm
    · rw [if_neg hj] at hp
      obtain ⟨q, hq, rfl⟩ := Option.map_eq_some_iff.1 hp
      have hl' : q.loose = true := by cases q <;> exact hl
      refine h.2 0 j q hq hl' ?_
      simpa [Gh.new, hj] using he
  · rw [if_neg h0] at hp
    refine h.2 i j p hp hl ?_
    simpa [Gh.new, h0] using he

theorem own_create (hs : Sim P may s a w g) {e : TypeId} {xs : List AV} {v : Value} {b : Nat} (ho : OwnAt P may w g s.stores e xs v b) (k : Nat) :
    ∃ c0, Sim P may (s.create k (.arr false e xs)) a w (g.new k b c0) ∧ HRep1 P w (g.new k b c0) (createS s.stores k (.arr false e xs)) (.arr 0 k e 0 xs.length xs.length) v := by
  obtain ⟨h1, h2, h3, he, cur, us, cap, c, rfl, hxc, hcm, hcc, hh, hcur, hcap, hxcap, hr, ht⟩ := ho
  refine ⟨cap * P.cellsOf e, hs.createG (Ext.refl w) h1 h2 h3 ⟨rfl, he, cur, us, cap, hh, hcur, rfl, hcap, hxcap, hr, ht⟩, false, xs, ?_, Nat.le_refl _, fun _ => ⟨by omega, _, c, rfl, hxc, hcm, fun _ => by simp [Gh.new], fun _ => ?_⟩, rfl⟩
  · rw [getOb_createS hs.ne]; simp
  · simp [Gh.new]; omega

theorem HRep1.kill {S : List Store} {x : AV} {v : Value} (h : HRep1 P w g S x v) (k : Nat) : HRep1 P w g S (x.kill1 k) v := by
  have cell : ∀ {c : AV} {u : Value}, CRep P w g S c u → CRep P w g S (c.killCell k) u := by
    intro c u h
    cases c with
    | arr i j e lo n tot => cases i with
      | zero => simp only [AV.killCell]; split
                · trivial
                · exact h
      | succ i => exact h
    | ref i j off => cases i with
      | zero => simp only [AV.killCell]; split
                · trivial
                · exact h
      | succ i => exact h
    | ear i j e tot m off => cases i with
      | zero => simp only [AV.killCell]; split
                · trivial
                · exact h
      | succ i => exact h
    | _ => exact h
  cases x with
  | agg cs =>
    obtain ⟨vs, hv, hl, hr⟩ := h
    refine ⟨vs, hv, by simpa using hl, fun i c u hc hu => ?_⟩
    simp only [List.getElem?_map, Option.map_eq_some_iff] at hc
    obtain ⟨c', hc, rfl⟩ := hc
    exact ⟨cell (hr i c' u hc hu).1, (hr i c' u hc hu).2⟩
  | _ =>
    unfold HRep1 at h
    exact HRep1.of_cell (cell h)

theorem HRep1.kills {S : List Store} {v : Value} (n : Nat) : ∀ (k : Nat) {x : AV}, HRep1 P w g S x v → HRep1 P w g S (x.kills k n) v := by
  induction n with
  | zero => intro k x h; exact h
  | succ n ih => intro k x h; exact ih (k + 1) (h.kill k)

theorem AV.kill1_cell (k : Nat) (x : AV) (h : ∀ l, x ≠ .agg l) : x.kill1 k = x.killCell k := by cases x <;> first | rfl | exact absurd rfl (h _)
theorem AV.killCell_comm (k j : Nat) (x : AV) : (x.killCell k).killCell j = (x.killCell j).killCell k := by
  cases x with
  | arr i m e lo n tot => cases i with
    | zero => by_cases h1 : m = k <;> by_cases h2 : m = j <;> simp_all [AV.killCell]
    | succ i => rfl
  | ref i m off => cases i with
    | zero => by_cases h1 : m = k <;> by_cases h2 : m = j <;> simp_all [AV.killCell]
    | succ i => rfl
  | ear i m e tot q off => cases i with
    | zero => by_cases h1 : m = k <;> by_cases h2 : m = j <;> simp_all [AV.killCell]
    | succ i => rfl
  | _ => rfl
theorem AV.kill1_comm (k j : Nat) (x : AV) : (x.kill1 k).kill1 j = (x.kill1 j).kill1 k := by
  cases x with
  | agg cs => simp only [AV.kill1, List.map_map]; congr 2; funext c; exact AV.killCell_comm k j c
  | arr i m e lo n tot => cases i with
    | zero => by_cases h1 : m = k <;> by_cases h2 : m = j <;> simp_all [AV.kill1, AV.killCell]
    | succ i => rfl
  | ref i m off => cases i with
    | zero => by_cases h1 : m = k <;> by_cases h2 : m = j <;> simp_all [AV.kill1, AV.killCell]
    | succ i => rfl
  | ear i m e tot q off => cases i with
    | zero => by_cases h1 : m = k <;> by_cases h2 : m = j <;> simp_all [AV.kill1, AV.killCell]
    | succ i => rfl
  | _ => rfl
theorem AV.kills_kill1 (n : Nat) : ∀ (k j : Nat) (x : AV), (x.kill1 j).kills k n = (x.kills k n).kill1 j := by
  induction n with
  | zero => intro k j x; rfl
  | succ n ih => intro k j x; simp only [AV.kills]; rw [AV.kill1_comm, ih]

theorem kills_own (e : TypeId) (xs : List AV) (n : Nat) : ∀ k, (AV.own e xs).kills k n = .own e xs := by
  induction n with
  | zero => intro k; rfl
  | succ n ih => intro k; exact ih (k + 1)

/-- One of them. -/
theorem inOne_sound (hs : Sim P may s a w g) {x : AV} {v : Value} {b : Nat} (hx : ORep P may w g s.stores x v b) (k : Nat) :
    ∃ g', Sim P may (inOne s k x).1 a w g' ∧ g'.M = g.M ∧ Kp 1 s.stores g (inOne s k x).1.stores g' ∧ HRep1 P w g' (inOne s k x).1.stores (inOne s k x).2 v ∧
      (∀ (y : AV) (u : Value), HRep1 P w g s.stores y u → HRep1 P w g' (inOne s k x).1.stores (y.kill1 k) u) ∧ ∀ c, Lone g s.stores c → ((∃ e xs, x = .own e xs) → c ≠ b) → Lone g' (inOne s k x).1.stores c := by
  by_cases ho : ∃ e xs, x = .own e xs
  · obtain ⟨e, xs, rfl⟩ := ho
    obtain ⟨c0, h1, h2⟩ := own_create hs hx k
    refine ⟨_, h1, rfl, Kp.create hs.ne k _ b c0, h2, fun y u hy => hy.create (Ext.refl w) hs.inv.mlt hs.ne, fun c hc hne => hc.create hs.ne (hne ⟨e, xs, rfl⟩)⟩
  · have h1 : inOne s k x = (s, x) := by cases x <;> first | rfl | exact absurd ⟨_, _, rfl⟩ ho
    rw [h1]
    refine ⟨g, hs, rfl, Kp.refl _ _ _, ?_, fun y u hy => hy.kill k, fun c hc _ => hc⟩
    cases x <;> first | exact hx | exact absurd ⟨_, _, rfl⟩ ho

theorem OwnAt.lone {S : List Store} {e : TypeId} {xs : List AV} {v : Value} {b : Nat} (h : OwnAt P may w g S e xs v b) : Lone g S b := ⟨h.2.1, h.2.2.1⟩
theorem OwnAt.move {S S' : List Store} {g' : Gh} {e : TypeId} {xs : List AV} {v : Value} {b : Nat} (h : OwnAt P may w g S e xs v b) (hM : g'.M = g.M) (hl : Lone g' S' b) : OwnAt P may w g' S' e xs v b := by
  obtain ⟨h1, h2, h3, he, cur, us, cap, c, h4⟩ := h
  exact ⟨h1, hl.1, hl.2, he, cur, us, cap, c, by rw [hM]; exact h4⟩

theorem inAll_sound (hs : Sim P may s a w g) {as : List AV} {vs : List Value} {bl : Nat → Nat} (hl : vs.length = as.length) (hr : ∀ (i : Nat) (c : AV) (u : Value), as[i]? = some c → vs[i]? = some u → ORep P may w g s.stores c u (bl i))
    (hd : ∀ (i j : Nat) (e : TypeId) (xs : List AV) (e' : TypeId) (xs' : List AV), as[i]? = some (.own e xs) → as[j]? = some (.own e' xs') → bl i = bl j → i = j) (k : Nat) :
    ∃ g', Sim P may (inAll s k as).1 a w g' ∧ g'.M = g.M ∧ Kp 1 s.stores g (inAll s k as).1.stores g' ∧ vs.length = (inAll s k as).2.length ∧
      (∀ (i : Nat) (c : AV) (u : Value), (inAll s k as).2[i]? = some c → vs[i]? = some u → HRep1 P w g' (inAll s k as).1.stores c u) ∧
      (∀ (y : AV) (u : Value), HRep1 P w g s.stores y u → HRep1 P w g' (inAll s k as).1.stores (y.kills k as.length) u) ∧
      ∀ c, Lone g s.stores c → (∀ i e xs, as[i]? = some (.own e xs) → c ≠ bl i) → Lone g' (inAll s k as).1.stores c := by
  induction as generalizing k vs bl with
  | nil => exact ⟨g, hs, rfl, Kp.refl _ _ _, hl, fun i c u hc => by simp [inAll] at hc, fun y u hy => hy, fun c hc _ => hc⟩
  | cons x r ih =>
    cases vs with
    | nil => simp at hl
    | cons v us =>
      obtain ⟨g1, h1, hM1, hK1, hl1, hr1, ht1, hlo1⟩ := ih (vs := us) (bl := fun i => bl (i + 1)) (by simpa using hl) (fun i c u hc hu => hr (i + 1) c u (by simpa using hc) (by simpa using hu))
        (fun i j e xs e' xs' hi hj he => by have := hd (i + 1) (j + 1) e xs e' xs' (by simpa using hi) (by simpa using hj) he; omega) (k + 1)
      have hx := hr 0 x v rfl rfl
      have hx1 : ORep P may w g1 (inAll s (k + 1) r).1.stores (x.kills (k + 1) r.length) v (bl 0) := by
        by_cases ho : ∃ e xs, x = .own e xs
        · obtain ⟨e, xs, rfl⟩ := ho
          rw [kills_own]
          refine OwnAt.move hx hM1 (hlo1 _ (OwnAt.lone hx) fun i e' xs' hi he => ?_)
          have := hd 0 (i + 1) e xs e' xs' rfl (by simpa using hi) he
          omega
        · have hx' : HRep1 P w g s.stores x v := by cases x <;> first | exact hx | exact absurd ⟨_, _, rfl⟩ ho
          have := ht1 x v hx'
          unfold ORep
          split
          · rename_i e; rw [e] at this; exact this.elim
          · exact this
      obtain ⟨g2, h2, hM2, hK2, hr2, ht2, hlo2⟩ := inOne_sound h1 hx1 k
      refine ⟨g2, h2, hM2.trans hM1, hK1.trans hK2, by simp [inAll, hl1], fun i c u hc hu => ?_, fun y u hy => ?_, fun c hc hne => ?_⟩
      · simp only [inAll] at hc
        cases i with
        | zero => simp at hc hu; subst hc; subst hu; exact hr2
        | succ i =>
          simp only [List.getElem?_cons_succ, List.getElem?_map, Option.map_eq_some_iff] at hc hu
          obtain ⟨c', hc, rfl⟩ := hc
          exact ht2 c' u (hr1 i c' u hc hu)
      · have := ht2 _ u (ht1 y u hy)
        rw [← AV.kills_kill1] at this
        exact this
      · refine hlo2 c (hlo1 c hc fun i e xs hi => hne (i + 1) e xs (by simpa using hi)) fun ⟨e, xs, he⟩ => ?_
        by_cases ho : ∃ e xs, x = .own e xs
        · obtain ⟨e', xs', rfl⟩ := ho
          exact hne 0 e' xs' rfl
        · exfalso
          rw [he] at hx1
          have hx' : HRep1 P w g s.stores x v := by cases x <;> first | exact hx | exact absurd ⟨_, _, rfl⟩ ho
          have := ht1 x v hx'
          rw [he] at this
          exact this.elim

theorem bindA_sound (hs : Sim P may s a w g) {r : AV} {v : Value} (hr : ResRep P may w g s.stores r v) (d : Option Nat) : Leaves P may s w g (bindA s d r) (a.put d v) w := by
  cases d with
  | none => exact .same hs rfl
  | some k =>
    by_cases ht : ∃ as, r = .tup as
    · obtain ⟨as, rfl⟩ := ht
      obtain ⟨vs, rfl, hl, bl, h1, h2⟩ := hr
      obtain ⟨g', q1, q2, q3, q4, q5, _⟩ := inAll_sound hs hl h1 h2 (home k 0)
      refine ⟨g', q1.put (x := .tup (inAll s (home k 0) as).2) ⟨vs, rfl, q4, q5⟩ (some k), ?_, q3⟩
      rw [q2]; exact Fr.refl _ _ _
    · obtain ⟨b, ho⟩ : ∃ b, ORep P may w g s.stores r v b := by cases r <;> first | exact hr | exact absurd ⟨_, rfl⟩ ht
      obtain ⟨g', q1, q2, q3, q4, _⟩ := inOne_sound hs ho k
      have hb : bindA s (some k) r = (inOne s k r).1.put (some k) (inOne s k r).2 := by cases r <;> first | rfl | exact absurd ⟨_, rfl⟩ ht
      rw [hb]
      refine ⟨g', q1.put (HRep.of_one q4 fun l e => ?_) (some k), ?_, ?_⟩
      · rw [e] at q4; exact q4.elim
      · rw [q2]; exact Fr.refl _ _ _
      · rw [put_stores]; exact q3
end
end Go.AbsM
