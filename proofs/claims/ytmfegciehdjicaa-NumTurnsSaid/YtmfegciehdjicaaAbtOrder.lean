/-
  The abstract machine: regions whose order is open: a quicker check, by numbers as sets of operations.
-/
import Derived.Test.YtmfegciehdjicaaAbsMono
set_option linter.unusedVariables false
set_option linter.unusedSimpArgs false
namespace Go.AbsM

def predM (o : Oper) : Nat := o.after.toList.foldl (fun m e => if Region.binds .any e then m ||| (1 <<< e.on) else m) 0

def candM (i : Nat) : List Nat → Nat → Nat → Nat
  | [], _, m => m
  | p :: r, j, m => candM i r (j + 1) (if j < i then m ||| (1 <<< j) else if j = i then m else if p &&& m = p then m ||| (1 <<< j) else m)

def closM (i m : Nat) : List Nat → Nat → Bool
  | [], _ => true
  | p :: r, j => (m.testBit j || j == i || (p &&& m) != p) && closM i m r (j + 1)

def commM (solo : Oper → Bool) (ops : Array Oper) (i m : Nat) : List Nat → Bool
  | [] => true
  | j :: r => (!m.testBit j || decide (j < i) || commB solo ops i j) && commM solo ops i m r

def oneM (solo : Oper → Bool) (ops : Array Oper) (ps : List Nat) (i : Nat) : Bool :=
  let m := candM i ps 0 0
  let p := ps.getD i 0
  (p &&& (2 ^ i - 1)) == p && (List.range i).all (m.testBit ·) && closM i m ps 0 && commM solo ops i m (List.range ops.size)

def allM (solo : Oper → Bool) (ops : Array Oper) (ps : List Nat) : List Nat → Bool
  | [] => true
  | i :: r => oneM solo ops ps i && allM solo ops ps r

/-- May the order be left open? -/
def drawM (solo : Oper → Bool) (ops : Array Oper) : Bool := allM solo ops (ops.toList.map predM) (List.range ops.size)

theorem predM_fold (l : List Edge) (m b : Nat) : (l.foldl (fun m e => if Region.binds .any e then m ||| (1 <<< e.on) else m) m).testBit b = (m.testBit b || l.any fun e => Region.binds .any e && e.on == b) := by
  induction l generalizing m with
  | nil => simp
  | cons e r ih =>
    rw [List.foldl_cons, ih, List.any_cons]
    by_cases hb : Region.binds .any e = true
    · rw [if_pos hb, Nat.testBit_or, hb]
      have : (1 <<< e.on).testBit b = (e.on == b) := by
        rw [Nat.testBit_shiftLeft]
        by_cases h : e.on = b
        · subst h; simp
        · by_cases h2 : e.on ≤ b
          · have : b - e.on ≠ 0 := by omega
            obtain ⟨c, hc⟩ : ∃ c, b - e.on = c + 1 := ⟨b - e.on - 1, by omega⟩
            simp [hc, Nat.testBit_succ, h]
          · simp [h2, h]
      rw [this]; simp [Bool.or_assoc]
    · rw [if_neg hb]
      simp [hb]

theorem predM_bit (o : Oper) (b : Nat) : (predM o).testBit b = o.after.toList.any fun e => Region.binds .any e && e.on == b := by
  unfold predM
  rw [predM_fold]; simp

theorem sub_and {p m : Nat} (h : ∀ b, p.testBit b = true → m.testBit b = true) : p &&& m = p := by
  apply Nat.eq_of_testBit_eq
  intro b
  rw [Nat.testBit_and]
  cases hp : p.testBit b with
  | false => rfl
  | true => rw [h b hp]; rfl
theorem and_sub {p m : Nat} (h : p &&& m = p) (b : Nat) (hb : p.testBit b = true) : m.testBit b = true := by
  rw [← h, Nat.testBit_and] at hb
  simp at hb; exact hb.2

theorem closM_spec {i m : Nat} : ∀ (ps : List Nat) (j0 : Nat), closM i m ps j0 = true → ∀ (j p : Nat), ps[j]? = some p → m.testBit (j0 + j) = true ∨ j0 + j = i ∨ (p &&& m) ≠ p
  | [], _, _, j, p, hj => by simp at hj
  | q :: r, j0, h, j, p, hj => by
    simp only [closM, Bool.and_eq_true, Bool.or_eq_true, beq_iff_eq, bne_iff_ne] at h
    cases j with
    | zero =>
      simp at hj; subst hj
      rcases h.1 with (h1 | h1) | h1
      · exact .inl h1
      · exact .inr (.inl h1)
      · exact .inr (.inr h1)
    | succ j =>
      have := closM_spec r (j0 + 1) h.2 j p (by simpa using hj)
      rw [show j0 + (j + 1) = j0 + 1 + j by omega]
      exact this

theorem commM_spec {solo : Oper → Bool} {ops : Array Oper} {i m : Nat} {l : List Nat} (h : commM solo ops i m l = true) (j : Nat) (hj : j ∈ l) : m.testBit j = false ∨ j < i ∨ commB solo ops i j = true := by
  induction l with
  | nil => cases hj
  | cons a r ih =>
    simp only [commM, Bool.and_eq_true, Bool.or_eq_true, Bool.not_eq_true', decide_eq_true_eq] at h
    rcases List.mem_cons.1 hj with rfl | hj
    · rcases h.1 with (h1 | h1) | h1
      · exact .inl h1
      · exact .inr (.inl h1)
      · exact .inr (.inr h1)
    · exact ih h.2 hj

theorem allM_spec {solo : Oper → Bool} {ops : Array Oper} {ps l : List Nat} (h : allM solo ops ps l = true) (i : Nat) (hi : i ∈ l) : oneM solo ops ps i = true := by
  induction l with
  | nil => cases hi
  | cons a r ih =>
    simp only [allM, Bool.and_eq_true] at h
    rcases List.mem_cons.1 hi with rfl | hi
    · exact h.1
    · exact ih h.2 hi

section
variable {ops : Array Oper} {st : Oper → St → Option St}

def maskA (n m : Nat) : Array Bool := ((List.range n).map fun j => m.testBit j).toArray
theorem maskA_size (n m : Nat) : (maskA n m).size = n := by simp [maskA]
theorem maskA_get (n m j : Nat) (d : Bool) : (maskA n m).getD j d = if j < n then m.testBit j else d := by
  rw [Array.getD_eq_getD_getElem?]
  unfold maskA
  rw [List.getElem?_toArray, List.getElem?_map]
  by_cases h : j < n
  · rw [List.getElem?_range h]; simp [h]
  · rw [List.getElem?_eq_none (by simp; omega)]; simp [h]

theorem AnyA.lexM {solo : Oper → Bool} (hc : ∀ i j, commB solo ops i j = true → Comm (ab st ops) i j) (hB : drawM solo ops = true) : ∀ (n k : Nat) (listed : Array Bool) (s s' : St), k + n = ops.size → listed.size = ops.size →
    (∀ j, j < ops.size → listed.getD j false = decide (j < k)) → opsA st ops (List.range' k n) s = some s' → AnyA (ab st ops) ops n listed s s' := by
  intro n
  induction n with
  | zero =>
    intro k listed s s' hk hsz hl h
    simp only [List.range'_zero, opsA, Option.some.injEq] at h
    refine ⟨?_, h⟩
    cases hr : Region.ready .any ops listed with
    | nil => rfl
    | cons x xs =>
      have hx : x ∈ Region.ready .any ops listed := by rw [hr]; exact List.mem_cons_self
      obtain ⟨h1, o, ho, _⟩ := mem_ready.1 hx
      have hxs : x < ops.size := (Array.getElem?_eq_some_iff.1 ho).1
      have := hl x hxs
      rw [decide_eq_true (by omega)] at this
      have hx2 : x < listed.size := by omega
      simp [hx2] at h1 this
      rw [h1] at this; cases this
  | succ n ih =>
    intro k listed s s' hk hsz hl h
    have hks : k < ops.size := by omega
    have h1 := allM_spec hB k (List.mem_range.2 hks)
    simp only [oneM, Bool.and_eq_true, beq_iff_eq, List.all_eq_true, List.mem_range] at h1
    obtain ⟨⟨⟨q1, q2⟩, q3⟩, q4⟩ := h1
    rw [List.range'_succ, opsA_cons] at h
    cases hab : ab st ops k s with
    | none => rw [hab] at h; cases h
    | some s1 =>
      rw [hab] at h
      have hget : ∀ (j : Nat) (o : Oper), ops[j]? = some o → (ops.toList.map predM)[j]? = some (predM o) := by
        intro j o ho
        rw [List.getElem?_map, Array.getElem?_toList, ho]; rfl
      have hready : k ∈ Region.ready .any ops listed := by
        refine mem_ready.2 ⟨?_, ops[k], Array.getElem?_eq_getElem hks, fun e he hb => ?_⟩
        · have := hl k hks
          have hkl : k < listed.size := by omega
          simp [hkl] at this ⊢; exact this
        · have hp : (ops.toList.map predM).getD k 0 = predM ops[k] := by
            rw [List.getD_eq_getElem?_getD, hget k _ (Array.getElem?_eq_getElem hks)]; rfl
          rw [hp] at q1
          have hbit : (predM ops[k]).testBit e.on = true := by
            rw [predM_bit]
            exact List.any_eq_true.2 ⟨e, by simpa using he, by simp [hb]⟩
          have := and_sub q1 _ hbit
          rw [Nat.testBit_two_pow_sub_one] at this
          have hlt : e.on < k := by simpa using this
          rw [hl e.on (by omega)]; simpa using hlt
      refine AnyA.first (R := maskA ops.size (candM k (ops.toList.map predM) 0 0)) (listed0 := listed) (maskA_size _ _) (fun j hj => ?_) (fun j hj hlj => ?_) n listed s s1 s' (fun j hj => ?_) (fun j hj => hj) hready hab (ih (k + 1) _ _ _ (by omega) (by simp [hsz]) (fun j hj => ?_) h)
      · obtain ⟨r1, o, ho, r2⟩ := mem_ready.1 hj
        have hjs : j < ops.size := (Array.getElem?_eq_some_iff.1 ho).1
        rw [maskA_get, if_pos hjs] at r1
        rcases closM_spec _ 0 q3 j _ (hget j o ho) with h' | h' | h'
        · rw [Nat.zero_add] at h'; rw [h'] at r1; cases r1
        · omega
        · refine absurd (sub_and fun b hb => ?_) h'
          rw [predM_bit, List.any_eq_true] at hb
          obtain ⟨e, he, hbb⟩ := hb
          simp only [Bool.and_eq_true, beq_iff_eq] at hbb
          have := r2 e (by simpa using he) hbb.1
          rw [maskA_get] at this
          rw [hbb.2] at this
          split at this
          · exact this
          · cases this
      · rw [maskA_get] at hj
        split at hj
        · rename_i hjs
          rcases commM_spec q4 j (List.mem_range.2 hjs) with h' | h' | h'
          · rw [h'] at hj; cases hj
          · have := hl j hjs
            rw [decide_eq_true h'] at this
            have hjl : j < listed.size := by omega
            simp [hjl] at this hlj
            rw [this] at hlj; cases hlj
          · exact hc k j h'
        · cases hj
      · rw [maskA_get]
        have hjs : j < ops.size := by
          rcases Nat.lt_or_ge j listed.size with h' | h'
          · omega
          · simp [Array.getElem?_eq_none h'] at hj
        rw [if_pos hjs]
        have := hl j hjs
        rw [hj] at this
        exact q2 j (by simpa using this.symm)
      · by_cases hjk : k = j
        · subst hjk
          have hkl : k < listed.size := by omega
          simp [Array.getD, hkl]
        · rw [getD_set_ne false hjk, hl j hj]
          congr 1
          apply propext
          omega

variable {P : Program} {E : Env}
/-- **Every order does the same**, where the quick check says so. -/
theorem draw_okM {ops : Array Oper} (h : drawM E.solo ops = true) (rec : Rec) (s s1 : St) (t : Nat) (hr : opsA (fun o s => drawOp P E rec s o) ops (List.range ops.size) s = some s1) :
    opsA (fun o s => drawOp P E rec s o) ops (Region.schedule true ops t) s = some s1 := by
  have hsch : Region.schedule true ops t = Region.linearise.go .any ops ops.size t (Array.replicate ops.size false) [] := by simp [Region.schedule, Region.linearise]
  rw [hsch]
  refine AnyA.sound _ _ _ _ _ (AnyA.lexM (solo := E.solo) (fun i j hc => ?_) h ops.size 0 _ s s1 (by omega) (by simp) (fun j hj => by simp [Array.getD, hj]) (by rw [← List.range_eq_range']; exact hr))
  unfold commB at hc
  split at hc
  · rename_i x y hi hj
    simp only [Bool.and_eq_true, Bool.not_eq_true'] at hc
    obtain ⟨⟨h1, h2⟩, h3⟩ := hc
    have dep : ∀ {o : Oper}, E.solo o = false → Dep (fun o s => drawOp P E rec s o) ops o := by
      intro o ho s s1 h
      simp only [drawOp, ho, Bool.false_eq_true, if_false] at h
      obtain ⟨v, hv, hq⟩ := quiet_dep (ops := ops) s s1 h
      exact ⟨v, hv, fun s' hs hl => by simp only [drawOp, ho, Bool.false_eq_true, if_false]; exact hq s' hs hl⟩
    exact comm_of_dep hi hj (dep h1) (dep h2) h3
  · cases hc
end
end Go.AbsM
