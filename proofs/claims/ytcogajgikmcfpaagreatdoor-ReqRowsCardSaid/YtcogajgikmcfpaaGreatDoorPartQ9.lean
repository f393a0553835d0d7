/-
  Texts of a proof over the translated program: proved evaluators and walks, part 9 of 23.
-/
import Derived.Test.YtcogajgikmcfpaaGreatDoorPartQ8
import Derived.Below
import Derived.Great.BuildSlice
import Derived.Laws.CopyRow
import Derived.Laws.IdiomStrings
import Derived.Lib.Bytealg
import Derived.Lib.ItoaNum
import Derived.Lib.Join
import Derived.Lib.ParseIntB
import Derived.MapKept
import Derived.Orders
import Derived.WalkKit
set_option linter.unusedVariables false
set_option linter.unusedSimpArgs false
set_option linter.unusedSectionVars false
set_option linter.unnecessarySimpa false
section
namespace Go.FM
noncomputable section
open Go.RowKit (Below)
def idxH : Hook := fun args h c => match args with
  | [x, y] => match x, y with
    | .str n d, .int k (.ofNat b) => if ikEq k .u8 then .ok (.int .i64 (Lib.indexByte (bytesOf n d) b.toUInt8)) h c else .x 111
    | _, _ => .x 112
  | _ => .x 113
def strsOf : List HV → Option (List (List UInt8))
  | [] => some []
  | v :: r => match v with
    | .str n d => match strsOf r with
      | some l => some (bytesOf n d :: l)
      | none => none
    | _ => none
def strL (l : List UInt8) : HV := .str l.length (packB l)
def joinH (D : Nat) : Hook := fun args h c => match args with
  | [x, y] => match x, y with
    | .slc k o n es cl, .str m sp => if Nat.beq es 1 && Nat.blt n 1000 then match (HT.get D k h).body with
        | .cells cs => match strsOf ((cs.drop o).take n) with
          | some xs => if Nat.beq xs.length n && Nat.blt (Lib.join xs (bytesOf m sp)).length 1000000 then .ok (strL (Lib.join xs (bytesOf m sp))) h c else .x 114
          | none => .x 115
        | _ => .x 116 else .x 117
    | _, _ => .x 118
  | _ => .x 119
def digL (v : Int) : List UInt8 := match v with
  | .ofNat n => [(48 + n).toUInt8]
  | .negSucc n => [45, (49 + n).toUInt8]
def fmtH : Hook := fun args h c => match args with
  | [x, y] => match x, y with
    | .int k v, .int k' z => if ikEq k .i64 && (ikEq k' .i64 && (decide (z = 10) && (decide (-10 < v) && decide (v < 10)))) then .ok (strL (digL v)) h c else .x 121
    | _, _ => .x 122
  | _ => .x 123
def intH : Hook := fun args h c => match args with
  | [x, y, u] => match x, y, u with
    | .str n d, .int k z, .int k' z' => if ikEq k .i64 && (ikEq k' .i64 && (decide (z = 10) && (decide (z' = 64) && Nat.blt n 1000))) then match Lib.parseIntB 64 (bytesOf n d) with
        | .ok v => .ok (.tup [.int .i64 v, .nili]) h c
        | _ => .x 124 else .x 125
    | _, _, _ => .x 126
  | _ => .x 127
end
noncomputable section
open Go.RowKit (Below)
variable [Env] {Pr : Program} {D : Nat} {f : FuncId}
def Kept (w : World) : Prop := ∀ b o, Env.keep b = some o → w.heap[b]? = some o
theorem HOk.kept {g : Gm} {h : HT} {c : Nat} {w : World} (hi : HOk D g h c w) : Kept w := fun b o hb => (hi.kp b o hb).1
theorem bytesOf_len (n d : Nat) : (bytesOf n d).length = n := by simp [bytesOf]
theorem strL_rep {g : Gm} {c : Nat} (l : List UInt8) : TRep g c (strL l) (.string ⟨l.toArray⟩) := by
  refine ⟨packB_lt l, ?_⟩
  show _ = Value.string ⟨(bytesOf l.length (packB l)).toArray⟩
  rw [bytesOf_packB]
theorem two {g : Gm} {c : Nat} {x y : HV} {vs : List Value} (ha : TReps g c [x, y] vs) : ∃ u v, vs = [u, v] ∧ TRep g c x u ∧ TRep g c y v := by
  obtain ⟨u, v, rfl⟩ : ∃ u v, vs = [u, v] := by
    obtain ⟨u, r, rfl⟩ := List.exists_cons_of_length_pos (show 0 < vs.length by rw [ha.1]; simp)
    have := ha.1
    obtain ⟨v, rfl⟩ := List.length_eq_one_iff.1 (show r.length = 1 by simpa using this)
    exact ⟨u, v, rfl⟩
  exact ⟨u, v, rfl, ha.2 0 x u rfl rfl, ha.2 1 y v rfl rfl⟩
theorem three {g : Gm} {c : Nat} {x y z : HV} {vs : List Value} (ha : TReps g c [x, y, z] vs) : ∃ u v t, vs = [u, v, t] ∧ TRep g c x u ∧ TRep g c y v ∧ TRep g c z t := by
  obtain ⟨u, v, t, rfl⟩ : ∃ u v t, vs = [u, v, t] := by
    obtain ⟨u, r, rfl⟩ := List.exists_cons_of_length_pos (show 0 < vs.length by rw [ha.1]; simp)
    have := ha.1
    obtain ⟨v, r, rfl⟩ := List.exists_cons_of_length_pos (show 0 < r.length by simp at this; omega)
    obtain ⟨t, rfl⟩ := List.length_eq_one_iff.1 (show r.length = 1 by simpa using this)
    exact ⟨u, v, t, rfl⟩
  exact ⟨u, v, t, rfl, ha.2 0 x u rfl rfl, ha.2 1 y v rfl rfl, ha.2 2 z t rfl rfl⟩
theorem idxH_ok (hb : Body Pr f) (hc : ∀ (s : ByteArray) (c : Int) (w : World), Calls Pr f #[.string s, .int .u8 c] w fun e w' => e = .returned (.int .i64 (Lib.indexByte s.data.toList c.toNat.toUInt8)) ∧ w' = w) : HookOk Pr D f idxH := by
  intro args h c v h' c' he hv
  refine ⟨hb, ?_⟩
  unfold idxH at he
  split at he
  · split at he
    · rename_i n d k b
      split at he
      · rename_i hk
        simp only [CR.ok.injEq] at he
        obtain ⟨rfl, rfl, rfl⟩ := he
        cases ikEq_eq hk
        refine CallT.still (v0 := .int .i64 (Lib.indexByte (bytesOf n d) b.toUInt8)) (fun g => rfl) fun w g vs hi ha => ?_
        obtain ⟨u, y, rfl, h1, h2⟩ := two ha
        have e1 : u = strOf n d := h1.2
        have e2 : y = .int .u8 (Int.ofNat b) := h2
        subst e1; subst e2
        refine (hc ⟨(bytesOf n d).toArray⟩ (Int.ofNat b) w).mono ?_
        rintro e w' ⟨rfl, rfl⟩
        exact ⟨rfl, Below.refl _ _⟩
      · cases he
    · cases he
  · cases he
theorem strsOf_get : ∀ {cs : List HV} {xs : List (List UInt8)}, strsOf cs = some xs → xs.length = cs.length ∧ ∀ (j : Nat) x, xs[j]? = some x → ∃ n d, cs[j]? = some (.str n d) ∧ x = bytesOf n d
  | [], xs, h => by cases h; exact ⟨rfl, fun j x hx => by simp at hx⟩
  | v :: r, xs, h => by
    cases v <;> simp only [strsOf] at h <;> try (cases h; done)
    rename_i n d
    cases hr : strsOf r with
    | none => rw [hr] at h; cases h
    | some l =>
      rw [hr] at h
      simp only [Option.some.injEq] at h
      subst h
      obtain ⟨h1, h2⟩ := strsOf_get hr
      refine ⟨by simp [h1], fun j x hx => ?_⟩
      cases j with
      | zero => exact ⟨n, d, rfl, by simpa using hx.symm⟩
      | succ j => simpa using h2 j x (by simpa using hx)
theorem joinH_ok (hb : Body Pr f) (hc : ∀ (bk o c : Nat) (xs : List ByteArray) (sep : ByteArray) (w : World), (∀ (j : Nat) x, xs[j]? = some x → w.cell? ⟨bk, o + j, none⟩ = some (.string x)) → bk < w.heap.size → xs.length ≤ 140737488355328 → xs.length ≤ c → (Lib.join (xs.map (·.data.toList)) sep.data.toList).length ≤ 140737488355328 →
    Calls Pr f #[.slice (some ⟨bk, o, none⟩) xs.length c, .string sep] w fun e w' => e = .returned (.string ⟨(Lib.join (xs.map (·.data.toList)) sep.data.toList).toArray⟩) ∧ Below w.heap.size w w')
    (hn : ∀ (A : Option Addr) (c : Nat) (sep : ByteArray) (w : World), Calls Pr f #[.slice A 0 c, .string sep] w fun e w' => e = .returned (.string ⟨#[]⟩) ∧ w' = w) : HookOk Pr D f (joinH D) := by
  intro args h c v h' c' he hv
  refine ⟨hb, ?_⟩
  unfold joinH at he
  split at he
  · split at he
    · rename_i k o n es cl m sp
      split at he
      · rename_i hes
        simp only [Bool.and_eq_true] at hes
        have := Nat.eq_of_beq_eq_true hes.1
        subst this
        have hn1 : n < 1000 := Nat.le_of_ble_eq_true hes.2
        split at he
        · rename_i cs hcs
          split at he
          · rename_i xs hxs
            split at he
            · rename_i hl
              simp only [Bool.and_eq_true] at hl
              have hlen : xs.length = n := Nat.eq_of_beq_eq_true hl.1
              have hsz : (Lib.join xs (bytesOf m sp)).length < 1000000 := Nat.le_of_ble_eq_true hl.2
              simp only [CR.ok.injEq] at he
              obtain ⟨rfl, rfl, rfl⟩ := he
              refine CallT.still (fun g => strL_rep _) fun w g vs hi ha => ?_
              obtain ⟨u, y, rfl, h1, h2⟩ := two ha
              have e2 : y = strOf m sp := h2.2
              subst e2
              obtain ⟨hk, A, mm, rfl, q1, q2, q3, q4, q5, q6, q7, q8⟩ := h1
              obtain ⟨t1, t2⟩ := strsOf_get hxs
              have hbk := hi.body hk.1 hcs (by simp)
              obtain ⟨vs, t, r1, r2, r3, r4⟩ := hbk.plain rfl
              have hcount : (Nat.mul n 1) = n := Nat.mul_one n
              rcases Nat.eq_zero_or_pos n with h0 | h0
              · subst h0
                have hx0 : xs = [] := List.length_eq_zero_iff.1 hlen
                subst hx0
                refine (hn A mm ⟨(bytesOf m sp).toArray⟩ w).mono ?_
                rintro e w' ⟨rfl, rfl⟩
                exact ⟨rfl, Below.refl _ _⟩
              · have hA := q8 (by omega)
                subst hA
                have cells : ∀ (j : Nat) x, (xs.map fun l => (⟨l.toArray⟩ : ByteArray))[j]? = some x → w.cell? ⟨(g k).b, (g k).o + o + j, none⟩ = some (.string x) := by
                  intro j x hx
                  rw [List.getElem?_map] at hx
                  cases hxj : xs[j]? with
                  | none => rw [hxj] at hx; cases hx
                  | some l =>
                    rw [hxj] at hx
                    have hx : (⟨l.toArray⟩ : ByteArray) = x := Option.some.inj hx
                    subst hx
                    obtain ⟨nn, dd, s1, rfl⟩ := t2 j l hxj
                    have hj : j < n := by rw [← hlen]; exact (List.getElem?_eq_some_iff.1 hxj).1
                    rw [List.getElem?_take_of_lt hj, List.getElem?_drop] at s1
                    have hrow : (At.row (g k) vs).length = cs.length := r4.1
                    have hlt : o + j < cs.length := (List.getElem?_eq_some_iff.1 s1).1
                    have hz := hbk.zero
                    have hu : (At.row (g k) vs)[o + j]? = some ((At.row (g k) vs)[o + j]'(by rw [hrow]; exact hlt)) := List.getElem?_eq_getElem _
                    have hrep := (r4.2 (o + j) _ _ s1 hu).1
                    have hval : (At.row (g k) vs)[o + j]'(by rw [hrow]; exact hlt) = strOf nn dd := hrep.2
                    rw [hval] at hu
                    unfold At.row at hu
                    rw [List.getElem?_take_of_lt (by omega), List.getElem?_drop] at hu
                    have hg : vs[(g k).o + o + j]? = some (strOf nn dd) := by rw [show (g k).o + o + j = (g k).o + (o + j) by omega]; exact hu
                    simp only [World.cell?, r1]
                    simpa [strOf] using hg
                have := hc (g k).b ((g k).o + o) mm (xs.map fun l => (⟨l.toArray⟩ : ByteArray)) ⟨(bytesOf m sp).toArray⟩ w cells hbk.lt (by simp; omega) (by simp; omega) (by simp [List.map_map, Function.comp_def]; omega)
                simp only [List.length_map, hlen, List.map_map, Function.comp_def] at this
                refine this.mono ?_
                rintro e w' ⟨rfl, hb⟩
                exact ⟨by simp, hb⟩
            · cases he
          · cases he
        · cases he
      · cases he
    · cases he
  · cases he
theorem digL_eq {v : Int} (h1 : -10 < v) (h2 : v < 10) : Lib.itoa v = digL v := by
  have key : ∀ u : Nat, u < 10 → Lib.decDigits u = [UInt8.ofNat (48 + u)] := fun u hu => by rw [Lib.decDigits, dif_pos hu]
  unfold Lib.itoa digL
  cases v with
  | ofNat n =>
    rw [if_neg (by show ¬ ((n : Int) < 0); omega)]
    show Lib.decDigits n = _
    rw [key n (by have : (n : Int) < 10 := h2; omega)]
  | negSucc n =>
    rw [if_pos (Int.negSucc_lt_zero n)]
    show 45 :: Lib.decDigits (n + 1) = _
    rw [key (n + 1) (by omega), show 48 + (n + 1) = 49 + n by omega]
theorem fmtH_ok (hb : Body Pr f) (hc : ∀ (n : Int) (w : World), -9223372036854775808 ≤ n → n ≤ 9223372036854775807 → Kept w → Calls Pr f #[.int .i64 n, .int .i64 10] w fun e w' => e = .returned (.string ⟨(Lib.itoa n).toArray⟩) ∧ Below w.heap.size w w') : HookOk Pr D f fmtH := by
  intro args h c v h' c' he hv
  refine ⟨hb, ?_⟩
  unfold fmtH at he
  split at he
  · split at he
    · rename_i k v k' z
      split at he
      · rename_i hk
        simp only [Bool.and_eq_true, decide_eq_true_eq] at hk
        obtain ⟨h1, h2, h3, h4, h5⟩ := hk
        simp only [CR.ok.injEq] at he
        obtain ⟨rfl, rfl, rfl⟩ := he
        cases ikEq_eq h1; cases ikEq_eq h2; subst h3
        refine CallT.still (fun g => strL_rep _) fun w g vs hi ha => ?_
        obtain ⟨u, y, rfl, q1, q2⟩ := two ha
        have e1 : u = .int .i64 v := q1
        have e2 : y = .int .i64 10 := q2
        subst e1; subst e2
        have := hc v w (by omega) (by omega) hi.kept
        rw [digL_eq h4 h5] at this
        exact this
      · cases he
    · cases he
  · cases he
theorem intH_ok (hb : Body Pr f) (hc : ∀ (s : ByteArray) (v : Int) (w : World), s.size ≤ 9223372036854775806 → Lib.parseIntB 64 s.data.toList = .ok v → Calls Pr f #[.string s, .int .i64 10, .int .i64 64] w fun e w' => e = .returned (.tuple #[.int .i64 v, .nilIface]) ∧ Below w.heap.size w w') : HookOk Pr D f intH := by
  intro args h c v h' c' he hv
  refine ⟨hb, ?_⟩
  unfold intH at he
  split at he
  · split at he
    · rename_i n d k z k' z'
      split at he
      · rename_i hk
        simp only [Bool.and_eq_true, decide_eq_true_eq] at hk
        obtain ⟨h1, h2, h3, h4, h5⟩ := hk
        have h5 : n < 1000 := Nat.le_of_ble_eq_true h5
        cases ikEq_eq h1; cases ikEq_eq h2; subst h3; subst h4
        split at he
        · rename_i v hp
          simp only [CR.ok.injEq] at he
          obtain ⟨rfl, rfl, rfl⟩ := he
          refine CallT.still (v0 := .tuple #[.int .i64 v, .nilIface]) (fun g => ⟨[.int .i64 v, .nilIface], rfl, rfl, fun i x u hx hu => ?_⟩) fun w g vs hi ha => ?_
          · rcases i with _ | _ | i
            · simp at hx hu; subst hx; subst hu; rfl
            · simp at hx hu; subst hx; subst hu; rfl
            · simp at hx
          · obtain ⟨u, y, t, rfl, q1, q2, q3⟩ := three ha
            have e1 : u = strOf n d := q1.2
            have e2 : y = .int .i64 10 := q2
            have e3 : t = .int .i64 64 := q3
            subst e1; subst e2; subst e3
            exact hc ⟨(bytesOf n d).toArray⟩ v w (by simp [ByteArray.size, bytesOf_len]; omega) hp
        · cases he
      · cases he
    · cases he
  · cases he
end
end Go.FM
end
