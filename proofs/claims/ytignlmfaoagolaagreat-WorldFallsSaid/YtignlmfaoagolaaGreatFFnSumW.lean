/-
  Texts of a proof over the translated program: FnSumW.
-/
import Derived.Test.YtignlmfaoagolaaGreatLibF5
set_option linter.unusedVariables false
set_option linter.unusedSimpArgs false
set_option linter.unusedSectionVars false
namespace Go.FM
noncomputable section
open Go.RowKit (Below)
def kcW : Nat := 3988292384
def cstepN (s : Nat) : Nat := if s % 2 = 1 then (s / 2) ^^^ kcW else s / 2
def citerN : Nat → Nat → Nat
  | 0, s => s
  | n + 1, s => citerN n (cstepN s)
def crcN (s : Nat) : List Int → Nat
  | [] => s
  | x :: r => crcN (citerN 8 (s ^^^ x.toNat)) r
def isBytes (l : List Int) : Prop := ∀ x ∈ l, 0 ≤ x ∧ x < 256
theorem cstepN_lt {s : Nat} (h : s < 4294967296) : cstepN s < 4294967296 := by
  unfold cstepN
  split
  · exact Nat.xor_lt_two_pow (n := 32) (by omega) (by decide)
  · omega
theorem citerN_lt : ∀ (n s : Nat), s < 4294967296 → citerN n s < 4294967296
  | 0, s, h => h
  | n + 1, s, h => citerN_lt n _ (cstepN_lt h)
theorem crcN_lt : ∀ (l : List Int) (s : Nat), isBytes l → s < 4294967296 → crcN s l < 4294967296
  | [], s, _, h => h
  | x :: r, s, hb, h => crcN_lt r _ (fun y hy => hb y (List.mem_cons_of_mem _ hy)) (citerN_lt _ _ (Nat.xor_lt_two_pow (n := 32) h (by have := hb x List.mem_cons_self; omega)))
theorem citer_succ : ∀ (k s : Nat), citerN (k + 1) s = cstepN (citerN k s)
  | 0, s => rfl
  | k + 1, s => by
    show citerN (k + 1) (cstepN s) = _
    rw [citer_succ k]; rfl
theorem crcN_snoc : ∀ (l : List Int) (x : Int) (s : Nat), crcN s (l ++ [x]) = citerN 8 (crcN s l ^^^ x.toNat)
  | [], _, _ => rfl
  | y :: r, x, s => by
    show crcN (citerN 8 (s ^^^ y.toNat)) (r ++ [x]) = _
    rw [crcN_snoc r]; rfl
def sumAt (l : List Int) (i : Nat) : Nat := crcN 4294967295 (l.take i)
theorem sumAt_succ (l : List Int) (i : Nat) (h : i < l.length) : sumAt l (i + 1) = citerN 8 (sumAt l i ^^^ (l.getD i 0).toNat) := by
  unfold sumAt
  rw [List.take_succ_eq_append_getElem h, crcN_snoc]
  simp [List.getD_eq_getElem?_getD, h]
theorem sumAt_lt {l : List Int} (hb : isBytes l) (i : Nat) : sumAt l i < 4294967296 := crcN_lt _ _ (fun x hx => hb x (List.mem_of_mem_take hx)) (by decide)
def sumI (l : List Int) : Int := 4294967295 - (crcN 4294967295 l : Nat)
def SumSpec (P : Program) (f : FuncId) : Prop := ∀ (A : Addr) (n m : Nat) (l : List Int), l.length = n → isBytes l → n < 1000000 → ∀ w : World, (∀ i, i < n → w.cell? (A.add i) = some (.int .u8 (l.getD i 0))) →
  Calls P f #[.slice (some A) n m] w fun e w' => e = .returned (.int .u32 (sumI l)) ∧ w' = w
def s1 (s : Nat) : Nat := Nat.xor (Nat.div s 2) (Nat.mul kcW (Nat.mod s 2))
def s8 (s : Nat) : Nat := forceN (s1 (s1 s)) fun s => forceN (s1 (s1 s)) fun s => forceN (s1 (s1 s)) fun s => s1 (s1 s)
def sumL (n : Nat) : Nat → Nat → Nat := Nat.rec (motive := fun _ => Nat → Nat → Nat) (fun _ s => s) (fun _ ih d s => forceN (Nat.div d 256) fun d' => forceN (s8 (Nat.xor s (Nat.mod d 256))) fun s' => ih d' s') n
def sumV (n d : Nat) : HV := forceN (Nat.sub 4294967295 (sumL n d 4294967295)) fun r => .int .u32 (.ofNat r)
def bytI (n d : Nat) : List Int := (bytesOf n d).map fun b => (b.toNat : Int)
theorem s1_eq (s : Nat) : s1 s = cstepN s := by
  have e : s1 s = (s / 2) ^^^ (kcW * (s % 2)) := rfl
  rw [e]
  unfold cstepN
  by_cases h : s % 2 = 1
  · rw [if_pos h, h, Nat.mul_one]
  · rw [if_neg h]
    have : s % 2 = 0 := by omega
    rw [this, Nat.mul_zero, Nat.xor_zero]
theorem s8_eq (s : Nat) : s8 s = citerN 8 s := by
  simp only [s8, forceN_eq, s1_eq, citerN]
theorem sumL_eq : ∀ (n d s : Nat), sumL n d s = crcN s (bytI n d)
  | 0, d, s => rfl
  | n + 1, d, s => by
    have e : sumL (n + 1) d s = forceN (Nat.div d 256) fun d' => forceN (s8 (Nat.xor s (Nat.mod d 256))) fun s' => sumL n d' s' := rfl
    rw [e, forceN_eq, forceN_eq, sumL_eq n, s8_eq]
    unfold bytI
    rw [bytesOf_succ, List.map_cons]
    have e2 : ((UInt8.ofNat (d % 256)).toNat : Int) = ((d % 256 : Nat) : Int) := by
      rw [UInt8.toNat_ofNat']
      congr 1
      exact Nat.mod_eq_of_lt (Nat.mod_lt _ (by decide))
    rw [e2]
    rfl
theorem bytI_in (n d : Nat) : isBytes (bytI n d) := by
  intro x hx
  obtain ⟨b, _, rfl⟩ := List.mem_map.1 hx
  have := b.toNat_lt
  omega
theorem bytI_length (n d : Nat) : (bytI n d).length = n := by simp [bytI, bytesOf_length]
theorem sumV_eq (n d : Nat) : sumV n d = .int .u32 (sumI (bytI n d)) := by
  have h1 := crcN_lt (bytI n d) 4294967295 (bytI_in n d) (by decide)
  unfold sumV
  rw [forceN_eq, sumL_eq]
  congr 1
  show ((4294967295 - crcN 4294967295 (bytI n d) : Nat) : Int) = 4294967295 - ((crcN 4294967295 (bytI n d) : Nat) : Int)
  omega
def sumH (D : Nat) : Hook := fun args h c => match args with
  | [x] => match x with
    | .slc k o n es cl => match (HT.get D k h).body with
      | .byt m d => if Nat.ble (Nat.add o n) m && (Nat.beq es 1 && Nat.blt n 1000000) then .ok (sumV n (bCut d o n)) h c else .x 71
      | _ => .x 72
    | _ => .x 73
  | _ => .x 74
variable [Env]
theorem sumW_ok {Pr : Program} {D : Nat} {f : FuncId} (hb : Body Pr f) (hs : SumSpec Pr f) : HookOk Pr D f (sumH D) := by
  intro args h c v h' c' he' hv
  refine ⟨hb, ?_⟩
  unfold sumH at he'
  split at he'
  · split at he'
    · rename_i k o n es cl
      split at he'
      · rename_i m d hbd
        split at he'
        · rename_i hc
          simp only [Bool.and_eq_true] at hc
          obtain ⟨c1, c2, c3⟩ := hc
          have c1 : o + n ≤ m := Nat.le_of_ble_eq_true c1
          have := Nat.eq_of_beq_eq_true c2; subst this
          have c3 : n < 1000000 := Nat.le_of_ble_eq_true c3
          simp only [CR.ok.injEq] at he'
          obtain ⟨rfl, rfl, rfl⟩ := he'
          refine CallT.still (v0 := .int .u32 (sumI (bytI n (bCut d o n)))) (fun g => by rw [sumV_eq]; rfl) fun w g vs hi ha => ?_
          obtain ⟨x0, rfl⟩ : ∃ x0, vs = [x0] := List.length_eq_one_iff.1 ha.1
          obtain ⟨hk, A, mm, rfl, hnm, hmm, hes, hlen, hbs, hfull, hcl, hA⟩ := ha.2 0 _ _ rfl rfl
          obtain ⟨us, h1, ⟨h2, h2'⟩, h3, h4⟩ := (hi.body hk.1 hbd (by simp)).cells
          have hcut := bytesOf_cut m d o n c1
          refine (hs A n mm (bytI n (bCut d o n)) (bytI_length _ _) (bytI_in _ _) c3 w fun i hin => ?_).mono fun e w' ⟨he, hw⟩ => ⟨he, hw ▸ Below.refl _ _⟩
          rw [hA (by omega)]
          have e0 : (addrOf g k o).add i = ⟨(g k).b, (g k).o + (o + i), none⟩ := by simp [addrOf, Addr.add, Nat.add_assoc]
          rw [e0]
          refine h4 (o + i) _ ?_
          have hil : i < (bytesOf n (bCut d o n)).length := by rw [bytesOf_length]; exact hin
          obtain ⟨u, hu⟩ : ∃ u, (bytesOf n (bCut d o n))[i]? = some u := ⟨_, List.getElem?_eq_getElem hil⟩
          have e1 : (bytI n (bCut d o n)).getD i 0 = (u.toNat : Int) := by
            unfold bytI
            rw [List.getD_eq_getElem?_getD, List.getElem?_map, hu]; rfl
          have e2 : (bytesOf m d)[o + i]? = some u := by
            have := hu
            rw [hcut, List.getElem?_take, if_pos hin, List.getElem?_drop] at this
            exact this
          rw [e1, h2', List.getElem?_map]
          rw [e2]; rfl
        · cases he'
      · cases he'
    · cases he'
  · cases he'
end
end Go.FM
