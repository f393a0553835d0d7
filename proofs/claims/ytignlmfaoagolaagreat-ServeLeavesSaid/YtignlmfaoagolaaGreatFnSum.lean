/-
  Texts of a proof over the translated program: FnSum.
-/
import Derived.Test.YtignlmfaoagolaaGreatFnHook
import Derived.Test.YtignlmfaoagolaaGreatN1Sp5
set_option linter.unusedVariables false
set_option linter.unusedSimpArgs false
set_option linter.unusedSectionVars false
namespace Go.FM
noncomputable section
open Go.AbsM (GoodC TCtr AT TV ArgsOk Arg)
def s1 (s : Nat) : Nat := Nat.xor (Nat.div s 2) (Nat.mul Sp.kc (Nat.mod s 2))
def s8 (s : Nat) : Nat := forceN (s1 (s1 s)) fun s => forceN (s1 (s1 s)) fun s => forceN (s1 (s1 s)) fun s => s1 (s1 s)
def sumL (n : Nat) : Nat → Nat → Nat := Nat.rec (motive := fun _ => Nat → Nat → Nat) (fun _ s => s) (fun _ ih d s => forceN (Nat.div d 256) fun d' => forceN (s8 (Nat.xor s (Nat.mod d 256))) fun s' => ih d' s') n
def sumV (n d : Nat) : HV := forceN (Nat.sub 4294967295 (sumL n d 4294967295)) fun r => .int .u32 (.ofNat r)
variable [Env]
theorem s1_eq (s : Nat) : s1 s = Sp.cstepN s := by
  have e : s1 s = (s / 2) ^^^ (Sp.kc * (s % 2)) := rfl
  rw [e]
  unfold Sp.cstepN
  by_cases h : s % 2 = 1
  · rw [if_pos h, h, Nat.mul_one]
  · rw [if_neg h]
    have : s % 2 = 0 := by omega
    rw [this, Nat.mul_zero, Nat.xor_zero]
theorem s8_eq (s : Nat) : s8 s = Sp.citerN 8 s := by
  simp only [s8, forceN_eq, s1_eq, Sp.citerN]
theorem sumL_eq : ∀ (n d s : Nat), sumL n d s = Sp.crcN s (bytI n d)
  | 0, d, s => rfl
  | n + 1, d, s => by
    have e : sumL (n + 1) d s = forceN (Nat.div d 256) fun d' => forceN (s8 (Nat.xor s (Nat.mod d 256))) fun s' => sumL n d' s' := rfl
    rw [e, forceN_eq, forceN_eq, sumL_eq n, s8_eq]
    unfold bytI
    rw [bytesOf_succ, List.map_cons]
    have e2 : ((UInt8.ofNat (d % 256)).toNat : Int) = ((d % 256 : Nat) : Int) := by
      rw [UInt8.toNat_ofNat']
      congr 1
      exact Nat.mod_eq_of_lt (Nat.mod_lt _ (by decide))
    rw [e2]
    rfl
theorem bytI_in (n d : Nat) : Sp.bytes (bytI n d) := by
  intro x hx
  obtain ⟨b, _, rfl⟩ := List.mem_map.1 hx
  have := b.toNat_lt
  omega
theorem bytI_length (n d : Nat) : (bytI n d).length = n := by simp [bytI, bytesOf_length]
theorem sumV_eq (n d : Nat) : sumV n d = .int .u32 (Sp.sum (bytI n d)) := by
  have h1 := Sp.crcN_lt (bytI n d) 4294967295 (bytI_in n d) (by decide)
  unfold sumV
  rw [forceN_eq, sumL_eq]
  congr 1
  show ((4294967295 - Sp.crcN 4294967295 (bytI n d) : Nat) : Int) = 4294967295 - ((Sp.crcN (4294967295 : Int).toNat (bytI n d) : Nat) : Int)
  have : (4294967295 : Int).toNat = 4294967295 := rfl
  rw [this]
  omega
omit [Env] in
def sumH (D : Nat) : Hook := fun args h c => match args with
  | [x] => match x with
    | .slc k o n es cl => match (HT.get D k h).body with
      | .byt m d => if Nat.ble (Nat.add o n) m && (Nat.beq es 1 && Nat.blt n 1000000) then .ok (sumV n (bCut d o n)) h c else .x 71
      | _ => .x 72
    | _ => .x 73
  | _ => .x 74
theorem sumH_ok {Pr : Program} {D : Nat} {f : FuncId} {e : TypeId} (he : Pr.cellsOf e = 1) {h0 : ∀ d, _} (hg : GoodC Pr (TCtr.det f [.l e (.int .u8)] (fun (d : List Int × Unit) => Sp.bytes d.1 ∧ d.1.length < 1000000) (fun (d : List Int × Unit) => TV.int .u32 (Sp.sum d.1)) h0)) : HookOk Pr D f (sumH D) := by
  intro args h c v h' c' he' hv
  unfold sumH at he'
  split at he'
  · split at he'
    · rename_i k o n es cl
      split at he'
      · rename_i m d hb
        split at he'
        · rename_i hc
          simp only [Bool.and_eq_true] at hc
          obtain ⟨c1, c2, c3⟩ := hc
          have c1 : o + n ≤ m := Nat.le_of_ble_eq_true c1
          have := Nat.eq_of_beq_eq_true c2; subst this
          have c3 : n < 1000000 := Nat.le_of_ble_eq_true c3
          simp only [CR.ok.injEq] at he'
          obtain ⟨rfl, rfl, rfl⟩ := he'
          refine ⟨hg.there, CallT.still (v0 := .int .u32 (Sp.sum (bytI n (bCut d o n)))) (fun g => by rw [sumV_eq]; rfl) fun w g vs hi ha => ?_⟩
          obtain ⟨x0, rfl⟩ : ∃ x0, vs = [x0] := List.length_eq_one_iff.1 ha.1
          have hx := ha.2 0 _ _ rfl rfl
          refine GoodC.calls hg (bytI n (bCut d o n), ()) ⟨bytI_in _ _, by rw [bytI_length]; exact c3⟩ rfl w [x0] ⟨?_, trivial⟩
          have := body_arg (Pr := Pr) (e := e) hi he hx hb c1
          exact this
        · cases he'
      · cases he'
    · cases he'
  · cases he'
end
end Go.FM
