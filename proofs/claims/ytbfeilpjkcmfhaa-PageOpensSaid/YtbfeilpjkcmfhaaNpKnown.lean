/-
  Texts of a proof over the translated program: NpKnown.
-/
import Derived.Test.YtbfeilpjkcmfhaaNpSums
import Derived.Test.YtbfeilpjkcmfhaaLib5
set_option linter.unusedVariables false
namespace Sp
open Go Go.AbsM
/-- The same sum, step by step. -/
def c1 (s : Nat) : Nat := Nat.xor (Nat.div s 2) (Nat.mul kc (Nat.mod s 2))
def c8 (s : Nat) : Nat := c1 (c1 (c1 (c1 (c1 (c1 (c1 (c1 s)))))))
def crcK : List Int → Nat → Nat
  | [], s => s
  | x :: r, s => match x with
    | .ofNat m => match c8 (Nat.xor s m) with
      | 0 => crcK r 0
      | n + 1 => crcK r (n + 1)
    | .negSucc _ => crcN s (x :: r)
def sumK (l : List Int) : Int := match Nat.sub 4294967295 (crcK l 4294967295) with
  | 0 => .ofNat 0
  | n + 1 => .ofNat (n + 1)
theorem c1_eq (s : Nat) : c1 s = cstepN s := by
  have e : c1 s = (s / 2) ^^^ (kc * (s % 2)) := rfl
  rw [e]
  unfold cstepN
  by_cases h : s % 2 = 1
  · rw [if_pos h, h, Nat.mul_one]
  · rw [if_neg h]
    have : s % 2 = 0 := by omega
    rw [this, Nat.mul_zero, Nat.xor_zero]
theorem crcK_eq : ∀ (l : List Int) (s : Nat), crcK l s = crcN s l
  | [], s => rfl
  | x :: r, s => by
    cases x with
    | ofNat m =>
      have e : crcK (Int.ofNat m :: r) s = crcK r (c8 (Nat.xor s m)) := by
        show (match c8 (Nat.xor s m) with
          | 0 => crcK r 0
          | n + 1 => crcK r (n + 1)) = _
        cases c8 (Nat.xor s m) <;> rfl
      rw [e, crcK_eq r]
      have e2 : c8 (Nat.xor s m) = citerN 8 (s ^^^ m) := by
        simp only [c8, c1_eq, citerN]
        rfl
      rw [e2]
      rfl
    | negSucc m => rfl
theorem sumK_eq {l : List Int} (hb : bytes l) : sumK l = sum l := by
  have h1 := crcN_lt l 4294967295 hb (by decide)
  have e : sumK l = ((4294967295 - crcK l 4294967295 : Nat) : Int) := by
    show (match Nat.sub 4294967295 (crcK l 4294967295) with
      | 0 => Int.ofNat 0
      | n + 1 => Int.ofNat (n + 1)) = _
    have : Nat.sub 4294967295 (crcK l 4294967295) = 4294967295 - crcK l 4294967295 := rfl
    rw [this]
    cases 4294967295 - crcK l 4294967295 <;> rfl
  rw [e, crcK_eq]
  show _ = 4294967295 - ((crcN (4294967295 : Int).toNat l : Nat) : Int)
  have : (4294967295 : Int).toNat = 4294967295 := rfl
  rw [this]
  omega
end Sp
namespace Go.Proofs.Ytbfeilpjkcmfhaa
open Go.AbsM
/-- What is known of num.Sum. -/
def gamma (f : FuncId) (args : List AV) : Option AV := match Nat.beq f 28 with
  | true => match args with
    | [.sl e xs] => match Nat.beq e 5 with
      | true => match u8sOf xs with
        | some l => match Nat.blt l.length 1000000 with
          | true => some (.x (.int .u32 (Sp.sumK l)))
          | false => none
        | none => none
      | false => none
    | _ => none
  | false => none
theorem gamma_ok : GamOk Try.prog gamma := by
  intro f args r h
  unfold gamma at h
  split at h
  · rename_i hf
    have hf := Nat.eq_of_beq_eq_true hf
    subst hf
    split at h
    · rename_i e xs
      split at h
      · rename_i he
        have he := Nat.eq_of_beq_eq_true he
        subst he
        split at h
        · rename_i l hl
          split at h
          · rename_i hlen
            simp only [Option.some.injEq] at h; subst h
            obtain ⟨rfl, hb⟩ := u8sOf_ok hl
            rw [Sp.sumK_eq hb]
            have hlen : l.length < 1000000 := Nat.le_of_ble_eq_true hlen
            exact ⟨good28.there, fun S => good28.call (l, ()) ⟨hb, hlen⟩ S⟩
          · cases h
        · cases h
      · cases h
    · cases h
  · cases h
set_option maxRecDepth 100000 in
theorem good9 : GoodC Try.prog (trueC 9) := good_closedH (fn := Try.f9) (heapy := fun _ => false) (gam := fun f => Nat.beq f 28) (Γ := gamma) (q := 2000) (n := 2000) wide ⟨by kernel_rfl, by kernel_rfl, by kernel_rfl, by kernel_rfl⟩ gamma_ok (by kernel_rfl)
end Go.Proofs.Ytbfeilpjkcmfhaa
