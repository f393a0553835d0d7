/-
  Texts of a proof over the translated program: proved evaluators and walks, part 12 of 20.
-/
import Derived.Test.YtjilpkmcddinaaaPartA11
import Derived.Below
import Derived.Great.BuildSlice
import Derived.Handy
import Derived.IntWalk
import Derived.Laws.BitsLemmas
import Derived.Laws.CopyRow
import Derived.Laws.IdiomStrings
import Derived.Lib.Hide
import Derived.LoopTactic
import Derived.MapKept
import Derived.Orders
import Derived.Scope
import Derived.ScopeJumps
import Derived.Test.YtjilpkmcddinaaaProg
import Derived.WalkKit
import Derived.WalkMore
set_option linter.unusedVariables false
set_option linter.unusedSimpArgs false
set_option linter.unusedSectionVars false
set_option linter.unnecessarySimpa false
section
namespace Go.Proofs
open Go.RowKit Go.FM
set_option maxRecDepth 100000
theorem rstep (x : Nat) (h : x < 4294967296) : (x % 2 = 1 → bits .xor .u32 ((x : Int) / 2) 3988292384 = (cstepN x : Nat)) ∧ (¬ x % 2 = 1 → (x : Int) / 2 = (cstepN x : Nat)) := by
  have e2 : (x : Int) / 2 = ((x / 2 : Nat) : Int) := by omega
  constructor
  · intro hx
    have e4 : (3988292384 : Int) = ((3988292384 : Nat) : Int) := rfl
    rw [e2, e4, (bitsU (x / 2) 3988292384 (by omega) (by decide)).2.2]
    unfold cstepN
    rw [if_pos hx]
    rfl
  · intro hx
    rw [e2]
    unfold cstepN
    rw [if_neg hx]
theorem and1 (x : Nat) (h : x < 4294967296) : bits .and .u32 (x : Int) 1 = ((x % 2 : Nat) : Int) := by
  have := (bitsU x 1 h (by decide)).1
  rw [Nat.and_one_is_mod] at this
  exact this
set_option maxHeartbeats 4000000 in
theorem Try.rsum : SumSpec Try.prog 65 := by
  intro A n m l hl hb hn w hc
  have HC := Lib.hid hc
  have HB := Lib.hid hb
  have HL := Lib.hid hl
  clear hc hb hl
  go_enter Try.func65, Try.ntmps65
  go_wp2_with fail
  go_loop [3, 4, 5] (fun t3 t t5 => ∃ i : Nat, i ≤ n ∧ t = .int .i64 i ∧ t3 = .int .u32 (sumAt l i : Nat)) (fun _ t _ => n - (intOf t).toNat)
  case atStart => exact ⟨0, Nat.zero_le _, rfl, rfl⟩
  case round =>
    obtain ⟨i, hi, rfl, rfl⟩ := hrel
    by_cases hlt : i < n
    · have hD : decide ((i : Int) < n) = true := decide_eq_true (by omega)
      have hD' : decide (i < n) = true := decide_eq_true hlt
      have hx := (HC.out) i hlt
      have hxb := (HB.out) (l.getD i 0) (by rw [List.getD_eq_getElem?_getD, List.getElem?_eq_getElem (by rw [HL.out]; exact hlt)]; exact List.getElem_mem _)
      have hsl := sumAt_lt HB.out i
      have hss := sumAt_succ l i (by rw [HL.out]; exact hlt)
      have hz := (bitsU (sumAt l i) (l.getD i 0).toNat hsl (by omega)).2.2
      rw [Int.toNat_of_nonneg hxb.1] at hz
      have HS : Hid (citerN 8 (sumAt l i ^^^ (l.getD i 0).toNat) = sumAt l (i + 1)) := Lib.hid hss.symm
      have hlt32 : sumAt l i ^^^ (l.getD i 0).toNat < 4294967296 := Nat.xor_lt_two_pow (n := 32) hsl (by omega)
      obtain ⟨x, hxx⟩ : ∃ x, l.getD i 0 = x := ⟨_, rfl⟩
      obtain ⟨s, hs⟩ : ∃ s, sumAt l i = s := ⟨_, rfl⟩
      rw [hxx, hs] at hz HS hlt32
      rw [hxx] at hx hxb
      obtain ⟨z, hzz⟩ : ∃ z, s ^^^ x.toNat = z := ⟨_, rfl⟩
      rw [hzz] at hz HS hlt32
      rw [hs]
      clear hss hsl hs hxx hzz
      go_wp2_with fail
      go_loop [3, 5] (fun t3 t => ∃ k : Nat, k ≤ 8 ∧ t = .int .i64 k ∧ t3 = .int .u32 (citerN k z : Nat)) (fun _ t => 8 - (intOf t).toNat)
      case atStart => exact ⟨0, by omega, rfl, rfl⟩
      case round =>
        obtain ⟨k, hk, rfl, rfl⟩ := hrel
        have hcl := citerN_lt k z hlt32
        have hr := rstep (citerN k z) hcl
        have ha := and1 (citerN k z) hcl
        rw [← citer_succ] at hr
        obtain ⟨q, hq⟩ : ∃ q, citerN k z = q := ⟨_, rfl⟩
        obtain ⟨q2, hq2⟩ : ∃ q2, citerN (k + 1) z = q2 := ⟨_, rfl⟩
        rw [hq, hq2] at hr
        rw [hq] at ha hcl ⊢
        have HQ2 := Lib.hid hq2
        have HQ := Lib.hid hq
        clear hq hq2
        by_cases h8 : k < 8
        · have hE : decide ((k : Int) < 8) = true := decide_eq_true (by omega)
          have hE' : decide (k < 8) = true := decide_eq_true h8
          by_cases ho : q % 2 = 1
          · have h1 := hr.1 ho
            rw [ho] at ha
            have HA : bits .and .u32 (q : Int) 1 = 1 := ha
            clear hr ho ha
            go_wp2_with fail
            exact ⟨⟨k + 1, by omega, rfl, by rw [HQ2.out]⟩, by simp [intOf]; omega⟩
          · have h1 := hr.2 ho
            have h0 : q % 2 = 0 := by omega
            rw [h0] at ha
            have HA : bits .and .u32 (q : Int) 1 = 0 := ha
            clear hr ho h0 ha
            go_wp2_with fail
            exact ⟨⟨k + 1, by omega, rfl, by rw [HQ2.out]⟩, by simp [intOf]; omega⟩
        · obtain rfl : k = 8 := by omega
          have hF : Hid (q = sumAt l (i + 1)) := Lib.hid (by rw [← HQ.out, HS.out])
          clear hr ha
          go_wp2_with fail
          exact ⟨⟨i + 1, by omega, rfl, by rw [hF.out]⟩, by simp [intOf]; omega⟩
    · obtain rfl : i = n := by omega
      have hD : decide ((i : Int) < i) = false := by simp
      have hD' : decide (i < i) = false := by simp
      have hs2 : sumAt l i = crcN 4294967295 l := by unfold sumAt; rw [← HL.out, List.take_length]
      have hs3 := inv32 _ (sumAt_lt HB.out i)
      rw [hs2] at hs3 ⊢
      have HS3 := Lib.hid hs3
      clear hs2 hs3
      go_wp2_with fail
      go_ret
      refine ⟨?_, rfl⟩
      show Ending.returned (Value.int IntKind.u32 (bits .xor .u32 IntKind.u32.max ((crcN 4294967295 l : Nat) : Int))) = _
      rw [HS3.out]
      rfl
end Go.Proofs
end

section
set_option maxRecDepth 100000
namespace Go.Proofs.Ytjilpkmcddinaaa
open Go.FM
theorem wideU : Try.prog.follows .mixedOrders = true := by decide +kernel
theorem bodyU {f : FuncId} {fn : Func} (h1 : Try.prog.funcs[f]? = some fn) (h2 : fn.body.isSome = true) (h3 : (fn.name == "runtime.NumGoroutine") = false) : Body Try.prog f := by
  obtain ⟨cd, h⟩ := Option.isSome_iff_exists.1 h2
  exact ⟨fn, cd, h1, h, h3⟩
theorem body59 : Body Try.prog 59 := bodyU (fn := Try.f59) (by kernel_rfl) (by kernel_rfl) (by kernel_rfl)
theorem body65 : Body Try.prog 65 := bodyU (fn := Try.f65) (by kernel_rfl) (by kernel_rfl) (by kernel_rfl)
noncomputable def extU (f : FuncId) : Option Hook := (Nat.beq f 59).casesOn ((Nat.beq f 65).casesOn none (some (sumH 6))) (some (sumH 6))
theorem extU_ok : ExtOk Try.prog 6 extU := by
  intro f q h
  unfold extU at h
  cases hf : Nat.beq f 59 with
  | true =>
    rw [hf] at h
    have := Nat.eq_of_beq_eq_true hf
    subst this
    simp only [Option.some.injEq] at h; subst h
    exact sumW_ok body59 Try.sum
  | false =>
    rw [hf] at h
    simp only at h
    cases hg : Nat.beq f 65 with
    | true =>
      rw [hg] at h
      have := Nat.eq_of_beq_eq_true hg
      subst this
      simp only [Option.some.injEq] at h; subst h
      exact sumW_ok body65 Try.rsum
    | false => rw [hg] at h; cases h
noncomputable def runU (f : FuncId) (args : List HV) (h : HT) (c : Nat) : CR := callX Try.prog 6 10000000 extU 60 f args h c
noncomputable def pagedOk (n : Int) : Bool := match runU 10 [.int .i64 n] .nil 0 with
  | .ok (.tup [.ptr k1 o1, .ptr k2 o2]) h c => Nat.beq o1 0
  | _ => false
end Go.Proofs.Ytjilpkmcddinaaa
end

section
set_option maxRecDepth 100000
namespace Go.Proofs.Ytjilpkmcddinaaa
open Go.FM
def sameV (x y : HV) : Bool := match x with
  | .slc k o n e cl => match y with
    | .slc k' o' n' e' cl' => Nat.beq k k' && (Nat.beq o o' && (Nat.beq n n' && (Nat.beq e e' && (cl == cl'))))
    | _ => false
  | .nils => match y with
    | .nils => true
    | _ => false
  | _ => false
def sameL : List HV → List HV → Bool
  | [], [] => true
  | x :: a, y :: b => sameV x y && sameL a b
  | _, _ => false
def sameO (x y : HO) : Bool := match x with
  | .own p (.byt n d) => match y with
    | .own q (.byt m e) => Nat.beq p q && (Nat.beq n m && Nat.beq d e)
    | _ => false
  | .own p (.cells cs) => match y with
    | .own q (.cells es) => Nat.beq p q && sameL cs es
    | _ => false
  | _ => false
noncomputable def subH (k1 k2 : Nat) (h : HT) : HT := HT.set 6 k1 (HT.get 6 k1 h) (HT.set 6 k2 (HT.get 6 k2 h) .nil)
noncomputable def readOk (k1 k2 : Nat) (h : HT) (c a : Nat) : Bool := match runU 48 [.ptr k1 0, .int .i64 (.ofNat a), .int .i64 1] h c with
  | .ok (.tup [.slc k o n e cl, .int .i64 z]) h' c' => match HT.get 6 k h' with
    | .own p (.byt m d) => (Nat.beq (Nat.mod d 256) a && (Nat.ble 1 m && (Nat.ble c k && (Nat.beq o 0 && (Nat.beq n 1 && (Nat.beq e 1 && decide (z = 0))))))) && (sameO (HT.get 6 k1 h') (HT.get 6 k1 h) && sameO (HT.get 6 k2 h') (HT.get 6 k2 h))
    | _ => false
  | _ => false
noncomputable def readsOk (n : Int) (lo cnt : Nat) : Bool := match runU 10 [.int .i64 n] .nil 0 with
  | .ok (.tup [.ptr k1 o1, .ptr k2 o2]) h c => match HT.get 6 k1 h with
    | .own p (.cells [a, .slc kt ot nt et ct, b]) => (Nat.beq o1 0 && (Nat.ble c 4096 && (Nat.blt k1 c && Nat.blt kt c))) && (List.range cnt).all fun i => readOk k1 kt (subH k1 kt h) c (lo + i)
    | _ => false
  | _ => false
theorem reads20 : readsOk 20 2 16 = true := by decide +kernel
end Go.Proofs.Ytjilpkmcddinaaa
end

section
set_option maxRecDepth 100000
namespace Go.FM
open Go.RowKit (Below)
section
variable [Env] {g g' : Gm} {h h' : Nat → HO} {c c' : Nat} {w w' : World}
theorem HInv.sub (hi : HInv g h c w) (hs : ∀ k, h' k = .no ∨ h' k = h k) : HInv g h' c w := by
  have e : ∀ k o, h' k = o → o ≠ .no → h k = o := fun k o hk ho => by
    rcases hs k with q | q
    · rw [q] at hk; exact absurd hk.symm ho
    · rw [← q]; exact hk
  exact ⟨fun k pre b hk => hi.own k pre b (e k _ hk (by simp)), fun k b hk => hi.sh k b (e k _ hk (by simp)), fun k b j pre b' hk hj => hi.apart k b j pre b' (e k _ hk (by simp)) (e j _ hj (by simp)),
    fun k pre b k' pre' b' hk hk' => hi.inj k pre b k' pre' b' (e k _ hk (by simp)) (e k' _ hk' (by simp)), fun k hk => hi.lt k (by rcases hs k with q | q; exact absurd q hk; rw [← q]; exact hk), fun k p b hk => hi.pre k p b (e k _ hk (by simp))⟩
theorem CRep.down {x : HV} {v0 v : Value} (h0 : CRep g c x v0) (h1 : CRep g' c' x v) : CRep g' c x v := by
  cases x with
  | ptr k off => exact ⟨⟨h0.1.1, h1.1.2⟩, h1.2⟩
  | fn f caps => exact ⟨fun p hp => ⟨(h0.1 p hp).1, (h1.1 p hp).2⟩, h1.2⟩
  | slc k o n es cl =>
    obtain ⟨hk, A, m, q⟩ := h1
    exact ⟨⟨h0.1.1, hk.2⟩, A, m, q⟩
  | mp k => exact ⟨⟨h0.1.1, h1.1.2⟩, h1.2⟩
  | _ => exact h1
theorem BOk.down {a0 a : At} {b : HB} (hm : isMap b = false) (h0 : BOk g c a0 b w) (h1 : BOk g' c' a b w') : BOk g' c a b w' := by
  obtain ⟨vs0, t0, _, _, _, r0⟩ := h0.plain hm
  obtain ⟨vs, t, q1, q2, q3, r1⟩ := h1.plain hm
  refine .inl ⟨vs, t, q1, q2, q3, ?_⟩
  cases b with
  | no => exact r1
  | map es cl => cases hm
  | byt n d => exact r1
  | cells cs =>
    refine ⟨r1.1, fun i x u hx hu => ?_⟩
    have hr := r1.2 i x u hx hu
    obtain ⟨u0, hu0⟩ : ∃ u0, (a0.row vs0)[i]? = some u0 := by
      have h1 := (List.getElem?_eq_some_iff.1 hx).1
      exact ⟨_, List.getElem?_eq_getElem (by rw [r0.1]; exact h1)⟩
    exact ⟨CRep.down (r0.2 i x u0 hx hu0).1 hr.1, hr.2⟩
theorem HInv.back (h0 : HInv g h c w) (h1 : HInv g' h' c' w') (ha : ∀ k, k < c → g' k = g k) (hs : ∀ k, h k = .no ∨ ∃ p b, h k = .own p b ∧ h' k = .own p b ∧ isMap b = false) : HInv g' h c w' where
  own := fun k pre b hk => by
    rcases hs k with q | ⟨p, b', q1, q2, q3⟩
    · rw [q] at hk; cases hk
    · rw [q1] at hk; cases hk
      exact BOk.down q3 (h0.own k _ _ q1) (h1.own k _ _ q2)
  sh := fun k b hk => by
    rcases hs k with q | ⟨p, b', q1, q2, q3⟩
    · rw [q] at hk; cases hk
    · rw [q1] at hk; cases hk
  apart := fun k b j pre b' hk _ => by
    rcases hs k with q | ⟨p, b', q1, q2, q3⟩
    · rw [q] at hk; cases hk
    · rw [q1] at hk; cases hk
  inj := fun k pre b k' pre' b' hk hk' hb => by
    have l1 := h0.lt k (by rw [hk]; simp)
    have l2 := h0.lt k' (by rw [hk']; simp)
    rw [ha k l1, ha k' l2] at hb
    exact h0.inj k pre b k' pre' b' hk hk' hb
  lt := h0.lt
  pre := h0.pre
end
end Go.FM
end
