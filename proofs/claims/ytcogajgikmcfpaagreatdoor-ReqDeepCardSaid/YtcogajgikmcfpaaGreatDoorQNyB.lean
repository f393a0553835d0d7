/-
  Texts of a proof over the translated program: NyB.
-/
import Derived.Test.YtcogajgikmcfpaaGreatDoorQNyR
import Derived.Test.YtcogajgikmcfpaaGreatDoorQNxN
import Derived.Test.YtcogajgikmcfpaaGreatDoorQNxJn
import Derived.Lib.ItoaLen
import Derived.Lib.AppendIntMem
set_option linter.unusedVariables false
set_option linter.unusedSimpArgs false
set_option linter.unusedSectionVars false
set_option maxRecDepth 100000
namespace Go.Proofs.YtcogajgikmcfpaaGreatDoor
open Go.FM
open Go.RowKit (Below)
theorem mixedY : Tryz.prog.follows .mixedOrders = true := by decide +kernel
theorem bodyY {f : FuncId} {fn : Func} (h1 : Tryz.prog.funcs[f]? = some fn) (h2 : fn.body.isSome = true) (h3 : (fn.name == "runtime.NumGoroutine") = false) : Body Tryz.prog f := by
  obtain ⟨cd, h⟩ := Option.isSome_iff_exists.1 h2
  exact ⟨fn, cd, h1, h, h3⟩
theorem body57 : Body Tryz.prog 57 := bodyY (fn := Tryz.f57) (by kernel_rfl) (by kernel_rfl) (by kernel_rfl)
theorem body67 : Body Tryz.prog 67 := bodyY (fn := Tryz.f67) (by kernel_rfl) (by kernel_rfl) (by kernel_rfl)
theorem body60 : Body Tryz.prog 60 := bodyY (fn := Tryz.f60) (by kernel_rfl) (by kernel_rfl) (by kernel_rfl)
theorem body20 : Body Tryz.prog 20 := bodyY (fn := Tryz.f20) (by kernel_rfl) (by kernel_rfl) (by kernel_rfl)
theorem body99 : Body Tryz.prog 99 := bodyY (fn := Tryz.f99) (by kernel_rfl) (by kernel_rfl) (by kernel_rfl)
theorem body5 : Body Tryz.prog 5 := bodyY (fn := Tryz.f5) (by kernel_rfl) (by kernel_rfl) (by kernel_rfl)
section
variable [Env]
theorem pbH_ok : HookOk Tryz.prog 6 99 pbH := by
  intro args h c v h' c' he hv
  refine ⟨body99, ?_⟩
  unfold pbH at he
  split at he
  · split at he
    · rename_i n d
      split at he
      · rename_i hk
        simp only [Bool.and_eq_true] at hk
        have h1 := Nat.eq_of_beq_eq_true hk.1
        have h2 := Nat.eq_of_beq_eq_true hk.2
        subst h1; subst h2
        simp only [CR.ok.injEq] at he
        obtain ⟨rfl, rfl, rfl⟩ := he
        have hp : (pbytes [54, 49]).1 = .agg #[.int .i64 2, .int .i64 0, .string ⟨#[97]⟩, .complex .f64 0 0] ∧ (pbytes [54, 49]).2 = 0 := ⟨by kernel_rfl, by kernel_rfl⟩
        refine CallT.still (v0 := .tuple #[.agg #[.int .i64 2, .int .i64 0, .string ⟨#[97]⟩, .complex .f64 0 0], .int .i64 0]) (fun g => ⟨[_, _], rfl, rfl, fun i x u hx hu => ?_⟩) fun w g vs hi ha => ?_
        · rcases i with _ | _ | i
          · simp at hx hu; subst hx; subst hu
            refine ⟨[.int .i64 2, .int .i64 0, .string ⟨#[97]⟩, .complex .f64 0 0], rfl, rfl, fun i x u hx hu => ?_⟩
            rcases i with _ | _ | _ | _ | i
            · simp at hx hu; subst hx; subst hu; exact ⟨rfl, rfl⟩
            · simp at hx hu; subst hx; subst hu; exact ⟨rfl, rfl⟩
            · simp at hx hu; subst hx; subst hu; exact ⟨⟨by decide, by rfl⟩, rfl⟩
            · simp at hx hu; subst hx; subst hu; exact ⟨rfl, rfl⟩
            · simp at hx
          · simp at hx hu; subst hx; subst hu; rfl
          · simp at hx
        · obtain ⟨u, rfl⟩ := List.length_eq_one_iff.1 ha.1
          have e1 : u = strOf 2 12598 := (ha.2 0 _ u rfl rfl).2
          subst e1
          have hs : strOf 2 12598 = .string (bs [54, 49]) := by rfl
          have := Tryz.parseBytes [54, 49] (by decide) w
          rw [hp.1, hp.2, ← hs] at this
          exact this
      · cases he
    · cases he
  · cases he
theorem idxY : HookOk Tryz.prog 6 57 idxH := idxH_ok body57 fun s c w => Tryz.strings_IndexByte s c w
theorem joinY : HookOk Tryz.prog 6 20 (joinH 6) := joinH_ok body20 (fun bk o c xs sep w h1 h2 h3 h4 h5 => Tryz.strings_Join bk o c xs sep w h1 h2 h3 h4 h5) (fun A c sep w => Tryz.strings_Join_none A c sep w)
theorem intY : HookOk Tryz.prog 6 60 intH := intH_ok body60 fun s v w hs hp => by
  refine (Tryz.strconv_ParseInt_10_at64_ok s hs v hp w).mono ?_
  rintro e w' ⟨rfl, hw⟩
  refine ⟨rfl, ?_⟩
  rcases hw with rfl | ⟨t, rfl⟩
  · exact Below.refl _ _
  · exact Lib.bytesWorld_below _ _ _
def TabY (w : World) : Prop := Lib.TabIs Tryz.prog w "internal/strconv.uint64pow10" .u64 Lib.pow10Tab
theorem fmtY (ht : ∀ w, Kept w → TabY w) : HookOk Tryz.prog 6 67 fmtH := fmtH_ok body67 fun n w h0 h1 hk => by
  refine (Tryz.strconv_FormatInt_10 n h0 h1 w (ht w hk)).mono ?_
  rintro e w' ⟨rfl, k, os, rfl⟩
  exact ⟨rfl, Lib.below_grow _ w (Nat.le_refl _) k os⟩
theorem extB_ok (ht : ∀ w, Kept w → TabY w) : ExtOk Tryz.prog 6 extB := by
  intro f q h
  unfold extB at h
  cases h57 : Nat.beq f 57 with
  | true =>
    rw [h57] at h
    have := Nat.eq_of_beq_eq_true h57
    subst this
    simp only [Option.some.injEq] at h; subst h
    exact idxY
  | false =>
    rw [h57] at h
    cases h67 : Nat.beq f 67 with
    | true =>
      rw [h67] at h
      have := Nat.eq_of_beq_eq_true h67
      subst this
      simp only [Option.some.injEq] at h; subst h
      exact (fmtY ht)
    | false =>
      rw [h67] at h
      cases h60 : Nat.beq f 60 with
      | true =>
        rw [h60] at h
        have := Nat.eq_of_beq_eq_true h60
        subst this
        simp only [Option.some.injEq] at h; subst h
        exact intY
      | false =>
        rw [h60] at h
        cases h20 : Nat.beq f 20 with
        | true =>
          rw [h20] at h
          have := Nat.eq_of_beq_eq_true h20
          subst this
          simp only [Option.some.injEq] at h; subst h
          exact joinY
        | false =>
          rw [h20] at h
          cases h99 : Nat.beq f 99 with
          | true =>
            rw [h99] at h
            have := Nat.eq_of_beq_eq_true h99
            subst this
            simp only [Option.some.injEq] at h; subst h
            exact pbH_ok
          | false =>
            rw [h99] at h
            cases h
end
end Go.Proofs.YtcogajgikmcfpaaGreatDoor
