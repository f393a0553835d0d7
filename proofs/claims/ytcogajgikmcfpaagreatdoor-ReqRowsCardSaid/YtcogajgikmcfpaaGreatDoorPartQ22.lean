/-
  Texts of a proof over the translated program: proved evaluators and walks, part 22 of 23.
-/
import Derived.Test.YtcogajgikmcfpaaGreatDoorPartQ21
import Derived.Below
import Derived.Deep.RegionHeld3
import Derived.Deep.RegionWith
import Derived.Handy
import Derived.IntWalk
import Derived.Laws.Strings
import Derived.Laws.Strings2
import Derived.Laws.Strings3
import Derived.Laws.StructEq
import Derived.Lib.Hide
import Derived.LoopTactic
import Derived.Outline
import Derived.OwnWalk
import Derived.Scope
import Derived.ScopeJumps
import Derived.Shelf.LaysC
import Derived.Shelf.LaysM
import Derived.Shelf.Small.Strs
import Derived.Shelf.Strconv.Clone
import Derived.Shelf.Strconv.ErrVarParseInt
import Derived.Shelf.Strconv.Itoa0
import Derived.Shelf.Strconv.Itoa1
import Derived.Shelf.Strconv.Itoa2
import Derived.Shelf.Strconv.Itoa3
import Derived.Shelf.Strconv.Itoa4
import Derived.Shelf.Strconv.Lower
import Derived.Shelf.Strconv.ParseInt10
import Derived.Shelf.Strconv.ParseInt10All
import Derived.Shelf.Strconv.ParseInt10At16
import Derived.Shelf.Strconv.ParseInt10At32
import Derived.Shelf.Strconv.ParseInt10At64
import Derived.Shelf.Strconv.ParseInt10At8
import Derived.Shelf.Strconv.ParseIntEmpty
import Derived.Shelf.Strconv.ParseIntPublic10
import Derived.Shelf.Strconv.ParseUint10
import Derived.Shelf.Strconv.ParseUint10Any
import Derived.Shelf.Strconv.ParseUint10At
import Derived.Shelf.Strconv.ParseUint10Empty
import Derived.Shelf.Strconv.ParseUint10b16
import Derived.Shelf.Strconv.ParseUint10b32
import Derived.Shelf.Strconv.ParseUint10b64
import Derived.Shelf.Strconv.ParseUint10b8
import Derived.Shelf.Strconv.ParseUintEmpty
import Derived.Shelf.Strconv.RangeError
import Derived.Shelf.Strconv.SyntaxError
import Derived.Shelf.Strconv.ToError
import Derived.Shelf.Strconv.ToErrorRange
import Derived.Shelf.Strings.Builder1
import Derived.Shelf.Strings.Builder2
import Derived.Shelf.Strings.BuilderF
import Derived.Shelf.Strings.BuilderK
import Derived.Shelf.Strings.OnBuilder
import Derived.Shelf.Strings.Prefix
import Derived.Shelf.Strings.Search1
import Derived.Test.YtcogajgikmcfpaaGreatDoorProg
import Derived.WalkKit
import Derived.WalkMore
import Derived.WalkSpells
import Derived.Deep.Cut
import Derived.Great.BuildSlice
import Derived.Laws.Cells
import Derived.Laws.CopyRow
import Derived.Laws.Externs
import Derived.Laws.IdiomStrings
import Derived.Lib.AppendIntMem
import Derived.Lib.Builder
import Derived.Lib.Bytealg
import Derived.Lib.ItoaLen
import Derived.Lib.ItoaNum
import Derived.Lib.Join
import Derived.Lib.ParseIntB
import Derived.MapKept
import Derived.Orders
import Derived.ProofKit
import Derived.BigQuiet
import Derived.Deep.Draws
import Derived.Deep.QuietTactic
import Derived.Laws.AppendOwn
import Derived.Laws.OwnMore
import Derived.Laws.Rows
import Derived.Lib.AppendStr
set_option linter.unusedVariables false
set_option linter.unusedSimpArgs false
set_option linter.unusedSectionVars false
set_option linter.unnecessarySimpa false
section
set_option maxRecDepth 100000
namespace Go.Proofs.YtcogajgikmcfpaaGreatDoor
open Go.Shelf
def Tryz.lays156_ren : Go.Shelf.Ren := ⟨fun | 156 => 20 | 165 => 42 | 166 => 43 | 169 => 44 | 240 => 65 | 241 => 66 | 276 => 88 | 277 => 89 | n => n, fun | 31 => 35 | 9 => 9 | 3 => 3 | 4 => 4 | 0 => 0 | 20 => 20 | 72 => 90 | 76 => 94 | 70 => 88 | 37 => 71 | 75 => 93 | 127 => 120 | 164 => 141 | 5 => 5 | 80 => 96 | n => n, fun | n => n⟩
theorem Tryz.lays156 : Go.Proofs.Lays.n156 Tryz.prog Tryz.lays156_ren := {
  mixed := by kernel_rfl
  f156 := Tryz.func20.trans (congrArg some (by kernel_rfl))
  f165 := Tryz.func42.trans (congrArg some (by kernel_rfl))
  f166 := Tryz.func43.trans (congrArg some (by kernel_rfl))
  f169 := Tryz.func44.trans (congrArg some (by kernel_rfl))
  f240 := Tryz.func65.trans (congrArg some (by kernel_rfl))
  f241 := Tryz.func66.trans (congrArg some (by kernel_rfl))
  f276 := Tryz.func88.trans (congrArg some (by kernel_rfl))
  f277 := Tryz.func89.trans (congrArg some (by kernel_rfl))
  t0 := Tryz.underlying0
  a0 := Tryz.isAgg0
  z0 := Tryz.sizeOf0
  v0 := Tryz.zeroValue0
  t3 := Tryz.underlying3
  a3 := Tryz.isAgg3
  z3 := Tryz.sizeOf3
  v3 := Tryz.zeroValue3
  t4 := Tryz.underlying4
  a4 := Tryz.isAgg4
  z4 := Tryz.sizeOf4
  v4 := Tryz.zeroValue4
  t9 := Tryz.underlying9
  a9 := Tryz.isAgg9
  z9 := Tryz.sizeOf9
  v9 := Tryz.zeroValue9
  t20 := Tryz.underlying20
  a20 := Tryz.isAgg20
  z20 := Tryz.sizeOf20
  v20 := Tryz.zeroValue20
  t31 := Tryz.underlying35
  a31 := Tryz.isAgg35
  z31 := Tryz.sizeOf35
  v31 := Tryz.zeroValue35
  t37 := Tryz.underlying71
  a37 := Tryz.isAgg71
  z37 := Tryz.sizeOf71
  v37 := Tryz.zeroValue71
  t70 := Tryz.underlying88
  a70 := Tryz.isAgg88
  z70 := Tryz.sizeOf88
  v70 := Tryz.zeroValue88
  t72 := Tryz.underlying90
  a72 := Tryz.isAgg90
  z72 := Tryz.sizeOf90
  v72 := Tryz.zeroValue90
  t75 := Tryz.underlying93
  a75 := Tryz.isAgg93
  z75 := Tryz.sizeOf93
  v75 := Tryz.zeroValue93
  t76 := Tryz.underlying94
  a76 := Tryz.isAgg94
  z76 := Tryz.sizeOf94
  v76 := Tryz.zeroValue94
  t127 := Tryz.underlying120
  a127 := Tryz.isAgg120
  z127 := Tryz.sizeOf120
  v127 := Tryz.zeroValue120
  t164 := Tryz.underlying141
  a164 := Tryz.isAgg141
  z164 := Tryz.sizeOf141
  v164 := Tryz.zeroValue141 }
theorem Tryz.Builder_Extra_156 : Builder.Extra Tryz.prog Tryz.lays156_ren := {
  sizeBuilder := by kernel_rfl
  liesBuilder := by kernel_rfl
  t5 := Tryz.underlying5
  a5 := Tryz.isAgg5
  z5 := Tryz.sizeOf5
  v5 := Tryz.zeroValue5
  infoByte := by kernel_rfl
  cellsByte := by kernel_rfl
  sizeByte := by kernel_rfl
  neB5 := by decide }
open Go.RowKit in
theorem Tryz.strings_Join_none (a : Option Addr) (c : Nat) (sep : ByteArray) (w : World) :
    Calls Tryz.prog 20 #[.slice a 0 c, .string sep] w fun e w' => e = .returned (.string ⟨#[]⟩) ∧ w' = w := Any.strings_Join_none Tryz.lays156 Tryz.Builder_Extra_156 a c sep w
open Go.RowKit in
theorem Tryz.strings_Join (bk o c : Nat) (xs : List ByteArray) (sep : ByteArray) (w : World) (hcells : ∀ (j : Nat) x, xs[j]? = some x → w.cell? ⟨bk, o + j, none⟩ = some (.string x)) (hbk : bk < w.heap.size) (hN : xs.length ≤ 140737488355328) (hcap : xs.length ≤ c) (hlen : (Lib.join (xs.map (·.data.toList)) sep.data.toList).length ≤ 140737488355328) :
    Calls Tryz.prog 20 #[.slice (some ⟨bk, o, none⟩) xs.length c, .string sep] w fun e w' => e = .returned (.string ⟨(Lib.join (xs.map (·.data.toList)) sep.data.toList).toArray⟩) ∧ Below w.heap.size w w' := Any.strings_Join Tryz.lays156 Tryz.Builder_Extra_156 bk o c xs sep w hcells hbk hN hcap hlen
end Go.Proofs.YtcogajgikmcfpaaGreatDoor
end

section
set_option maxRecDepth 100000
namespace Go.Proofs.YtcogajgikmcfpaaGreatDoor
open Go.FM
open Go.RowKit (Below)
theorem mixedY : Tryz.prog.follows .mixedOrders = true := by decide +kernel
theorem bodyY {f : FuncId} {fn : Func} (h1 : Tryz.prog.funcs[f]? = some fn) (h2 : fn.body.isSome = true) (h3 : (fn.name == "runtime.NumGoroutine") = false) : Body Tryz.prog f := by
  obtain ⟨cd, h⟩ := Option.isSome_iff_exists.1 h2
  exact ⟨fn, cd, h1, h, h3⟩
theorem body57 : Body Tryz.prog 57 := bodyY (fn := Tryz.f57) (by kernel_rfl) (by kernel_rfl) (by kernel_rfl)
theorem body67 : Body Tryz.prog 67 := bodyY (fn := Tryz.f67) (by kernel_rfl) (by kernel_rfl) (by kernel_rfl)
theorem body60 : Body Tryz.prog 60 := bodyY (fn := Tryz.f60) (by kernel_rfl) (by kernel_rfl) (by kernel_rfl)
theorem body20 : Body Tryz.prog 20 := bodyY (fn := Tryz.f20) (by kernel_rfl) (by kernel_rfl) (by kernel_rfl)
theorem body99 : Body Tryz.prog 99 := bodyY (fn := Tryz.f99) (by kernel_rfl) (by kernel_rfl) (by kernel_rfl)
section
variable [Env]
theorem pbH_ok : HookOk Tryz.prog 6 99 pbH := by
  intro args h c v h' c' he hv
  refine ⟨body99, ?_⟩
  unfold pbH at he
  split at he
  · split at he
    · rename_i n d
      split at he
      · rename_i hk
        simp only [Bool.and_eq_true] at hk
        have h1 := Nat.eq_of_beq_eq_true hk.1
        have h2 := Nat.eq_of_beq_eq_true hk.2
        subst h1; subst h2
        simp only [CR.ok.injEq] at he
        obtain ⟨rfl, rfl, rfl⟩ := he
        have hp : (pbytes [54, 49]).1 = .agg #[.int .i64 2, .int .i64 0, .string ⟨#[97]⟩, .complex .f64 0 0] ∧ (pbytes [54, 49]).2 = 0 := ⟨by kernel_rfl, by kernel_rfl⟩
        refine CallT.still (v0 := .tuple #[.agg #[.int .i64 2, .int .i64 0, .string ⟨#[97]⟩, .complex .f64 0 0], .int .i64 0]) (fun g => ⟨[_, _], rfl, rfl, fun i x u hx hu => ?_⟩) fun w g vs hi ha => ?_
        · rcases i with _ | _ | i
          · simp at hx hu; subst hx; subst hu
            refine ⟨[.int .i64 2, .int .i64 0, .string ⟨#[97]⟩, .complex .f64 0 0], rfl, rfl, fun i x u hx hu => ?_⟩
            rcases i with _ | _ | _ | _ | i
            · simp at hx hu; subst hx; subst hu; exact ⟨rfl, rfl⟩
            · simp at hx hu; subst hx; subst hu; exact ⟨rfl, rfl⟩
            · simp at hx hu; subst hx; subst hu; exact ⟨⟨by decide, by rfl⟩, rfl⟩
            · simp at hx hu; subst hx; subst hu; exact ⟨rfl, rfl⟩
            · simp at hx
          · simp at hx hu; subst hx; subst hu; rfl
          · simp at hx
        · obtain ⟨u, rfl⟩ := List.length_eq_one_iff.1 ha.1
          have e1 : u = strOf 2 12598 := (ha.2 0 _ u rfl rfl).2
          subst e1
          have hs : strOf 2 12598 = .string (bs [54, 49]) := by rfl
          have := Tryz.parseBytes [54, 49] (by decide) w
          rw [hp.1, hp.2, ← hs] at this
          exact this
      · cases he
    · cases he
  · cases he
theorem idxY : HookOk Tryz.prog 6 57 idxH := idxH_ok body57 fun s c w => Tryz.strings_IndexByte s c w
theorem joinY : HookOk Tryz.prog 6 20 (joinH 6) := joinH_ok body20 (fun bk o c xs sep w h1 h2 h3 h4 h5 => Tryz.strings_Join bk o c xs sep w h1 h2 h3 h4 h5) (fun A c sep w => Tryz.strings_Join_none A c sep w)
theorem intY : HookOk Tryz.prog 6 60 intH := intH_ok body60 fun s v w hs hp => by
  refine (Tryz.strconv_ParseInt_10_at64_ok s hs v hp w).mono ?_
  rintro e w' ⟨rfl, hw⟩
  refine ⟨rfl, ?_⟩
  rcases hw with rfl | ⟨t, rfl⟩
  · exact Below.refl _ _
  · exact Lib.bytesWorld_below _ _ _
def TabY (w : World) : Prop := Lib.TabIs Tryz.prog w "internal/strconv.uint64pow10" .u64 Lib.pow10Tab
theorem fmtY (ht : ∀ w, Kept w → TabY w) : HookOk Tryz.prog 6 67 fmtH := fmtH_ok body67 fun n w h0 h1 hk => by
  refine (Tryz.strconv_FormatInt_10 n h0 h1 w (ht w hk)).mono ?_
  rintro e w' ⟨rfl, k, os, rfl⟩
  exact ⟨rfl, Lib.below_grow _ w (Nat.le_refl _) k os⟩
theorem extB_ok (ht : ∀ w, Kept w → TabY w) : ExtOk Tryz.prog 6 extB := by
  intro f q h
  unfold extB at h
  cases h57 : Nat.beq f 57 with
  | true =>
    rw [h57] at h
    have := Nat.eq_of_beq_eq_true h57
    subst this
    simp only [Option.some.injEq] at h; subst h
    exact idxY
  | false =>
    rw [h57] at h
    cases h67 : Nat.beq f 67 with
    | true =>
      rw [h67] at h
      have := Nat.eq_of_beq_eq_true h67
      subst this
      simp only [Option.some.injEq] at h; subst h
      exact (fmtY ht)
    | false =>
      rw [h67] at h
      cases h60 : Nat.beq f 60 with
      | true =>
        rw [h60] at h
        have := Nat.eq_of_beq_eq_true h60
        subst this
        simp only [Option.some.injEq] at h; subst h
        exact intY
      | false =>
        rw [h60] at h
        cases h20 : Nat.beq f 20 with
        | true =>
          rw [h20] at h
          have := Nat.eq_of_beq_eq_true h20
          subst this
          simp only [Option.some.injEq] at h; subst h
          exact joinY
        | false =>
          rw [h20] at h
          cases h99 : Nat.beq f 99 with
          | true =>
            rw [h99] at h
            have := Nat.eq_of_beq_eq_true h99
            subst this
            simp only [Option.some.injEq] at h; subst h
            exact pbH_ok
          | false =>
            rw [h99] at h
            cases h
end
end Go.Proofs.YtcogajgikmcfpaaGreatDoor
end

section
set_option maxRecDepth 100000
namespace Go.Proofs.YtcogajgikmcfpaaGreatDoor
open Go.FM
open Go.RowKit (Below)
section
variable [Env]
end
theorem tab_of {W w : World} (h : TabY W) (hk : ∀ b o, (if b < W.heap.size then W.heap[b]? else none) = some o → w.heap[b]? = some o) : TabY w := by
  unfold TabY Lib.TabIs at *
  unfold World.var? at *
  cases hg : Tryz.prog.globalNamed "internal/strconv.uint64pow10" with
  | none => simp [hg] at h
  | some g =>
    simp only [hg, Option.bind_some] at h ⊢
    have hlt : g < W.heap.size := by
      rcases Nat.lt_or_ge g W.heap.size with h1 | h1
      · exact h1
      · simp [Array.getElem?_eq_none h1] at h
    have : w.heap[g]? = W.heap[g]? := by
      rw [Array.getElem?_eq_getElem hlt]
      exact hk g _ (by rw [if_pos hlt, Array.getElem?_eq_getElem hlt])
    rw [this]
    exact h
end Go.Proofs.YtcogajgikmcfpaaGreatDoor
end

section
set_option maxRecDepth 100000
namespace Go.Proofs.YtcogajgikmcfpaaGreatDoor
open Go.FM
open Go.RowKit (Below)
theorem known_calls (W : World) (hT : TabY W) : Calls Tryz.prog 5 #[] W fun e w' => e = .returned (.bool true) ∧ Below W.heap.size W w' := by
  let E : Env := ⟨0, fun _ => 0, fun i j _ h => absurd h (Nat.not_lt_zero _), fun b => if b < W.heap.size then W.heap[b]? else none⟩
  have ht : ∀ w, @Kept E w → TabY w := fun w hk => tab_of hT fun b o h => hk b o h
  have hk : @Kept E W := fun b o h => by
    have h : (if b < W.heap.size then W.heap[b]? else none) = some o := h
    split at h
    · exact h
    · cases h
  exact (@law_fastY E _ _ _ _ _ _ _ mixedY (@extB_ok E ht) known5 [] (@args_nil E _ _) W hk).2
end Go.Proofs.YtcogajgikmcfpaaGreatDoor
end

section
namespace Go.Proofs.YtcogajgikmcfpaaGreatDoor
open Go.FM
open Go.RowKit (Below)
set_option maxRecDepth 100000
section
variable [Env]
theorem creps_nil {g : Gm} {c : Nat} : CReps g c [] [] := ⟨rfl, fun i x u h => by simp at h⟩
theorem creps_cons {g : Gm} {c : Nat} {x : HV} {v : Value} {xs : List HV} {vs : List Value} (h : CRep g c x v) (h1 : v.oneCell' = true) (k : CReps g c xs vs) : CReps g c (x :: xs) (v :: vs) := by
  refine ⟨by simp [k.1], fun i y u hy hu => ?_⟩
  cases i with
  | zero => simp at hy hu; subst hy; subst hu; exact ⟨h, h1⟩
  | succ i => exact k.2 i y u (by simpa using hy) (by simpa using hu)
theorem arg_pred {g : Gm} {c : Nat} : TRep g c (.agg [.int .i64 0, .int .i64 0, .int .i64 0, .int .i64 0, .str 0 0, .cpx .f64 0 0, .cpx .f64 0 0, .cpx .f64 0 0, .nils]) (.agg pred9) :=
  ⟨pred9.toList, by simp [pred9], creps_cons rfl rfl (creps_cons rfl rfl (creps_cons rfl rfl (creps_cons rfl rfl (creps_cons ⟨by decide, rfl⟩ rfl (creps_cons rfl rfl (creps_cons rfl rfl (creps_cons rfl rfl (creps_cons rfl rfl creps_nil))))))))⟩
end
noncomputable def same0 : Bool := isTrue (callY Tryz.prog 6 10000000 (fun _ => none) 60 9 [.agg [.int .i64 0, .int .i64 0, .int .i64 0, .int .i64 0, .str 0 0, .cpx .f64 0 0, .cpx .f64 0 0, .cpx .f64 0 0, .nils], .agg [.int .i64 0, .int .i64 0, .int .i64 0, .int .i64 0, .str 0 0, .cpx .f64 0 0, .cpx .f64 0 0, .cpx .f64 0 0, .nils]] .nil 0)
theorem same0_true : same0 = true := by decide +kernel
theorem Tryz.predSame0 (W : World) : Calls Tryz.prog 9 #[.agg pred9, .agg pred9] W fun e w' => e = .returned (.bool true) ∧ Below W.heap.size W w' :=
  (@law_fastY noEnv _ _ _ _ _ _ _ mixedY (fun f q h => by cases h) same0_true _ (@args_cons noEnv _ _ _ _ _ _ (@arg_pred noEnv _ _) (@args_cons noEnv _ _ _ _ _ _ (@arg_pred noEnv _ _) (@args_nil noEnv _ _))) W (fun b o h => by cases h)).2
end Go.Proofs.YtcogajgikmcfpaaGreatDoor
end

section
namespace Go.Proofs.YtcogajgikmcfpaaGreatDoor
open Go.RowKit Go.NW Go.NR
set_option maxRecDepth 100000
structure LawS (w W : World) (i : Nat) (v : Value) (R : List (List Int)) (svs : List Value) : Prop where
  wr : WR 46 25 W w.heap.size v R svs
  good : GR R
  cnt : cnt R = i
  emp : R = [] ↔ i = 0
  bel : Below w.heap.size w W
theorem gr_snoc {R : List (List Int)} {r : List Int} (h : GR R) (h0 : r ≠ []) (h1 : ∀ n ∈ r, I64 n) : GR (R ++ [r]) := by
  intro q hq
  rcases List.mem_append.1 hq with hq | hq
  · exact h q hq
  · simp at hq; subst hq; exact ⟨h0, h1⟩
theorem gr_left {R R' : List (List Int)} (h : GR (R ++ R')) : GR R := fun q hq => h q (List.mem_append_left _ hq)
theorem own_slice {w : World} {B : Nat} {e : TypeId} {size : Nat} {v : Value} {n : Nat} {xs : List Value} (h : w.ownsRow B e size v n xs) : ∃ a c, v = .slice a n c := by
  rcases h.2 with ⟨rfl, rfl⟩ | ⟨g, cap, cur, rfl, _⟩
  · exact ⟨none, 0, rfl⟩
  · exact ⟨_, _, rfl⟩
set_option maxHeartbeats 4000000 in
theorem Tryz.lawWalk {w : World} (hD : DoorI w.heap.size w) (hT : TabY w) (A : Option Addr) (n c0 : Nat) (b : Nat) (z : Nat → Int) (hb : b < 256) (hz : ∀ j, I64 (z j)) (hA : ∀ j, j < n → ∃ X, A = some X ∧ w.cell? (X.add j) = some (.int .i64 (z j))) (h60 : n ≤ 60) (h0 : 0 < n) :
    Calls Tryz.prog 4 #[.slice A n c0, .int .u8 (b : Int)] w fun e w' => e = .returned (.bool true) ∧ Below w.heap.size w w' := by
  have HK := Lib.hid (known_calls w hT)
  have HDR := Lib.hid hD
  have HA := Lib.hid hA
  have HZ := Lib.hid hz
  obtain ⟨KK, hK⟩ : ∃ KK, 1 + b % 5 = KK := ⟨_, rfl⟩
  have hK1 : 0 < KK := by omega
  have hK5 : KK ≤ 5 := by omega
  have hKI : 1 + (b : Int) % 5 = (KK : Int) := by omega
  have e0 : decide ((n : Int) = 0) = false := decide_eq_false (by omega)
  have e0' : ((n : Int) == 0) = false := by simp; omega
  have e0'' : decide (n = 0) = false := decide_eq_false (by omega)
  have e1 : decide ((n : Int) > 60) = false := decide_eq_false (by omega)
  have e1' : decide (60 < (n : Int)) = false := decide_eq_false (by omega)
  have e1'' : decide (60 < n) = false := decide_eq_false (by omega)
  clear hD hT hA hz hK
  go_enter Tryz.func4, Tryz.ntmps4
  go_wp2_with fail
  refine HK.out.mono ?_
  rintro e w1 ⟨rfl, b1⟩
  have S0 : Hid (LawS w w1 0 (.slice none 0 0) [] []) := Lib.hid ⟨WR.nil _ _ _ _, (fun q hq => by simp at hq), rfl, by simp, b1⟩
  clear b1 HK
  go_wp2_with fail
  go_loopw [6, 7, 8] (fun t6 v t8 W => ∃ (i : Nat) (R : List (List Int)) (svs : List Value), i ≤ n ∧ t8 = .int .i64 i ∧ t6 = .string (bs (appendB ++ RT R)) ∧ Hid (LawS w W i v R svs)) (fun _ _ t8 _ => n - (intO t8).toNat)
  case atStart => exact ⟨0, [], [], Nat.zero_le _, rfl, rfl, S0⟩
  case round =>
    rename World => W
    obtain ⟨i, R, svs, hi, rfl, rfl, HS⟩ := hrel
    by_cases hlt : i < n
    · have d2 : decide ((i : Int) < n) = true := decide_eq_true (by omega)
      have d2' : decide (i < n) = true := decide_eq_true hlt
      obtain ⟨X, hX, hxc0⟩ := HA.out i hlt
      subst hX
      obtain ⟨x, hx⟩ : ∃ x, z i = x := ⟨_, rfl⟩
      rw [hx] at hxc0
      have HXI : Hid (I64 x) := Lib.hid (by rw [← hx]; exact HZ.out i)
      have HXC := Lib.hid hxc0
      have HXL := Lib.hid (block_lt_of_cell hxc0)
      have HTL0 : Hid ((appendB ++ RT R).length ≤ 1500) := Lib.hid (by
        have h1 := RT_len R HS.out.good
        have h2 := HS.out.cnt
        simp [appendB]
        omega)
      obtain ⟨q, hq⟩ : ∃ q, i % KK = q := ⟨_, rfl⟩
      have hqI : (i : Int) % (KK : Int) = (q : Int) := by rw [← hq]; exact (Int.natCast_emod i KK).symm
      have hKpos : (0 : Int) < (KK : Int) := by omega
      have hq5 : q < 5 := by rw [← hq]; exact Nat.lt_of_lt_of_le (Nat.mod_lt _ hK1) hK5
      have HQ := Lib.hid hq
      clear hx hxc0 hq
      by_cases hq0 : q = 0
      · subst hq0
        have f0 : decide ((0 : Int) = 0) = true := by decide
        have A1 := Lib.hid ((Below.refl _ W).alloc (Nat.le_refl _) (.cells #[.slice none 0 0] 46))
        have W1' := Lib.hid (HS.out.wr.below A1.out)
        have C1 := Lib.hid (one_cell W 46 (.slice none 0 0))
        have hsv60 : svs.length ≤ 61 := by
          have h1 := cnt_ge R HS.out.good
          have h2 := HS.out.cnt
          have h3 := HS.out.wr.len
          omega
        by_cases hi0 : i = 0
        · have f1 : decide ((i : Int) > 0) = false := decide_eq_false (by omega)
          have f1' : decide (0 < (i : Int)) = false := decide_eq_false (by omega)
          have f1'' : decide (0 < i) = false := decide_eq_false (by omega)
          obtain ⟨T0, hT0⟩ : ∃ T0, appendB ++ RT R = T0 := ⟨_, rfl⟩
          have HTL : Hid (T0.length ≤ 2000) := Lib.hid (by rw [← hT0]; have := HTL0.out; omega)
          have HTX : Hid (T0 ++ Lib.itoa x = appendB ++ RT (R ++ [[] ++ [x]])) := Lib.hid (by
            rw [← hT0, HS.out.emp.2 hi0]
            simp [RT, tR, rT, tV])
          rw [hT0]
          clear hT0 hi0
          go_wp2_with (at_builtin; refine wpList_app Tryz.E36 rfl (.tmp 37) (.tmp 38) rfl w.heap.size _ svs.length svs rfl W1'.out.own W.heap.size 1 1 [.slice none 0 0] rfl rfl C1.out (by intro u hu; simp at hu; subst hu; rfl) (by omega) (by have := HS.out.bel.size; simp; omega) ?_)
          intro v1 W1 o1 g1
          have hgood : GR (R ++ [[] ++ [x]]) := gr_snoc HS.out.good (by simp) fun k hk => by simp at hk; subst hk; exact HXI.out
          have hcnt : cnt (R ++ [[] ++ [x]]) = i + 1 := by rw [cnt_snoc, HS.out.cnt]; rfl
          have hwr : WR 46 25 W1 w.heap.size v1 (R ++ [[]]) (svs ++ [.slice none 0 0]) := W1'.out.push (World.ownsRow_nil _ _ _ _) (fun y hy k hk e => by cases e) o1 g1 (by decide)
          obtain ⟨G, CC, hv, _⟩ := own_at hwr.own (by simp)
          obtain ⟨N2, hN2⟩ : ∃ N2, (svs ++ [Value.slice none 0 0]).length = N2 := ⟨_, rfl⟩
          rw [hN2] at hv
          subst hv
          obtain ⟨a, ha⟩ : ∃ a : Option Addr, none = a := ⟨_, rfl⟩
          obtain ⟨m, hm⟩ : ∃ m, 0 = m := ⟨_, rfl⟩
          obtain ⟨c, hc⟩ : ∃ c, 0 = c := ⟨_, rfl⟩
          obtain ⟨r, hr⟩ : ∃ r : List Int, r = [] := ⟨_, rfl⟩
          replace hwr : WR 46 25 W1 w.heap.size (.slice (some ⟨G, 0, none⟩) N2 CC) (R ++ [r]) (svs ++ [.slice a m c]) := by rw [hr, ← ha, ← hm, ← hc]; exact hwr
          replace hgood : GR (R ++ [r ++ [x]]) := by rw [hr]; exact hgood
          replace hcnt : cnt (R ++ [r ++ [x]]) = i + 1 := by rw [hr]; exact hcnt
          replace HTX : Hid (T0 ++ Lib.itoa x = appendB ++ RT (R ++ [r ++ [x]])) := Lib.hid (by rw [hr]; exact HTX.out)
          have HWR : Hid (WR 46 25 W1 w.heap.size (.slice (some ⟨G, 0, none⟩) N2 CC) (R ++ [r]) (svs ++ [.slice a m c])) := Lib.hid hwr
          have HWB : Hid (Below w.heap.size w W1) := Lib.hid ((HS.out.bel.alloc HS.out.bel.size _).grown g1 (by have := HS.out.bel.size; simp; omega) fun k hk => (W1'.out.own.lt k hk).1)
          have HGOOD := Lib.hid hgood
          have HCNT := Lib.hid hcnt
          have HM : Hid (r.length = m) := Lib.hid (by rw [hr, ← hm]; rfl)
          clear o1 g1 hwr hN2 ha hm hc hr hgood hcnt W1' A1 C1
          have hxc : W1.cell? (X.add i) = some (.int .i64 x) := (HWB.out.cell HXL.out).trans HXC.out
          obtain ⟨M0, hM0⟩ : ∃ M0, T0.length = M0 := ⟨_, rfl⟩
          have hsz0 : (bs T0).size = M0 := by rw [bs_size, hM0]
          have hM02 : M0 ≤ 2000 := by rw [← hM0]; exact HTL.out
          obtain ⟨M1, hM1⟩ : ∃ M1, (Lib.itoa x).length = M1 := ⟨_, rfl⟩
          have hsz1 : (bs (Lib.itoa x)).size = M1 := by rw [bs_size, hM1]
          have hM12 : M1 ≤ 21 := by rw [← hM1]; exact Lib.itoa_length_le x HXI.out.1 HXI.out.2
          have hba := bs_app T0 (Lib.itoa x)
          clear hM0 hM1
          go_wp2_with fail
          refine (Tryz.decimalAny x HXI.out _).mono ?_
          rintro e W2 ⟨rfl, b2⟩
          have HWB2 := Lib.hid (HWB.out.trans (b2.mono HWB.out.size))
          go_wp2_with fail
          clear hsz0 hM02 hsz1 hM12 hba hxc
          have HWR2 := Lib.hid (HWR.out.below b2)
          have HROW : Hid (VO 25 W2 w.heap.size (.slice a m c) r) := Lib.hid (HWR2.out.row R.length r _ (by simp) (by have := HWR2.out.len; simp at this; rw [← this]; simp))
          have HGN : Hid (¬ ((Value.slice a m c).ownBlock = some G)) := Lib.hid fun e => own_ne HWR2.out.own HROW.out (by decide) G rfl e
          have hgown := HWR2.out.own
          have hne0 : (svs ++ [Value.slice a m c]).length ≠ 0 := by simp
          obtain ⟨G', c', hge, hgb0, hglt, hgn, hgm, hgc, hgz⟩ := own_at hgown hne0
          simp only [Value.slice.injEq, Option.some.injEq, Addr.mk.injEq, and_true, true_and] at hge
          obtain ⟨rfl, hnn, rfl⟩ := hge
          have hdl : svs.length + 1 = N2 := by rw [hnn]; simp
          obtain ⟨d, hd⟩ : ∃ d, svs.length = d := ⟨_, rfl⟩
          rw [hd] at hdl
          have HGC : Hid (W2.cell? ⟨G, d, none⟩ = some (.slice a m c)) := Lib.hid ((hgc d (by rw [← hnn]; omega)).trans (by rw [← hd]; simp))
          have HGZ : Hid (W2.frozen? ⟨G, d, none⟩ = false) := Lib.hid (hgz d)
          have HGL : Hid ((⟨G, d, none⟩ : Addr).block < W2.heap.size) := Lib.hid hglt
          have HXC2 : Hid (W2.cell? (X.add i) = some (.int .i64 x)) := Lib.hid ((HWB2.out.cell HXL.out).trans HXC.out)
          have HXL2 : Hid ((X.add i).block < W2.heap.size) := Lib.hid (Nat.lt_of_lt_of_le HXL.out HWB2.out.size)
          have HXN : Hid (¬ ((Value.slice a m c).ownBlock = some (X.add i).block)) := Lib.hid fun e => by have := (HROW.out.lt _ e).1; have := HXL.out; omega
          have HD := Lib.hid hd
          have HGB : Hid (w.heap.size ≤ (⟨G, d, none⟩ : Addr).block) := Lib.hid hgb0
          have HXG : Hid (¬ ((X.add i).block = G)) := Lib.hid fun e => by have := HXL.out; omega
          have HRL : Hid (r.length ≤ 60) := Lib.hid (by have := HCNT.out; rw [cnt_snoc] at this; simp at this; omega)
          have hN2 : N2 ≤ 61 := by
            have h1 := cnt_ge _ HGOOD.out
            have h2 := HCNT.out
            have h3 := HWR2.out.len
            simp at h1 h3
            omega
          have hNi : (N2 : Int) - 1 = (d : Int) := by omega
          have hNw : IntKind.i64.wrap ((N2 : Int) - 1) = (d : Int) := by rw [IntKind.wrap_i64]; omega
          have hdN : decide (d < N2) = true := decide_eq_true (by omega)
          have hdN2 : decide ((d : Int) < N2) = true := decide_eq_true (by omega)
          have hd0 : (0 : Int) ≤ d := by omega
          have hdlt : d < N2 := by omega
          have HXL := HXL2
          have HNN := Lib.hid (fun w => Tryz.nn x w)
          unfold vN at HNN
          have HHNW := Lib.hid hNw
          have HHNI := Lib.hid hNi
          clear b2 hgown hne0 hgb0 hglt hgn hgm hgc hgz hnn hd hdl hNi
          refine wp_region_noPanic ?_
          refine wp_region_held_drew (S := (fun V => V.cell? (X.add i) = some (.int .i64 x))) (by kernel_rfl) ?_ (fun hHeld => ?_)
          · exact HXC2.out
          obtain ⟨V0, hV0⟩ : ∃ V0, W2.drew = V0 := ⟨_, rfl⟩
          have K0 : Hid (Below W2.heap.size W2 V0) := Lib.hid (by rw [← hV0]; exact (Below.refl _ W2).drew)
          rw [hV0] at hHeld ⊢
          clear hV0
          refine wpAnyH_take (i := 0) (oi := { dst := some 53, op := Op.move (Operand.tmp 7), type := 36, pos := "more.go:58", after := #[], guard := none }) (v := ?_) rfl (by kernel_rfl) (by kernel_rfl) (by kernel_rfl) (fun _ _ _ h => h) (Or.inl ⟨by rfl, ?_⟩) (by assumption) ?_
          rotate_left
          · (intro w hSw; (try dsimp only at hSw); go_simp; try with_reducible rfl)
          try simp only [Act.put, List.setIfInBounds_toArray, List.set_cons_zero, List.set_cons_succ]
          refine wpAnyH_take (i := 1) (oi := { dst := some 54, op := Op.move (Operand.tmp 7), type := 36, pos := "more.go:58", after := #[], guard := none }) (v := ?_) rfl (by kernel_rfl) (by kernel_rfl) (by kernel_rfl) (fun _ _ _ h => h) (Or.inl ⟨by rfl, ?_⟩) (by assumption) ?_
          rotate_left
          · (intro w hSw; (try dsimp only at hSw); go_simp; try with_reducible rfl)
          try simp only [Act.put, List.setIfInBounds_toArray, List.set_cons_zero, List.set_cons_succ]
          refine wpAnyH_take (i := 2) (oi := { dst := some 55, op := Op.call { callee := Callee.builtin Builtin.len, args := #[Operand.tmp 54], argTypes := #[36] }, type := 3, pos := "more.go:58", after := #[{ on := 1, ground := Ground.data }], guard := none }) (v := ?_) rfl (by kernel_rfl) (by kernel_rfl) (by kernel_rfl) (fun _ _ _ h => h) (Or.inl ⟨by rfl, ?_⟩) (by assumption) ?_
          rotate_left
          · (intro w hSw; (try dsimp only at hSw); go_simp; try with_reducible rfl)
          try simp only [Act.put, List.setIfInBounds_toArray, List.set_cons_zero, List.set_cons_succ]
          refine wpAnyH_take (i := 3) (oi := { dst := some 56, op := Op.binOp BinOp.sub 3 (Operand.tmp 55) (Operand.const (Value.int IntKind.i64 1)) 3, type := 3, pos := "more.go:58", after := #[{ on := 2, ground := Ground.data }], guard := none }) (v := ?_) rfl (by kernel_rfl) (by kernel_rfl) (by kernel_rfl) (fun _ _ _ h => h) (Or.inl ⟨by rfl, ?_⟩) (by assumption) ?_
          rotate_left
          · (intro w hSw; (try dsimp only at hSw); go_simp; try with_reducible rfl)
          try simp only [Act.put, List.setIfInBounds_toArray, List.set_cons_zero, List.set_cons_succ]
          refine wpAnyH_take (i := 4) (oi := { dst := some 57, op := Op.move (Operand.tmp 7), type := 36, pos := "more.go:58", after := #[], guard := none }) (v := ?_) rfl (by kernel_rfl) (by kernel_rfl) (by kernel_rfl) (fun _ _ _ h => h) (Or.inl ⟨by rfl, ?_⟩) (by assumption) ?_
          rotate_left
          · (intro w hSw; (try dsimp only at hSw); go_simp; try with_reducible rfl)
          try simp only [Act.put, List.setIfInBounds_toArray, List.set_cons_zero, List.set_cons_succ]
          refine wpAnyH_take (i := 5) (oi := { dst := some 58, op := Op.move (Operand.tmp 7), type := 36, pos := "more.go:58", after := #[], guard := none }) (v := ?_) rfl (by kernel_rfl) (by kernel_rfl) (by kernel_rfl) (fun _ _ _ h => h) (Or.inl ⟨by rfl, ?_⟩) (by assumption) ?_
          rotate_left
          · (intro w hSw; (try dsimp only at hSw); go_simp; try with_reducible rfl)
          try simp only [Act.put, List.setIfInBounds_toArray, List.set_cons_zero, List.set_cons_succ]
          refine wpAnyH_take (i := 6) (oi := { dst := some 59, op := Op.call { callee := Callee.builtin Builtin.len, args := #[Operand.tmp 58], argTypes := #[36] }, type := 3, pos := "more.go:58", after := #[{ on := 5, ground := Ground.data }], guard := none }) (v := ?_) rfl (by kernel_rfl) (by kernel_rfl) (by kernel_rfl) (fun _ _ _ h => h) (Or.inl ⟨by rfl, ?_⟩) (by assumption) ?_
          rotate_left
          · (intro w hSw; (try dsimp only at hSw); go_simp; try with_reducible rfl)
          try simp only [Act.put, List.setIfInBounds_toArray, List.set_cons_zero, List.set_cons_succ]
          refine wpAnyH_take (i := 7) (oi := { dst := some 60, op := Op.binOp BinOp.sub 3 (Operand.tmp 59) (Operand.const (Value.int IntKind.i64 1)) 3, type := 3, pos := "more.go:58", after := #[{ on := 6, ground := Ground.data }], guard := none }) (v := ?_) rfl (by kernel_rfl) (by kernel_rfl) (by kernel_rfl) (fun _ _ _ h => h) (Or.inl ⟨by rfl, ?_⟩) (by assumption) ?_
          rotate_left
          · (intro w hSw; (try dsimp only at hSw); go_simp; try with_reducible rfl)
          try simp only [Act.put, List.setIfInBounds_toArray, List.set_cons_zero, List.set_cons_succ]
          refine wpAnyH_take (i := 8) (oi := { dst := some 61, op := Op.indexAddr 36 (Operand.tmp 57) (Operand.tmp 60), type := 0, pos := "more.go:58", after := #[{ on := 4, ground := Ground.data }, { on := 7, ground := Ground.data }], guard := none }) (v := ?_) rfl (by kernel_rfl) (by kernel_rfl) (by kernel_rfl) (fun _ _ _ h => h) (Or.inl ⟨by rfl, ?_⟩) (by assumption) ?_
          rotate_left
          · (intro w hSw; (try dsimp only at hSw); go_simp; try with_reducible rfl)
          try simp only [Act.put, List.setIfInBounds_toArray, List.set_cons_zero, List.set_cons_succ]
          refine wpAnyH_take (i := 10) (oi := { dst := some 63, op := Op.move (Operand.tmp 0), type := 44, pos := "more.go:58", after := #[], guard := none }) (v := ?_) rfl (by kernel_rfl) (by kernel_rfl) (by kernel_rfl) (fun _ _ _ h => h) (Or.inl ⟨by rfl, ?_⟩) (by assumption) ?_
          rotate_left
          · (intro w hSw; (try dsimp only at hSw); go_simp; try with_reducible rfl)
          try simp only [Act.put, List.setIfInBounds_toArray, List.set_cons_zero, List.set_cons_succ]
          refine wpAnyH_take (i := 11) (oi := { dst := some 64, op := Op.move (Operand.tmp 8), type := 3, pos := "more.go:58", after := #[], guard := none }) (v := ?_) rfl (by kernel_rfl) (by kernel_rfl) (by kernel_rfl) (fun _ _ _ h => h) (Or.inl ⟨by rfl, ?_⟩) (by assumption) ?_
          rotate_left
          · (intro w hSw; (try dsimp only at hSw); go_simp; try with_reducible rfl)
          try simp only [Act.put, List.setIfInBounds_toArray, List.set_cons_zero, List.set_cons_succ]
          refine wpAnyH_take (i := 12) (oi := { dst := some 65, op := Op.indexAddr 44 (Operand.tmp 63) (Operand.tmp 64), type := 0, pos := "more.go:58", after := #[{ on := 10, ground := Ground.data }, { on := 11, ground := Ground.data }], guard := none }) (v := ?_) rfl (by kernel_rfl) (by kernel_rfl) (by kernel_rfl) (fun _ _ _ h => h) (Or.inl ⟨by rfl, ?_⟩) (by assumption) ?_
          rotate_left
          · (intro w hSw; (try dsimp only at hSw); go_simp; try with_reducible rfl)
          try simp only [Act.put, List.setIfInBounds_toArray, List.set_cons_zero, List.set_cons_succ]
          refine wpAnyH_take (i := 13) (oi := { dst := some 66, op := Op.load 2 (Operand.tmp 65), type := 2, pos := "more.go:58", after := #[{ on := 12, ground := Ground.data }], guard := none }) (v := ?_) rfl (by kernel_rfl) (by kernel_rfl) (by kernel_rfl) (fun _ _ _ h => h) (Or.inl ⟨by rfl, ?_⟩) (by assumption) ?_
          rotate_left
          · (intro w hSw; (try dsimp only at hSw); go_simp; try with_reducible rfl)
          try simp only [Act.put, List.setIfInBounds_toArray, List.set_cons_zero, List.set_cons_succ]
          refine wpAnyH_ready (rs := [9, 14]) (by kernel_rfl) (by simp) ?_
          refine AllReadyH.cons (o := { dst := some 62, op := Op.load 46 (Operand.tmp 61), type := 46, pos := "more.go:58", after := #[{ on := 8, ground := Ground.data }], guard := none }) rfl (fun K hK => ?_) ?_
          · skip
            have p1 : V0.cell? ⟨G, d, none⟩ = some (.slice a m c) := (K0.out.cell (p := ⟨G, d, none⟩) HGL.out).trans HGC.out
            go_simp
            clear p1
            refine hK.out _ _ ?_ (fun hHeld => ?_)
            · exact (K0.out.cell HXL.out).trans HXC2.out
            clear hK K
            try simp only [Act.put, List.setIfInBounds_toArray, List.set_cons_zero, List.set_cons_succ]
            refine wpAnyH_ready (rs := [14]) (by kernel_rfl) (by simp) ?_
            refine AllReadyH.cons (o := { dst := some 67, op := Op.call { callee := Callee.value (Operand.func 12), args := #[Operand.tmp 66], argTypes := #[2] }, type := 25, pos := "more.go:58", after := #[{ on := 13, ground := Ground.data }], guard := none }) rfl (fun K hK => ?_) ?_
            · skip
              go_simp
              refine (HNN.out _).mono ?_
              rintro e V1 ⟨rfl, hb⟩
              have K1 : Hid (Below W2.heap.size W2 V1) := Lib.hid (K0.out.trans (hb.mono K0.out.size))
              clear hb
              refine hK.out _ _ ?_ (fun hHeld => ?_)
              · exact (K1.out.cell HXL.out).trans HXC2.out
              clear hK K
              try simp only [Act.put, List.setIfInBounds_toArray, List.set_cons_zero, List.set_cons_succ]
              refine wpAnyH_ready (rs := [15]) (by kernel_rfl) (by simp) ?_
              refine AllReadyH.cons (o := { dst := some 68, op := Op.buildSlice 46 1 #[(0, Operand.tmp 67)], type := 46, pos := "more.go:58", after := #[{ on := 14, ground := Ground.data }], guard := none }) rfl (fun K hK => ?_) ?_
              · skip
                go_simp
                have K2 := Lib.hid (K1.out.alloc K1.out.size (.cells #[.int .i64 1, .int .i64 x, .string ⟨#[]⟩, .complex .f64 0 0] 25))
                have C2 := Lib.hid (one_cells V1 25 x)
                have O2 : Hid (VO 25 (V1.alloc (.cells #[.int .i64 1, .int .i64 x, .string ⟨#[]⟩, .complex .f64 0 0] 25)) w.heap.size (.slice a m c) r) := Lib.hid (own_below HROW.out K2.out)
                obtain ⟨gb, hgb⟩ : ∃ gb, V1.heap.size = gb := ⟨_, rfl⟩
                rw [hgb] at C2 ⊢
                generalize V1.alloc (.cells #[.int .i64 1, .int .i64 x, .string ⟨#[]⟩, .complex .f64 0 0] 25) = V2 at K2 C2 O2 ⊢
                clear hgb
                refine hK.out _ _ ?_ (fun hHeld => ?_)
                · exact (K2.out.cell HXL.out).trans HXC2.out
                clear hK K
                try simp only [Act.put, List.setIfInBounds_toArray, List.set_cons_zero, List.set_cons_succ]
                refine wpAnyH_ready (rs := [16]) (by kernel_rfl) (by simp) ?_
                refine AllReadyH.cons (o := { dst := some 69, op := Op.call { callee := Callee.builtin Builtin.append, args := #[Operand.tmp 62, Operand.tmp 68], argTypes := #[46, 46] }, type := 46, pos := "more.go:58", after := #[{ on := 9, ground := Ground.data }, { on := 15, ground := Ground.data }, { on := 14, ground := Ground.chain }], guard := none }) rfl (fun K hK => ?_) ?_
                · skip
                  refine oper_app Tryz.E46 (.tmp 62) (.tmp 68) rfl w.heap.size (.slice a m c) r.length (flat r) rfl O2.out gb 1 1 (vc x) rfl rfl C2.out (vc_one x) (by have := HRL.out; omega) (by decide) (by have := K2.out.size; have := HWB2.out.size; omega) ?_
                  intro v3 V3 o3 g3 w3
                  have O3 : Hid (VO 25 V3 w.heap.size v3 (r ++ [x])) := Lib.hid (VO.push o3)
                  obtain ⟨m3, sg3, sc3, rfl⟩ : ∃ m sg sc, v3 = Value.slice (some ⟨sg, 0, none⟩) m sc := by
                    obtain ⟨sg, sc, e, _⟩ := O3.out.va (by simp)
                    exact ⟨_, sg, sc, e⟩
                  have G3 := Lib.hid g3
                  have W3 := Lib.hid w3
                  have HGC3 : Hid (V3.cell? ⟨G, d, none⟩ = some (.slice a m c)) := Lib.hid ((World.cell?_of_block (g3.block G (by have : G < W2.heap.size := HGL.out; have := K2.out.size; omega) (fun e => HGN.out e.symm))).trans ((K2.out.cell (p := ⟨G, d, none⟩) HGL.out).trans HGC.out))
                  have HGZ3 : Hid (V3.frozen? ⟨G, d, none⟩ = false) := Lib.hid ((World.frozen?_of_block (g3.block G (by have : G < W2.heap.size := HGL.out; have := K2.out.size; omega) (fun e => HGN.out e.symm))).trans ((K2.out.frozen (p := ⟨G, d, none⟩) HGL.out).trans HGZ.out))
                  have HXC3 : Hid (V3.cell? (X.add i) = some (.int .i64 x)) := Lib.hid ((World.cell?_of_block (g3.block _ (by have := HXL.out; have := K2.out.size; omega) (fun e => HXN.out e.symm))).trans ((K2.out.cell HXL.out).trans HXC2.out))
                  clear o3 g3 w3
                  refine hK.out _ _ ?_ (fun hHeld => ?_)
                  · exact HXC3.out
                  clear hK K
                  try simp only [Act.put, List.setIfInBounds_toArray, List.set_cons_zero, List.set_cons_succ]
                  refine wpAnyH_take (i := 17) (oi := { dst := some 70, op := Op.indexAddr 36 (Operand.tmp 53) (Operand.tmp 56), type := 0, pos := "more.go:58", after := #[{ on := 0, ground := Ground.data }, { on := 3, ground := Ground.data }, { on := 0, ground := Ground.phase }, { on := 1, ground := Ground.phase }, { on := 2, ground := Ground.phase }, { on := 3, ground := Ground.phase }, { on := 4, ground := Ground.phase }, { on := 5, ground := Ground.phase }, { on := 6, ground := Ground.phase }, { on := 7, ground := Ground.phase }, { on := 8, ground := Ground.phase }, { on := 9, ground := Ground.phase }, { on := 10, ground := Ground.phase }, { on := 11, ground := Ground.phase }, { on := 12, ground := Ground.phase }, { on := 13, ground := Ground.phase }, { on := 14, ground := Ground.phase }, { on := 15, ground := Ground.phase }, { on := 16, ground := Ground.phase }], guard := none }) (v := ?_) rfl (by kernel_rfl) (by kernel_rfl) (by kernel_rfl) (fun _ _ _ h => h) (Or.inl ⟨by rfl, ?_⟩) (by assumption) ?_
                  rotate_left
                  · (intro w hSw; (try dsimp only at hSw); go_simp; try with_reducible rfl)
                  try simp only [Act.put, List.setIfInBounds_toArray, List.set_cons_zero, List.set_cons_succ]
                  refine wpAnyH_ready (rs := [18]) (by kernel_rfl) (by simp) ?_
                  refine AllReadyH.cons (o := { dst := none, op := Op.store 46 (Operand.tmp 70) (Operand.tmp 69), type := 0, pos := "more.go:58", after := #[{ on := 17, ground := Ground.data }, { on := 16, ground := Ground.data }, { on := 16, ground := Ground.chain }, { on := 0, ground := Ground.phase }, { on := 1, ground := Ground.phase }, { on := 2, ground := Ground.phase }, { on := 3, ground := Ground.phase }, { on := 4, ground := Ground.phase }, { on := 5, ground := Ground.phase }, { on := 6, ground := Ground.phase }, { on := 7, ground := Ground.phase }, { on := 8, ground := Ground.phase }, { on := 9, ground := Ground.phase }, { on := 10, ground := Ground.phase }, { on := 11, ground := Ground.phase }, { on := 12, ground := Ground.phase }, { on := 13, ground := Ground.phase }, { on := 14, ground := Ground.phase }, { on := 15, ground := Ground.phase }, { on := 16, ground := Ground.phase }], guard := none }) rfl (fun K hK => ?_) ?_
                  · skip
                    have z3 := HGZ3.out
                    have c3 := HGC3.out
                    go_simp
                    refine hK.out _ _ ?_ (fun hHeld => ?_)
                    · exact (Chg.setCell V3 ⟨G, d, none⟩ _ |>.block _ (by have := HXL.out; have := K2.out.size; have := G3.out.size; omega) (fun e => HXG.out e) |> World.cell?_of_block).trans HXC3.out
                    clear hK K
                    try simp only [Act.put, List.setIfInBounds_toArray, List.set_cons_zero, List.set_cons_succ]
                    refine wpAnyH_done (by kernel_rfl) ?_ _
                    refine NoPanic.normal ?_
                    clear hNw hdN hdN2 hHeld z3 c3
                    go_wp2_with fail
                    have hfin := HWR2.out.last HD.out K2.out O3.out G3.out W3.out (by decide)
                    exact ⟨⟨i + 1, _, _, by omega, rfl, by rw [HTX.out], Lib.hid ⟨hfin, HGOOD.out, HCNT.out, by simp, ((HWB2.out.trans (K2.out.mono HWB2.out.size)).grown G3.out (by have := K2.out.size; have := HWB2.out.size; omega) fun k hk => (HROW.out.lt k hk).1).setCell HGB.out _⟩⟩, by simp [intO]; omega⟩
                  exact AllReadyH.nil
                exact AllReadyH.nil
              exact AllReadyH.nil
            exact AllReadyH.nil
          refine AllReadyH.cons (o := { dst := some 67, op := Op.call { callee := Callee.value (Operand.func 12), args := #[Operand.tmp 66], argTypes := #[2] }, type := 25, pos := "more.go:58", after := #[{ on := 13, ground := Ground.data }], guard := none }) rfl (fun K hK => ?_) ?_
          · skip
            go_simp
            refine (HNN.out _).mono ?_
            rintro e V1 ⟨rfl, hb⟩
            have K1 : Hid (Below W2.heap.size W2 V1) := Lib.hid (K0.out.trans (hb.mono K0.out.size))
            clear hb
            refine hK.out _ _ ?_ (fun hHeld => ?_)
            · exact (K1.out.cell HXL.out).trans HXC2.out
            clear hK K
            try simp only [Act.put, List.setIfInBounds_toArray, List.set_cons_zero, List.set_cons_succ]
            refine wpAnyH_ready (rs := [9, 15]) (by kernel_rfl) (by simp) ?_
            refine AllReadyH.cons (o := { dst := some 62, op := Op.load 46 (Operand.tmp 61), type := 46, pos := "more.go:58", after := #[{ on := 8, ground := Ground.data }], guard := none }) rfl (fun K hK => ?_) ?_
            · skip
              have p1 : V1.cell? ⟨G, d, none⟩ = some (.slice a m c) := (K1.out.cell (p := ⟨G, d, none⟩) HGL.out).trans HGC.out
              go_simp
              clear p1
              refine hK.out _ _ ?_ (fun hHeld => ?_)
              · exact (K1.out.cell HXL.out).trans HXC2.out
              clear hK K
              try simp only [Act.put, List.setIfInBounds_toArray, List.set_cons_zero, List.set_cons_succ]
              refine wpAnyH_ready (rs := [15]) (by kernel_rfl) (by simp) ?_
              refine AllReadyH.cons (o := { dst := some 68, op := Op.buildSlice 46 1 #[(0, Operand.tmp 67)], type := 46, pos := "more.go:58", after := #[{ on := 14, ground := Ground.data }], guard := none }) rfl (fun K hK => ?_) ?_
              · skip
                go_simp
                have K2 := Lib.hid (K1.out.alloc K1.out.size (.cells #[.int .i64 1, .int .i64 x, .string ⟨#[]⟩, .complex .f64 0 0] 25))
                have C2 := Lib.hid (one_cells V1 25 x)
                have O2 : Hid (VO 25 (V1.alloc (.cells #[.int .i64 1, .int .i64 x, .string ⟨#[]⟩, .complex .f64 0 0] 25)) w.heap.size (.slice a m c) r) := Lib.hid (own_below HROW.out K2.out)
                obtain ⟨gb, hgb⟩ : ∃ gb, V1.heap.size = gb := ⟨_, rfl⟩
                rw [hgb] at C2 ⊢
                generalize V1.alloc (.cells #[.int .i64 1, .int .i64 x, .string ⟨#[]⟩, .complex .f64 0 0] 25) = V2 at K2 C2 O2 ⊢
                clear hgb
                refine hK.out _ _ ?_ (fun hHeld => ?_)
                · exact (K2.out.cell HXL.out).trans HXC2.out
                clear hK K
                try simp only [Act.put, List.setIfInBounds_toArray, List.set_cons_zero, List.set_cons_succ]
                refine wpAnyH_ready (rs := [16]) (by kernel_rfl) (by simp) ?_
                refine AllReadyH.cons (o := { dst := some 69, op := Op.call { callee := Callee.builtin Builtin.append, args := #[Operand.tmp 62, Operand.tmp 68], argTypes := #[46, 46] }, type := 46, pos := "more.go:58", after := #[{ on := 9, ground := Ground.data }, { on := 15, ground := Ground.data }, { on := 14, ground := Ground.chain }], guard := none }) rfl (fun K hK => ?_) ?_
                · skip
                  refine oper_app Tryz.E46 (.tmp 62) (.tmp 68) rfl w.heap.size (.slice a m c) r.length (flat r) rfl O2.out gb 1 1 (vc x) rfl rfl C2.out (vc_one x) (by have := HRL.out; omega) (by decide) (by have := K2.out.size; have := HWB2.out.size; omega) ?_
                  intro v3 V3 o3 g3 w3
                  have O3 : Hid (VO 25 V3 w.heap.size v3 (r ++ [x])) := Lib.hid (VO.push o3)
                  obtain ⟨m3, sg3, sc3, rfl⟩ : ∃ m sg sc, v3 = Value.slice (some ⟨sg, 0, none⟩) m sc := by
                    obtain ⟨sg, sc, e, _⟩ := O3.out.va (by simp)
                    exact ⟨_, sg, sc, e⟩
                  have G3 := Lib.hid g3
                  have W3 := Lib.hid w3
                  have HGC3 : Hid (V3.cell? ⟨G, d, none⟩ = some (.slice a m c)) := Lib.hid ((World.cell?_of_block (g3.block G (by have : G < W2.heap.size := HGL.out; have := K2.out.size; omega) (fun e => HGN.out e.symm))).trans ((K2.out.cell (p := ⟨G, d, none⟩) HGL.out).trans HGC.out))
                  have HGZ3 : Hid (V3.frozen? ⟨G, d, none⟩ = false) := Lib.hid ((World.frozen?_of_block (g3.block G (by have : G < W2.heap.size := HGL.out; have := K2.out.size; omega) (fun e => HGN.out e.symm))).trans ((K2.out.frozen (p := ⟨G, d, none⟩) HGL.out).trans HGZ.out))
                  have HXC3 : Hid (V3.cell? (X.add i) = some (.int .i64 x)) := Lib.hid ((World.cell?_of_block (g3.block _ (by have := HXL.out; have := K2.out.size; omega) (fun e => HXN.out e.symm))).trans ((K2.out.cell HXL.out).trans HXC2.out))
                  clear o3 g3 w3
                  refine hK.out _ _ ?_ (fun hHeld => ?_)
                  · exact HXC3.out
                  clear hK K
                  try simp only [Act.put, List.setIfInBounds_toArray, List.set_cons_zero, List.set_cons_succ]
                  refine wpAnyH_take (i := 17) (oi := { dst := some 70, op := Op.indexAddr 36 (Operand.tmp 53) (Operand.tmp 56), type := 0, pos := "more.go:58", after := #[{ on := 0, ground := Ground.data }, { on := 3, ground := Ground.data }, { on := 0, ground := Ground.phase }, { on := 1, ground := Ground.phase }, { on := 2, ground := Ground.phase }, { on := 3, ground := Ground.phase }, { on := 4, ground := Ground.phase }, { on := 5, ground := Ground.phase }, { on := 6, ground := Ground.phase }, { on := 7, ground := Ground.phase }, { on := 8, ground := Ground.phase }, { on := 9, ground := Ground.phase }, { on := 10, ground := Ground.phase }, { on := 11, ground := Ground.phase }, { on := 12, ground := Ground.phase }, { on := 13, ground := Ground.phase }, { on := 14, ground := Ground.phase }, { on := 15, ground := Ground.phase }, { on := 16, ground := Ground.phase }], guard := none }) (v := ?_) rfl (by kernel_rfl) (by kernel_rfl) (by kernel_rfl) (fun _ _ _ h => h) (Or.inl ⟨by rfl, ?_⟩) (by assumption) ?_
                  rotate_left
                  · (intro w hSw; (try dsimp only at hSw); go_simp; try with_reducible rfl)
                  try simp only [Act.put, List.setIfInBounds_toArray, List.set_cons_zero, List.set_cons_succ]
                  refine wpAnyH_ready (rs := [18]) (by kernel_rfl) (by simp) ?_
                  refine AllReadyH.cons (o := { dst := none, op := Op.store 46 (Operand.tmp 70) (Operand.tmp 69), type := 0, pos := "more.go:58", after := #[{ on := 17, ground := Ground.data }, { on := 16, ground := Ground.data }, { on := 16, ground := Ground.chain }, { on := 0, ground := Ground.phase }, { on := 1, ground := Ground.phase }, { on := 2, ground := Ground.phase }, { on := 3, ground := Ground.phase }, { on := 4, ground := Ground.phase }, { on := 5, ground := Ground.phase }, { on := 6, ground := Ground.phase }, { on := 7, ground := Ground.phase }, { on := 8, ground := Ground.phase }, { on := 9, ground := Ground.phase }, { on := 10, ground := Ground.phase }, { on := 11, ground := Ground.phase }, { on := 12, ground := Ground.phase }, { on := 13, ground := Ground.phase }, { on := 14, ground := Ground.phase }, { on := 15, ground := Ground.phase }, { on := 16, ground := Ground.phase }], guard := none }) rfl (fun K hK => ?_) ?_
                  · skip
                    have z3 := HGZ3.out
                    have c3 := HGC3.out
                    go_simp
                    refine hK.out _ _ ?_ (fun hHeld => ?_)
                    · exact (Chg.setCell V3 ⟨G, d, none⟩ _ |>.block _ (by have := HXL.out; have := K2.out.size; have := G3.out.size; omega) (fun e => HXG.out e) |> World.cell?_of_block).trans HXC3.out
                    clear hK K
                    try simp only [Act.put, List.setIfInBounds_toArray, List.set_cons_zero, List.set_cons_succ]
                    refine wpAnyH_done (by kernel_rfl) ?_ _
                    refine NoPanic.normal ?_
                    clear hNw hdN hdN2 hHeld z3 c3
                    go_wp2_with fail
                    have hfin := HWR2.out.last HD.out K2.out O3.out G3.out W3.out (by decide)
                    exact ⟨⟨i + 1, _, _, by omega, rfl, by rw [HTX.out], Lib.hid ⟨hfin, HGOOD.out, HCNT.out, by simp, ((HWB2.out.trans (K2.out.mono HWB2.out.size)).grown G3.out (by have := K2.out.size; have := HWB2.out.size; omega) fun k hk => (HROW.out.lt k hk).1).setCell HGB.out _⟩⟩, by simp [intO]; omega⟩
                  exact AllReadyH.nil
                exact AllReadyH.nil
              exact AllReadyH.nil
            refine AllReadyH.cons (o := { dst := some 68, op := Op.buildSlice 46 1 #[(0, Operand.tmp 67)], type := 46, pos := "more.go:58", after := #[{ on := 14, ground := Ground.data }], guard := none }) rfl (fun K hK => ?_) ?_
            · skip
              go_simp
              have K2 := Lib.hid (K1.out.alloc K1.out.size (.cells #[.int .i64 1, .int .i64 x, .string ⟨#[]⟩, .complex .f64 0 0] 25))
              have C2 := Lib.hid (one_cells V1 25 x)
              have O2 : Hid (VO 25 (V1.alloc (.cells #[.int .i64 1, .int .i64 x, .string ⟨#[]⟩, .complex .f64 0 0] 25)) w.heap.size (.slice a m c) r) := Lib.hid (own_below HROW.out K2.out)
              obtain ⟨gb, hgb⟩ : ∃ gb, V1.heap.size = gb := ⟨_, rfl⟩
              rw [hgb] at C2 ⊢
              generalize V1.alloc (.cells #[.int .i64 1, .int .i64 x, .string ⟨#[]⟩, .complex .f64 0 0] 25) = V2 at K2 C2 O2 ⊢
              clear hgb
              refine hK.out _ _ ?_ (fun hHeld => ?_)
              · exact (K2.out.cell HXL.out).trans HXC2.out
              clear hK K
              try simp only [Act.put, List.setIfInBounds_toArray, List.set_cons_zero, List.set_cons_succ]
              refine wpAnyH_ready (rs := [9]) (by kernel_rfl) (by simp) ?_
              refine AllReadyH.cons (o := { dst := some 62, op := Op.load 46 (Operand.tmp 61), type := 46, pos := "more.go:58", after := #[{ on := 8, ground := Ground.data }], guard := none }) rfl (fun K hK => ?_) ?_
              · skip
                have p1 : V2.cell? ⟨G, d, none⟩ = some (.slice a m c) := (K2.out.cell (p := ⟨G, d, none⟩) HGL.out).trans HGC.out
                go_simp
                clear p1
                refine hK.out _ _ ?_ (fun hHeld => ?_)
                · exact (K2.out.cell HXL.out).trans HXC2.out
                clear hK K
                try simp only [Act.put, List.setIfInBounds_toArray, List.set_cons_zero, List.set_cons_succ]
                refine wpAnyH_ready (rs := [16]) (by kernel_rfl) (by simp) ?_
                refine AllReadyH.cons (o := { dst := some 69, op := Op.call { callee := Callee.builtin Builtin.append, args := #[Operand.tmp 62, Operand.tmp 68], argTypes := #[46, 46] }, type := 46, pos := "more.go:58", after := #[{ on := 9, ground := Ground.data }, { on := 15, ground := Ground.data }, { on := 14, ground := Ground.chain }], guard := none }) rfl (fun K hK => ?_) ?_
                · skip
                  refine oper_app Tryz.E46 (.tmp 62) (.tmp 68) rfl w.heap.size (.slice a m c) r.length (flat r) rfl O2.out gb 1 1 (vc x) rfl rfl C2.out (vc_one x) (by have := HRL.out; omega) (by decide) (by have := K2.out.size; have := HWB2.out.size; omega) ?_
                  intro v3 V3 o3 g3 w3
                  have O3 : Hid (VO 25 V3 w.heap.size v3 (r ++ [x])) := Lib.hid (VO.push o3)
                  obtain ⟨m3, sg3, sc3, rfl⟩ : ∃ m sg sc, v3 = Value.slice (some ⟨sg, 0, none⟩) m sc := by
                    obtain ⟨sg, sc, e, _⟩ := O3.out.va (by simp)
                    exact ⟨_, sg, sc, e⟩
                  have G3 := Lib.hid g3
                  have W3 := Lib.hid w3
                  have HGC3 : Hid (V3.cell? ⟨G, d, none⟩ = some (.slice a m c)) := Lib.hid ((World.cell?_of_block (g3.block G (by have : G < W2.heap.size := HGL.out; have := K2.out.size; omega) (fun e => HGN.out e.symm))).trans ((K2.out.cell (p := ⟨G, d, none⟩) HGL.out).trans HGC.out))
                  have HGZ3 : Hid (V3.frozen? ⟨G, d, none⟩ = false) := Lib.hid ((World.frozen?_of_block (g3.block G (by have : G < W2.heap.size := HGL.out; have := K2.out.size; omega) (fun e => HGN.out e.symm))).trans ((K2.out.frozen (p := ⟨G, d, none⟩) HGL.out).trans HGZ.out))
                  have HXC3 : Hid (V3.cell? (X.add i) = some (.int .i64 x)) := Lib.hid ((World.cell?_of_block (g3.block _ (by have := HXL.out; have := K2.out.size; omega) (fun e => HXN.out e.symm))).trans ((K2.out.cell HXL.out).trans HXC2.out))
                  clear o3 g3 w3
                  refine hK.out _ _ ?_ (fun hHeld => ?_)
                  · exact HXC3.out
                  clear hK K
                  try simp only [Act.put, List.setIfInBounds_toArray, List.set_cons_zero, List.set_cons_succ]
                  refine wpAnyH_take (i := 17) (oi := { dst := some 70, op := Op.indexAddr 36 (Operand.tmp 53) (Operand.tmp 56), type := 0, pos := "more.go:58", after := #[{ on := 0, ground := Ground.data }, { on := 3, ground := Ground.data }, { on := 0, ground := Ground.phase }, { on := 1, ground := Ground.phase }, { on := 2, ground := Ground.phase }, { on := 3, ground := Ground.phase }, { on := 4, ground := Ground.phase }, { on := 5, ground := Ground.phase }, { on := 6, ground := Ground.phase }, { on := 7, ground := Ground.phase }, { on := 8, ground := Ground.phase }, { on := 9, ground := Ground.phase }, { on := 10, ground := Ground.phase }, { on := 11, ground := Ground.phase }, { on := 12, ground := Ground.phase }, { on := 13, ground := Ground.phase }, { on := 14, ground := Ground.phase }, { on := 15, ground := Ground.phase }, { on := 16, ground := Ground.phase }], guard := none }) (v := ?_) rfl (by kernel_rfl) (by kernel_rfl) (by kernel_rfl) (fun _ _ _ h => h) (Or.inl ⟨by rfl, ?_⟩) (by assumption) ?_
                  rotate_left
                  · (intro w hSw; (try dsimp only at hSw); go_simp; try with_reducible rfl)
                  try simp only [Act.put, List.setIfInBounds_toArray, List.set_cons_zero, List.set_cons_succ]
                  refine wpAnyH_ready (rs := [18]) (by kernel_rfl) (by simp) ?_
                  refine AllReadyH.cons (o := { dst := none, op := Op.store 46 (Operand.tmp 70) (Operand.tmp 69), type := 0, pos := "more.go:58", after := #[{ on := 17, ground := Ground.data }, { on := 16, ground := Ground.data }, { on := 16, ground := Ground.chain }, { on := 0, ground := Ground.phase }, { on := 1, ground := Ground.phase }, { on := 2, ground := Ground.phase }, { on := 3, ground := Ground.phase }, { on := 4, ground := Ground.phase }, { on := 5, ground := Ground.phase }, { on := 6, ground := Ground.phase }, { on := 7, ground := Ground.phase }, { on := 8, ground := Ground.phase }, { on := 9, ground := Ground.phase }, { on := 10, ground := Ground.phase }, { on := 11, ground := Ground.phase }, { on := 12, ground := Ground.phase }, { on := 13, ground := Ground.phase }, { on := 14, ground := Ground.phase }, { on := 15, ground := Ground.phase }, { on := 16, ground := Ground.phase }], guard := none }) rfl (fun K hK => ?_) ?_
                  · skip
                    have z3 := HGZ3.out
                    have c3 := HGC3.out
                    go_simp
                    refine hK.out _ _ ?_ (fun hHeld => ?_)
                    · exact (Chg.setCell V3 ⟨G, d, none⟩ _ |>.block _ (by have := HXL.out; have := K2.out.size; have := G3.out.size; omega) (fun e => HXG.out e) |> World.cell?_of_block).trans HXC3.out
                    clear hK K
                    try simp only [Act.put, List.setIfInBounds_toArray, List.set_cons_zero, List.set_cons_succ]
                    refine wpAnyH_done (by kernel_rfl) ?_ _
                    refine NoPanic.normal ?_
                    clear hNw hdN hdN2 hHeld z3 c3
                    go_wp2_with fail
                    have hfin := HWR2.out.last HD.out K2.out O3.out G3.out W3.out (by decide)
                    exact ⟨⟨i + 1, _, _, by omega, rfl, by rw [HTX.out], Lib.hid ⟨hfin, HGOOD.out, HCNT.out, by simp, ((HWB2.out.trans (K2.out.mono HWB2.out.size)).grown G3.out (by have := K2.out.size; have := HWB2.out.size; omega) fun k hk => (HROW.out.lt k hk).1).setCell HGB.out _⟩⟩, by simp [intO]; omega⟩
                  exact AllReadyH.nil
                exact AllReadyH.nil
              exact AllReadyH.nil
            exact AllReadyH.nil
          exact AllReadyH.nil
        · have f1 : decide ((i : Int) > 0) = true := decide_eq_true (by omega)
          have f1' : decide (0 < (i : Int)) = true := decide_eq_true (by omega)
          have f1'' : decide (0 < i) = true := decide_eq_true (by omega)
          have HI0 := Lib.hid hi0
          obtain ⟨M, hM⟩ : ∃ M, (appendB ++ RT R).length = M := ⟨_, rfl⟩
          have hszM : (bs (appendB ++ RT R)).size = M := by rw [bs_size, hM]
          have hM15 : M ≤ 1500 := by rw [← hM]; exact HTL0.out
          have h59 : bs (appendB ++ RT R) ++ ⟨#[59]⟩ = bs ((appendB ++ RT R) ++ [59]) := bs_app _ [59]
          obtain ⟨T0, hT0⟩ : ∃ T0, (appendB ++ RT R) ++ [59] = T0 := ⟨_, rfl⟩
          have HTL : Hid (T0.length ≤ 2000) := Lib.hid (by rw [← hT0]; have := HTL0.out; rw [List.length_append]; show _ + 1 ≤ 2000; omega)
          have HTX : Hid (T0 ++ Lib.itoa x = appendB ++ RT (R ++ [[] ++ [x]])) := Lib.hid (by
            rw [← hT0, RT_snoc R _ (fun e => hi0 (HS.out.emp.1 e))]
            simp [rT, tV])
          rw [hT0] at h59
          clear hT0 hi0 hM
          go_wp2_with (at_builtin; refine wpList_app Tryz.E36 rfl (.tmp 37) (.tmp 38) rfl w.heap.size _ svs.length svs rfl W1'.out.own W.heap.size 1 1 [.slice none 0 0] rfl rfl C1.out (by intro u hu; simp at hu; subst hu; rfl) (by omega) (by have := HS.out.bel.size; simp; omega) ?_)
          intro v1 W1 o1 g1
          have hgood : GR (R ++ [[] ++ [x]]) := gr_snoc HS.out.good (by simp) fun k hk => by simp at hk; subst hk; exact HXI.out
          have hcnt : cnt (R ++ [[] ++ [x]]) = i + 1 := by rw [cnt_snoc, HS.out.cnt]; rfl
          have hwr : WR 46 25 W1 w.heap.size v1 (R ++ [[]]) (svs ++ [.slice none 0 0]) := W1'.out.push (World.ownsRow_nil _ _ _ _) (fun y hy k hk e => by cases e) o1 g1 (by decide)
          obtain ⟨G, CC, hv, _⟩ := own_at hwr.own (by simp)
          obtain ⟨N2, hN2⟩ : ∃ N2, (svs ++ [Value.slice none 0 0]).length = N2 := ⟨_, rfl⟩
          rw [hN2] at hv
          subst hv
          obtain ⟨a, ha⟩ : ∃ a : Option Addr, none = a := ⟨_, rfl⟩
          obtain ⟨m, hm⟩ : ∃ m, 0 = m := ⟨_, rfl⟩
          obtain ⟨c, hc⟩ : ∃ c, 0 = c := ⟨_, rfl⟩
          obtain ⟨r, hr⟩ : ∃ r : List Int, r = [] := ⟨_, rfl⟩
          replace hwr : WR 46 25 W1 w.heap.size (.slice (some ⟨G, 0, none⟩) N2 CC) (R ++ [r]) (svs ++ [.slice a m c]) := by rw [hr, ← ha, ← hm, ← hc]; exact hwr
          replace hgood : GR (R ++ [r ++ [x]]) := by rw [hr]; exact hgood
          replace hcnt : cnt (R ++ [r ++ [x]]) = i + 1 := by rw [hr]; exact hcnt
          replace HTX : Hid (T0 ++ Lib.itoa x = appendB ++ RT (R ++ [r ++ [x]])) := Lib.hid (by rw [hr]; exact HTX.out)
          have HWR : Hid (WR 46 25 W1 w.heap.size (.slice (some ⟨G, 0, none⟩) N2 CC) (R ++ [r]) (svs ++ [.slice a m c])) := Lib.hid hwr
          have HWB : Hid (Below w.heap.size w W1) := Lib.hid ((HS.out.bel.alloc HS.out.bel.size _).grown g1 (by have := HS.out.bel.size; simp; omega) fun k hk => (W1'.out.own.lt k hk).1)
          have HGOOD := Lib.hid hgood
          have HCNT := Lib.hid hcnt
          have HM : Hid (r.length = m) := Lib.hid (by rw [hr, ← hm]; rfl)
          clear o1 g1 hwr hN2 ha hm hc hr hgood hcnt W1' A1 C1
          have hxc : W1.cell? (X.add i) = some (.int .i64 x) := (HWB.out.cell HXL.out).trans HXC.out
          obtain ⟨M0, hM0⟩ : ∃ M0, T0.length = M0 := ⟨_, rfl⟩
          have hsz0 : (bs T0).size = M0 := by rw [bs_size, hM0]
          have hM02 : M0 ≤ 2000 := by rw [← hM0]; exact HTL.out
          obtain ⟨M1, hM1⟩ : ∃ M1, (Lib.itoa x).length = M1 := ⟨_, rfl⟩
          have hsz1 : (bs (Lib.itoa x)).size = M1 := by rw [bs_size, hM1]
          have hM12 : M1 ≤ 21 := by rw [← hM1]; exact Lib.itoa_length_le x HXI.out.1 HXI.out.2
          have hba := bs_app T0 (Lib.itoa x)
          clear hM0 hM1
          go_wp2_with fail
          refine (Tryz.decimalAny x HXI.out _).mono ?_
          rintro e W2 ⟨rfl, b2⟩
          have HWB2 := Lib.hid (HWB.out.trans (b2.mono HWB.out.size))
          go_wp2_with fail
          clear hsz0 hM02 hsz1 hM12 hba hxc
          have HWR2 := Lib.hid (HWR.out.below b2)
          have HROW : Hid (VO 25 W2 w.heap.size (.slice a m c) r) := Lib.hid (HWR2.out.row R.length r _ (by simp) (by have := HWR2.out.len; simp at this; rw [← this]; simp))
          have HGN : Hid (¬ ((Value.slice a m c).ownBlock = some G)) := Lib.hid fun e => own_ne HWR2.out.own HROW.out (by decide) G rfl e
          have hgown := HWR2.out.own
          have hne0 : (svs ++ [Value.slice a m c]).length ≠ 0 := by simp
          obtain ⟨G', c', hge, hgb0, hglt, hgn, hgm, hgc, hgz⟩ := own_at hgown hne0
          simp only [Value.slice.injEq, Option.some.injEq, Addr.mk.injEq, and_true, true_and] at hge
          obtain ⟨rfl, hnn, rfl⟩ := hge
          have hdl : svs.length + 1 = N2 := by rw [hnn]; simp
          obtain ⟨d, hd⟩ : ∃ d, svs.length = d := ⟨_, rfl⟩
          rw [hd] at hdl
          have HGC : Hid (W2.cell? ⟨G, d, none⟩ = some (.slice a m c)) := Lib.hid ((hgc d (by rw [← hnn]; omega)).trans (by rw [← hd]; simp))
          have HGZ : Hid (W2.frozen? ⟨G, d, none⟩ = false) := Lib.hid (hgz d)
          have HGL : Hid ((⟨G, d, none⟩ : Addr).block < W2.heap.size) := Lib.hid hglt
          have HXC2 : Hid (W2.cell? (X.add i) = some (.int .i64 x)) := Lib.hid ((HWB2.out.cell HXL.out).trans HXC.out)
          have HXL2 : Hid ((X.add i).block < W2.heap.size) := Lib.hid (Nat.lt_of_lt_of_le HXL.out HWB2.out.size)
          have HXN : Hid (¬ ((Value.slice a m c).ownBlock = some (X.add i).block)) := Lib.hid fun e => by have := (HROW.out.lt _ e).1; have := HXL.out; omega
          have HD := Lib.hid hd
          have HGB : Hid (w.heap.size ≤ (⟨G, d, none⟩ : Addr).block) := Lib.hid hgb0
          have HXG : Hid (¬ ((X.add i).block = G)) := Lib.hid fun e => by have := HXL.out; omega
          have HRL : Hid (r.length ≤ 60) := Lib.hid (by have := HCNT.out; rw [cnt_snoc] at this; simp at this; omega)
          have hN2 : N2 ≤ 61 := by
            have h1 := cnt_ge _ HGOOD.out
            have h2 := HCNT.out
            have h3 := HWR2.out.len
            simp at h1 h3
            omega
          have hNi : (N2 : Int) - 1 = (d : Int) := by omega
          have hNw : IntKind.i64.wrap ((N2 : Int) - 1) = (d : Int) := by rw [IntKind.wrap_i64]; omega
          have hdN : decide (d < N2) = true := decide_eq_true (by omega)
          have hdN2 : decide ((d : Int) < N2) = true := decide_eq_true (by omega)
          have hd0 : (0 : Int) ≤ d := by omega
          have hdlt : d < N2 := by omega
          have HXL := HXL2
          have HNN := Lib.hid (fun w => Tryz.nn x w)
          unfold vN at HNN
          have HHNW := Lib.hid hNw
          have HHNI := Lib.hid hNi
          clear b2 hgown hne0 hgb0 hglt hgn hgm hgc hgz hnn hd hdl hNi
          refine wp_region_noPanic ?_
          refine wp_region_held_drew (S := (fun V => V.cell? (X.add i) = some (.int .i64 x))) (by kernel_rfl) ?_ (fun hHeld => ?_)
          · exact HXC2.out
          obtain ⟨V0, hV0⟩ : ∃ V0, W2.drew = V0 := ⟨_, rfl⟩
          have K0 : Hid (Below W2.heap.size W2 V0) := Lib.hid (by rw [← hV0]; exact (Below.refl _ W2).drew)
          rw [hV0] at hHeld ⊢
          clear hV0
          refine wpAnyH_take (i := 0) (oi := { dst := some 53, op := Op.move (Operand.tmp 7), type := 36, pos := "more.go:58", after := #[], guard := none }) (v := ?_) rfl (by kernel_rfl) (by kernel_rfl) (by kernel_rfl) (fun _ _ _ h => h) (Or.inl ⟨by rfl, ?_⟩) (by assumption) ?_
          rotate_left
          · (intro w hSw; (try dsimp only at hSw); go_simp; try with_reducible rfl)
          try simp only [Act.put, List.setIfInBounds_toArray, List.set_cons_zero, List.set_cons_succ]
          refine wpAnyH_take (i := 1) (oi := { dst := some 54, op := Op.move (Operand.tmp 7), type := 36, pos := "more.go:58", after := #[], guard := none }) (v := ?_) rfl (by kernel_rfl) (by kernel_rfl) (by kernel_rfl) (fun _ _ _ h => h) (Or.inl ⟨by rfl, ?_⟩) (by assumption) ?_
          rotate_left
          · (intro w hSw; (try dsimp only at hSw); go_simp; try with_reducible rfl)
          try simp only [Act.put, List.setIfInBounds_toArray, List.set_cons_zero, List.set_cons_succ]
          refine wpAnyH_take (i := 2) (oi := { dst := some 55, op := Op.call { callee := Callee.builtin Builtin.len, args := #[Operand.tmp 54], argTypes := #[36] }, type := 3, pos := "more.go:58", after := #[{ on := 1, ground := Ground.data }], guard := none }) (v := ?_) rfl (by kernel_rfl) (by kernel_rfl) (by kernel_rfl) (fun _ _ _ h => h) (Or.inl ⟨by rfl, ?_⟩) (by assumption) ?_
          rotate_left
          · (intro w hSw; (try dsimp only at hSw); go_simp; try with_reducible rfl)
          try simp only [Act.put, List.setIfInBounds_toArray, List.set_cons_zero, List.set_cons_succ]
          refine wpAnyH_take (i := 3) (oi := { dst := some 56, op := Op.binOp BinOp.sub 3 (Operand.tmp 55) (Operand.const (Value.int IntKind.i64 1)) 3, type := 3, pos := "more.go:58", after := #[{ on := 2, ground := Ground.data }], guard := none }) (v := ?_) rfl (by kernel_rfl) (by kernel_rfl) (by kernel_rfl) (fun _ _ _ h => h) (Or.inl ⟨by rfl, ?_⟩) (by assumption) ?_
          rotate_left
          · (intro w hSw; (try dsimp only at hSw); go_simp; try with_reducible rfl)
          try simp only [Act.put, List.setIfInBounds_toArray, List.set_cons_zero, List.set_cons_succ]
          refine wpAnyH_take (i := 4) (oi := { dst := some 57, op := Op.move (Operand.tmp 7), type := 36, pos := "more.go:58", after := #[], guard := none }) (v := ?_) rfl (by kernel_rfl) (by kernel_rfl) (by kernel_rfl) (fun _ _ _ h => h) (Or.inl ⟨by rfl, ?_⟩) (by assumption) ?_
          rotate_left
          · (intro w hSw; (try dsimp only at hSw); go_simp; try with_reducible rfl)
          try simp only [Act.put, List.setIfInBounds_toArray, List.set_cons_zero, List.set_cons_succ]
          refine wpAnyH_take (i := 5) (oi := { dst := some 58, op := Op.move (Operand.tmp 7), type := 36, pos := "more.go:58", after := #[], guard := none }) (v := ?_) rfl (by kernel_rfl) (by kernel_rfl) (by kernel_rfl) (fun _ _ _ h => h) (Or.inl ⟨by rfl, ?_⟩) (by assumption) ?_
          rotate_left
          · (intro w hSw; (try dsimp only at hSw); go_simp; try with_reducible rfl)
          try simp only [Act.put, List.setIfInBounds_toArray, List.set_cons_zero, List.set_cons_succ]
          refine wpAnyH_take (i := 6) (oi := { dst := some 59, op := Op.call { callee := Callee.builtin Builtin.len, args := #[Operand.tmp 58], argTypes := #[36] }, type := 3, pos := "more.go:58", after := #[{ on := 5, ground := Ground.data }], guard := none }) (v := ?_) rfl (by kernel_rfl) (by kernel_rfl) (by kernel_rfl) (fun _ _ _ h => h) (Or.inl ⟨by rfl, ?_⟩) (by assumption) ?_
          rotate_left
          · (intro w hSw; (try dsimp only at hSw); go_simp; try with_reducible rfl)
          try simp only [Act.put, List.setIfInBounds_toArray, List.set_cons_zero, List.set_cons_succ]
          refine wpAnyH_take (i := 7) (oi := { dst := some 60, op := Op.binOp BinOp.sub 3 (Operand.tmp 59) (Operand.const (Value.int IntKind.i64 1)) 3, type := 3, pos := "more.go:58", after := #[{ on := 6, ground := Ground.data }], guard := none }) (v := ?_) rfl (by kernel_rfl) (by kernel_rfl) (by kernel_rfl) (fun _ _ _ h => h) (Or.inl ⟨by rfl, ?_⟩) (by assumption) ?_
          rotate_left
          · (intro w hSw; (try dsimp only at hSw); go_simp; try with_reducible rfl)
          try simp only [Act.put, List.setIfInBounds_toArray, List.set_cons_zero, List.set_cons_succ]
          refine wpAnyH_take (i := 8) (oi := { dst := some 61, op := Op.indexAddr 36 (Operand.tmp 57) (Operand.tmp 60), type := 0, pos := "more.go:58", after := #[{ on := 4, ground := Ground.data }, { on := 7, ground := Ground.data }], guard := none }) (v := ?_) rfl (by kernel_rfl) (by kernel_rfl) (by kernel_rfl) (fun _ _ _ h => h) (Or.inl ⟨by rfl, ?_⟩) (by assumption) ?_
          rotate_left
          · (intro w hSw; (try dsimp only at hSw); go_simp; try with_reducible rfl)
          try simp only [Act.put, List.setIfInBounds_toArray, List.set_cons_zero, List.set_cons_succ]
          refine wpAnyH_take (i := 10) (oi := { dst := some 63, op := Op.move (Operand.tmp 0), type := 44, pos := "more.go:58", after := #[], guard := none }) (v := ?_) rfl (by kernel_rfl) (by kernel_rfl) (by kernel_rfl) (fun _ _ _ h => h) (Or.inl ⟨by rfl, ?_⟩) (by assumption) ?_
          rotate_left
          · (intro w hSw; (try dsimp only at hSw); go_simp; try with_reducible rfl)
          try simp only [Act.put, List.setIfInBounds_toArray, List.set_cons_zero, List.set_cons_succ]
          refine wpAnyH_take (i := 11) (oi := { dst := some 64, op := Op.move (Operand.tmp 8), type := 3, pos := "more.go:58", after := #[], guard := none }) (v := ?_) rfl (by kernel_rfl) (by kernel_rfl) (by kernel_rfl) (fun _ _ _ h => h) (Or.inl ⟨by rfl, ?_⟩) (by assumption) ?_
          rotate_left
          · (intro w hSw; (try dsimp only at hSw); go_simp; try with_reducible rfl)
          try simp only [Act.put, List.setIfInBounds_toArray, List.set_cons_zero, List.set_cons_succ]
          refine wpAnyH_take (i := 12) (oi := { dst := some 65, op := Op.indexAddr 44 (Operand.tmp 63) (Operand.tmp 64), type := 0, pos := "more.go:58", after := #[{ on := 10, ground := Ground.data }, { on := 11, ground := Ground.data }], guard := none }) (v := ?_) rfl (by kernel_rfl) (by kernel_rfl) (by kernel_rfl) (fun _ _ _ h => h) (Or.inl ⟨by rfl, ?_⟩) (by assumption) ?_
          rotate_left
          · (intro w hSw; (try dsimp only at hSw); go_simp; try with_reducible rfl)
          try simp only [Act.put, List.setIfInBounds_toArray, List.set_cons_zero, List.set_cons_succ]
          refine wpAnyH_take (i := 13) (oi := { dst := some 66, op := Op.load 2 (Operand.tmp 65), type := 2, pos := "more.go:58", after := #[{ on := 12, ground := Ground.data }], guard := none }) (v := ?_) rfl (by kernel_rfl) (by kernel_rfl) (by kernel_rfl) (fun _ _ _ h => h) (Or.inl ⟨by rfl, ?_⟩) (by assumption) ?_
          rotate_left
          · (intro w hSw; (try dsimp only at hSw); go_simp; try with_reducible rfl)
          try simp only [Act.put, List.setIfInBounds_toArray, List.set_cons_zero, List.set_cons_succ]
          refine wpAnyH_ready (rs := [9, 14]) (by kernel_rfl) (by simp) ?_
          refine AllReadyH.cons (o := { dst := some 62, op := Op.load 46 (Operand.tmp 61), type := 46, pos := "more.go:58", after := #[{ on := 8, ground := Ground.data }], guard := none }) rfl (fun K hK => ?_) ?_
          · skip
            have p1 : V0.cell? ⟨G, d, none⟩ = some (.slice a m c) := (K0.out.cell (p := ⟨G, d, none⟩) HGL.out).trans HGC.out
            go_simp
            clear p1
            refine hK.out _ _ ?_ (fun hHeld => ?_)
            · exact (K0.out.cell HXL.out).trans HXC2.out
            clear hK K
            try simp only [Act.put, List.setIfInBounds_toArray, List.set_cons_zero, List.set_cons_succ]
            refine wpAnyH_ready (rs := [14]) (by kernel_rfl) (by simp) ?_
            refine AllReadyH.cons (o := { dst := some 67, op := Op.call { callee := Callee.value (Operand.func 12), args := #[Operand.tmp 66], argTypes := #[2] }, type := 25, pos := "more.go:58", after := #[{ on := 13, ground := Ground.data }], guard := none }) rfl (fun K hK => ?_) ?_
            · skip
              go_simp
              refine (HNN.out _).mono ?_
              rintro e V1 ⟨rfl, hb⟩
              have K1 : Hid (Below W2.heap.size W2 V1) := Lib.hid (K0.out.trans (hb.mono K0.out.size))
              clear hb
              refine hK.out _ _ ?_ (fun hHeld => ?_)
              · exact (K1.out.cell HXL.out).trans HXC2.out
              clear hK K
              try simp only [Act.put, List.setIfInBounds_toArray, List.set_cons_zero, List.set_cons_succ]
              refine wpAnyH_ready (rs := [15]) (by kernel_rfl) (by simp) ?_
              refine AllReadyH.cons (o := { dst := some 68, op := Op.buildSlice 46 1 #[(0, Operand.tmp 67)], type := 46, pos := "more.go:58", after := #[{ on := 14, ground := Ground.data }], guard := none }) rfl (fun K hK => ?_) ?_
              · skip
                go_simp
                have K2 := Lib.hid (K1.out.alloc K1.out.size (.cells #[.int .i64 1, .int .i64 x, .string ⟨#[]⟩, .complex .f64 0 0] 25))
                have C2 := Lib.hid (one_cells V1 25 x)
                have O2 : Hid (VO 25 (V1.alloc (.cells #[.int .i64 1, .int .i64 x, .string ⟨#[]⟩, .complex .f64 0 0] 25)) w.heap.size (.slice a m c) r) := Lib.hid (own_below HROW.out K2.out)
                obtain ⟨gb, hgb⟩ : ∃ gb, V1.heap.size = gb := ⟨_, rfl⟩
                rw [hgb] at C2 ⊢
                generalize V1.alloc (.cells #[.int .i64 1, .int .i64 x, .string ⟨#[]⟩, .complex .f64 0 0] 25) = V2 at K2 C2 O2 ⊢
                clear hgb
                refine hK.out _ _ ?_ (fun hHeld => ?_)
                · exact (K2.out.cell HXL.out).trans HXC2.out
                clear hK K
                try simp only [Act.put, List.setIfInBounds_toArray, List.set_cons_zero, List.set_cons_succ]
                refine wpAnyH_ready (rs := [16]) (by kernel_rfl) (by simp) ?_
                refine AllReadyH.cons (o := { dst := some 69, op := Op.call { callee := Callee.builtin Builtin.append, args := #[Operand.tmp 62, Operand.tmp 68], argTypes := #[46, 46] }, type := 46, pos := "more.go:58", after := #[{ on := 9, ground := Ground.data }, { on := 15, ground := Ground.data }, { on := 14, ground := Ground.chain }], guard := none }) rfl (fun K hK => ?_) ?_
                · skip
                  refine oper_app Tryz.E46 (.tmp 62) (.tmp 68) rfl w.heap.size (.slice a m c) r.length (flat r) rfl O2.out gb 1 1 (vc x) rfl rfl C2.out (vc_one x) (by have := HRL.out; omega) (by decide) (by have := K2.out.size; have := HWB2.out.size; omega) ?_
                  intro v3 V3 o3 g3 w3
                  have O3 : Hid (VO 25 V3 w.heap.size v3 (r ++ [x])) := Lib.hid (VO.push o3)
                  obtain ⟨m3, sg3, sc3, rfl⟩ : ∃ m sg sc, v3 = Value.slice (some ⟨sg, 0, none⟩) m sc := by
                    obtain ⟨sg, sc, e, _⟩ := O3.out.va (by simp)
                    exact ⟨_, sg, sc, e⟩
                  have G3 := Lib.hid g3
                  have W3 := Lib.hid w3
                  have HGC3 : Hid (V3.cell? ⟨G, d, none⟩ = some (.slice a m c)) := Lib.hid ((World.cell?_of_block (g3.block G (by have : G < W2.heap.size := HGL.out; have := K2.out.size; omega) (fun e => HGN.out e.symm))).trans ((K2.out.cell (p := ⟨G, d, none⟩) HGL.out).trans HGC.out))
                  have HGZ3 : Hid (V3.frozen? ⟨G, d, none⟩ = false) := Lib.hid ((World.frozen?_of_block (g3.block G (by have : G < W2.heap.size := HGL.out; have := K2.out.size; omega) (fun e => HGN.out e.symm))).trans ((K2.out.frozen (p := ⟨G, d, none⟩) HGL.out).trans HGZ.out))
                  have HXC3 : Hid (V3.cell? (X.add i) = some (.int .i64 x)) := Lib.hid ((World.cell?_of_block (g3.block _ (by have := HXL.out; have := K2.out.size; omega) (fun e => HXN.out e.symm))).trans ((K2.out.cell HXL.out).trans HXC2.out))
                  clear o3 g3 w3
                  refine hK.out _ _ ?_ (fun hHeld => ?_)
                  · exact HXC3.out
                  clear hK K
                  try simp only [Act.put, List.setIfInBounds_toArray, List.set_cons_zero, List.set_cons_succ]
                  refine wpAnyH_take (i := 17) (oi := { dst := some 70, op := Op.indexAddr 36 (Operand.tmp 53) (Operand.tmp 56), type := 0, pos := "more.go:58", after := #[{ on := 0, ground := Ground.data }, { on := 3, ground := Ground.data }, { on := 0, ground := Ground.phase }, { on := 1, ground := Ground.phase }, { on := 2, ground := Ground.phase }, { on := 3, ground := Ground.phase }, { on := 4, ground := Ground.phase }, { on := 5, ground := Ground.phase }, { on := 6, ground := Ground.phase }, { on := 7, ground := Ground.phase }, { on := 8, ground := Ground.phase }, { on := 9, ground := Ground.phase }, { on := 10, ground := Ground.phase }, { on := 11, ground := Ground.phase }, { on := 12, ground := Ground.phase }, { on := 13, ground := Ground.phase }, { on := 14, ground := Ground.phase }, { on := 15, ground := Ground.phase }, { on := 16, ground := Ground.phase }], guard := none }) (v := ?_) rfl (by kernel_rfl) (by kernel_rfl) (by kernel_rfl) (fun _ _ _ h => h) (Or.inl ⟨by rfl, ?_⟩) (by assumption) ?_
                  rotate_left
                  · (intro w hSw; (try dsimp only at hSw); go_simp; try with_reducible rfl)
                  try simp only [Act.put, List.setIfInBounds_toArray, List.set_cons_zero, List.set_cons_succ]
                  refine wpAnyH_ready (rs := [18]) (by kernel_rfl) (by simp) ?_
                  refine AllReadyH.cons (o := { dst := none, op := Op.store 46 (Operand.tmp 70) (Operand.tmp 69), type := 0, pos := "more.go:58", after := #[{ on := 17, ground := Ground.data }, { on := 16, ground := Ground.data }, { on := 16, ground := Ground.chain }, { on := 0, ground := Ground.phase }, { on := 1, ground := Ground.phase }, { on := 2, ground := Ground.phase }, { on := 3, ground := Ground.phase }, { on := 4, ground := Ground.phase }, { on := 5, ground := Ground.phase }, { on := 6, ground := Ground.phase }, { on := 7, ground := Ground.phase }, { on := 8, ground := Ground.phase }, { on := 9, ground := Ground.phase }, { on := 10, ground := Ground.phase }, { on := 11, ground := Ground.phase }, { on := 12, ground := Ground.phase }, { on := 13, ground := Ground.phase }, { on := 14, ground := Ground.phase }, { on := 15, ground := Ground.phase }, { on := 16, ground := Ground.phase }], guard := none }) rfl (fun K hK => ?_) ?_
                  · skip
                    have z3 := HGZ3.out
                    have c3 := HGC3.out
                    go_simp
                    refine hK.out _ _ ?_ (fun hHeld => ?_)
                    · exact (Chg.setCell V3 ⟨G, d, none⟩ _ |>.block _ (by have := HXL.out; have := K2.out.size; have := G3.out.size; omega) (fun e => HXG.out e) |> World.cell?_of_block).trans HXC3.out
                    clear hK K
                    try simp only [Act.put, List.setIfInBounds_toArray, List.set_cons_zero, List.set_cons_succ]
                    refine wpAnyH_done (by kernel_rfl) ?_ _
                    refine NoPanic.normal ?_
                    clear hNw hdN hdN2 hHeld z3 c3
                    go_wp2_with fail
                    have hfin := HWR2.out.last HD.out K2.out O3.out G3.out W3.out (by decide)
                    exact ⟨⟨i + 1, _, _, by omega, rfl, by rw [HTX.out], Lib.hid ⟨hfin, HGOOD.out, HCNT.out, by simp, ((HWB2.out.trans (K2.out.mono HWB2.out.size)).grown G3.out (by have := K2.out.size; have := HWB2.out.size; omega) fun k hk => (HROW.out.lt k hk).1).setCell HGB.out _⟩⟩, by simp [intO]; omega⟩
                  exact AllReadyH.nil
                exact AllReadyH.nil
              exact AllReadyH.nil
            exact AllReadyH.nil
          refine AllReadyH.cons (o := { dst := some 67, op := Op.call { callee := Callee.value (Operand.func 12), args := #[Operand.tmp 66], argTypes := #[2] }, type := 25, pos := "more.go:58", after := #[{ on := 13, ground := Ground.data }], guard := none }) rfl (fun K hK => ?_) ?_
          · skip
            go_simp
            refine (HNN.out _).mono ?_
            rintro e V1 ⟨rfl, hb⟩
            have K1 : Hid (Below W2.heap.size W2 V1) := Lib.hid (K0.out.trans (hb.mono K0.out.size))
            clear hb
            refine hK.out _ _ ?_ (fun hHeld => ?_)
            · exact (K1.out.cell HXL.out).trans HXC2.out
            clear hK K
            try simp only [Act.put, List.setIfInBounds_toArray, List.set_cons_zero, List.set_cons_succ]
            refine wpAnyH_ready (rs := [9, 15]) (by kernel_rfl) (by simp) ?_
            refine AllReadyH.cons (o := { dst := some 62, op := Op.load 46 (Operand.tmp 61), type := 46, pos := "more.go:58", after := #[{ on := 8, ground := Ground.data }], guard := none }) rfl (fun K hK => ?_) ?_
            · skip
              have p1 : V1.cell? ⟨G, d, none⟩ = some (.slice a m c) := (K1.out.cell (p := ⟨G, d, none⟩) HGL.out).trans HGC.out
              go_simp
              clear p1
              refine hK.out _ _ ?_ (fun hHeld => ?_)
              · exact (K1.out.cell HXL.out).trans HXC2.out
              clear hK K
              try simp only [Act.put, List.setIfInBounds_toArray, List.set_cons_zero, List.set_cons_succ]
              refine wpAnyH_ready (rs := [15]) (by kernel_rfl) (by simp) ?_
              refine AllReadyH.cons (o := { dst := some 68, op := Op.buildSlice 46 1 #[(0, Operand.tmp 67)], type := 46, pos := "more.go:58", after := #[{ on := 14, ground := Ground.data }], guard := none }) rfl (fun K hK => ?_) ?_
              · skip
                go_simp
                have K2 := Lib.hid (K1.out.alloc K1.out.size (.cells #[.int .i64 1, .int .i64 x, .string ⟨#[]⟩, .complex .f64 0 0] 25))
                have C2 := Lib.hid (one_cells V1 25 x)
                have O2 : Hid (VO 25 (V1.alloc (.cells #[.int .i64 1, .int .i64 x, .string ⟨#[]⟩, .complex .f64 0 0] 25)) w.heap.size (.slice a m c) r) := Lib.hid (own_below HROW.out K2.out)
                obtain ⟨gb, hgb⟩ : ∃ gb, V1.heap.size = gb := ⟨_, rfl⟩
                rw [hgb] at C2 ⊢
                generalize V1.alloc (.cells #[.int .i64 1, .int .i64 x, .string ⟨#[]⟩, .complex .f64 0 0] 25) = V2 at K2 C2 O2 ⊢
                clear hgb
                refine hK.out _ _ ?_ (fun hHeld => ?_)
                · exact (K2.out.cell HXL.out).trans HXC2.out
                clear hK K
                try simp only [Act.put, List.setIfInBounds_toArray, List.set_cons_zero, List.set_cons_succ]
                refine wpAnyH_ready (rs := [16]) (by kernel_rfl) (by simp) ?_
                refine AllReadyH.cons (o := { dst := some 69, op := Op.call { callee := Callee.builtin Builtin.append, args := #[Operand.tmp 62, Operand.tmp 68], argTypes := #[46, 46] }, type := 46, pos := "more.go:58", after := #[{ on := 9, ground := Ground.data }, { on := 15, ground := Ground.data }, { on := 14, ground := Ground.chain }], guard := none }) rfl (fun K hK => ?_) ?_
                · skip
                  refine oper_app Tryz.E46 (.tmp 62) (.tmp 68) rfl w.heap.size (.slice a m c) r.length (flat r) rfl O2.out gb 1 1 (vc x) rfl rfl C2.out (vc_one x) (by have := HRL.out; omega) (by decide) (by have := K2.out.size; have := HWB2.out.size; omega) ?_
                  intro v3 V3 o3 g3 w3
                  have O3 : Hid (VO 25 V3 w.heap.size v3 (r ++ [x])) := Lib.hid (VO.push o3)
                  obtain ⟨m3, sg3, sc3, rfl⟩ : ∃ m sg sc, v3 = Value.slice (some ⟨sg, 0, none⟩) m sc := by
                    obtain ⟨sg, sc, e, _⟩ := O3.out.va (by simp)
                    exact ⟨_, sg, sc, e⟩
                  have G3 := Lib.hid g3
                  have W3 := Lib.hid w3
                  have HGC3 : Hid (V3.cell? ⟨G, d, none⟩ = some (.slice a m c)) := Lib.hid ((World.cell?_of_block (g3.block G (by have : G < W2.heap.size := HGL.out; have := K2.out.size; omega) (fun e => HGN.out e.symm))).trans ((K2.out.cell (p := ⟨G, d, none⟩) HGL.out).trans HGC.out))
                  have HGZ3 : Hid (V3.frozen? ⟨G, d, none⟩ = false) := Lib.hid ((World.frozen?_of_block (g3.block G (by have : G < W2.heap.size := HGL.out; have := K2.out.size; omega) (fun e => HGN.out e.symm))).trans ((K2.out.frozen (p := ⟨G, d, none⟩) HGL.out).trans HGZ.out))
                  have HXC3 : Hid (V3.cell? (X.add i) = some (.int .i64 x)) := Lib.hid ((World.cell?_of_block (g3.block _ (by have := HXL.out; have := K2.out.size; omega) (fun e => HXN.out e.symm))).trans ((K2.out.cell HXL.out).trans HXC2.out))
                  clear o3 g3 w3
                  refine hK.out _ _ ?_ (fun hHeld => ?_)
                  · exact HXC3.out
                  clear hK K
                  try simp only [Act.put, List.setIfInBounds_toArray, List.set_cons_zero, List.set_cons_succ]
                  refine wpAnyH_take (i := 17) (oi := { dst := some 70, op := Op.indexAddr 36 (Operand.tmp 53) (Operand.tmp 56), type := 0, pos := "more.go:58", after := #[{ on := 0, ground := Ground.data }, { on := 3, ground := Ground.data }, { on := 0, ground := Ground.phase }, { on := 1, ground := Ground.phase }, { on := 2, ground := Ground.phase }, { on := 3, ground := Ground.phase }, { on := 4, ground := Ground.phase }, { on := 5, ground := Ground.phase }, { on := 6, ground := Ground.phase }, { on := 7, ground := Ground.phase }, { on := 8, ground := Ground.phase }, { on := 9, ground := Ground.phase }, { on := 10, ground := Ground.phase }, { on := 11, ground := Ground.phase }, { on := 12, ground := Ground.phase }, { on := 13, ground := Ground.phase }, { on := 14, ground := Ground.phase }, { on := 15, ground := Ground.phase }, { on := 16, ground := Ground.phase }], guard := none }) (v := ?_) rfl (by kernel_rfl) (by kernel_rfl) (by kernel_rfl) (fun _ _ _ h => h) (Or.inl ⟨by rfl, ?_⟩) (by assumption) ?_
                  rotate_left
                  · (intro w hSw; (try dsimp only at hSw); go_simp; try with_reducible rfl)
                  try simp only [Act.put, List.setIfInBounds_toArray, List.set_cons_zero, List.set_cons_succ]
                  refine wpAnyH_ready (rs := [18]) (by kernel_rfl) (by simp) ?_
                  refine AllReadyH.cons (o := { dst := none, op := Op.store 46 (Operand.tmp 70) (Operand.tmp 69), type := 0, pos := "more.go:58", after := #[{ on := 17, ground := Ground.data }, { on := 16, ground := Ground.data }, { on := 16, ground := Ground.chain }, { on := 0, ground := Ground.phase }, { on := 1, ground := Ground.phase }, { on := 2, ground := Ground.phase }, { on := 3, ground := Ground.phase }, { on := 4, ground := Ground.phase }, { on := 5, ground := Ground.phase }, { on := 6, ground := Ground.phase }, { on := 7, ground := Ground.phase }, { on := 8, ground := Ground.phase }, { on := 9, ground := Ground.phase }, { on := 10, ground := Ground.phase }, { on := 11, ground := Ground.phase }, { on := 12, ground := Ground.phase }, { on := 13, ground := Ground.phase }, { on := 14, ground := Ground.phase }, { on := 15, ground := Ground.phase }, { on := 16, ground := Ground.phase }], guard := none }) rfl (fun K hK => ?_) ?_
                  · skip
                    have z3 := HGZ3.out
                    have c3 := HGC3.out
                    go_simp
                    refine hK.out _ _ ?_ (fun hHeld => ?_)
                    · exact (Chg.setCell V3 ⟨G, d, none⟩ _ |>.block _ (by have := HXL.out; have := K2.out.size; have := G3.out.size; omega) (fun e => HXG.out e) |> World.cell?_of_block).trans HXC3.out
                    clear hK K
                    try simp only [Act.put, List.setIfInBounds_toArray, List.set_cons_zero, List.set_cons_succ]
                    refine wpAnyH_done (by kernel_rfl) ?_ _
                    refine NoPanic.normal ?_
                    clear hNw hdN hdN2 hHeld z3 c3
                    go_wp2_with fail
                    have hfin := HWR2.out.last HD.out K2.out O3.out G3.out W3.out (by decide)
                    exact ⟨⟨i + 1, _, _, by omega, rfl, by rw [HTX.out], Lib.hid ⟨hfin, HGOOD.out, HCNT.out, by simp, ((HWB2.out.trans (K2.out.mono HWB2.out.size)).grown G3.out (by have := K2.out.size; have := HWB2.out.size; omega) fun k hk => (HROW.out.lt k hk).1).setCell HGB.out _⟩⟩, by simp [intO]; omega⟩
                  exact AllReadyH.nil
                exact AllReadyH.nil
              exact AllReadyH.nil
            refine AllReadyH.cons (o := { dst := some 68, op := Op.buildSlice 46 1 #[(0, Operand.tmp 67)], type := 46, pos := "more.go:58", after := #[{ on := 14, ground := Ground.data }], guard := none }) rfl (fun K hK => ?_) ?_
            · skip
              go_simp
              have K2 := Lib.hid (K1.out.alloc K1.out.size (.cells #[.int .i64 1, .int .i64 x, .string ⟨#[]⟩, .complex .f64 0 0] 25))
              have C2 := Lib.hid (one_cells V1 25 x)
              have O2 : Hid (VO 25 (V1.alloc (.cells #[.int .i64 1, .int .i64 x, .string ⟨#[]⟩, .complex .f64 0 0] 25)) w.heap.size (.slice a m c) r) := Lib.hid (own_below HROW.out K2.out)
              obtain ⟨gb, hgb⟩ : ∃ gb, V1.heap.size = gb := ⟨_, rfl⟩
              rw [hgb] at C2 ⊢
              generalize V1.alloc (.cells #[.int .i64 1, .int .i64 x, .string ⟨#[]⟩, .complex .f64 0 0] 25) = V2 at K2 C2 O2 ⊢
              clear hgb
              refine hK.out _ _ ?_ (fun hHeld => ?_)
              · exact (K2.out.cell HXL.out).trans HXC2.out
              clear hK K
              try simp only [Act.put, List.setIfInBounds_toArray, List.set_cons_zero, List.set_cons_succ]
              refine wpAnyH_ready (rs := [9]) (by kernel_rfl) (by simp) ?_
              refine AllReadyH.cons (o := { dst := some 62, op := Op.load 46 (Operand.tmp 61), type := 46, pos := "more.go:58", after := #[{ on := 8, ground := Ground.data }], guard := none }) rfl (fun K hK => ?_) ?_
              · skip
                have p1 : V2.cell? ⟨G, d, none⟩ = some (.slice a m c) := (K2.out.cell (p := ⟨G, d, none⟩) HGL.out).trans HGC.out
                go_simp
                clear p1
                refine hK.out _ _ ?_ (fun hHeld => ?_)
                · exact (K2.out.cell HXL.out).trans HXC2.out
                clear hK K
                try simp only [Act.put, List.setIfInBounds_toArray, List.set_cons_zero, List.set_cons_succ]
                refine wpAnyH_ready (rs := [16]) (by kernel_rfl) (by simp) ?_
                refine AllReadyH.cons (o := { dst := some 69, op := Op.call { callee := Callee.builtin Builtin.append, args := #[Operand.tmp 62, Operand.tmp 68], argTypes := #[46, 46] }, type := 46, pos := "more.go:58", after := #[{ on := 9, ground := Ground.data }, { on := 15, ground := Ground.data }, { on := 14, ground := Ground.chain }], guard := none }) rfl (fun K hK => ?_) ?_
                · skip
                  refine oper_app Tryz.E46 (.tmp 62) (.tmp 68) rfl w.heap.size (.slice a m c) r.length (flat r) rfl O2.out gb 1 1 (vc x) rfl rfl C2.out (vc_one x) (by have := HRL.out; omega) (by decide) (by have := K2.out.size; have := HWB2.out.size; omega) ?_
                  intro v3 V3 o3 g3 w3
                  have O3 : Hid (VO 25 V3 w.heap.size v3 (r ++ [x])) := Lib.hid (VO.push o3)
                  obtain ⟨m3, sg3, sc3, rfl⟩ : ∃ m sg sc, v3 = Value.slice (some ⟨sg, 0, none⟩) m sc := by
                    obtain ⟨sg, sc, e, _⟩ := O3.out.va (by simp)
                    exact ⟨_, sg, sc, e⟩
                  have G3 := Lib.hid g3
                  have W3 := Lib.hid w3
                  have HGC3 : Hid (V3.cell? ⟨G, d, none⟩ = some (.slice a m c)) := Lib.hid ((World.cell?_of_block (g3.block G (by have : G < W2.heap.size := HGL.out; have := K2.out.size; omega) (fun e => HGN.out e.symm))).trans ((K2.out.cell (p := ⟨G, d, none⟩) HGL.out).trans HGC.out))
                  have HGZ3 : Hid (V3.frozen? ⟨G, d, none⟩ = false) := Lib.hid ((World.frozen?_of_block (g3.block G (by have : G < W2.heap.size := HGL.out; have := K2.out.size; omega) (fun e => HGN.out e.symm))).trans ((K2.out.frozen (p := ⟨G, d, none⟩) HGL.out).trans HGZ.out))
                  have HXC3 : Hid (V3.cell? (X.add i) = some (.int .i64 x)) := Lib.hid ((World.cell?_of_block (g3.block _ (by have := HXL.out; have := K2.out.size; omega) (fun e => HXN.out e.symm))).trans ((K2.out.cell HXL.out).trans HXC2.out))
                  clear o3 g3 w3
                  refine hK.out _ _ ?_ (fun hHeld => ?_)
                  · exact HXC3.out
                  clear hK K
                  try simp only [Act.put, List.setIfInBounds_toArray, List.set_cons_zero, List.set_cons_succ]
                  refine wpAnyH_take (i := 17) (oi := { dst := some 70, op := Op.indexAddr 36 (Operand.tmp 53) (Operand.tmp 56), type := 0, pos := "more.go:58", after := #[{ on := 0, ground := Ground.data }, { on := 3, ground := Ground.data }, { on := 0, ground := Ground.phase }, { on := 1, ground := Ground.phase }, { on := 2, ground := Ground.phase }, { on := 3, ground := Ground.phase }, { on := 4, ground := Ground.phase }, { on := 5, ground := Ground.phase }, { on := 6, ground := Ground.phase }, { on := 7, ground := Ground.phase }, { on := 8, ground := Ground.phase }, { on := 9, ground := Ground.phase }, { on := 10, ground := Ground.phase }, { on := 11, ground := Ground.phase }, { on := 12, ground := Ground.phase }, { on := 13, ground := Ground.phase }, { on := 14, ground := Ground.phase }, { on := 15, ground := Ground.phase }, { on := 16, ground := Ground.phase }], guard := none }) (v := ?_) rfl (by kernel_rfl) (by kernel_rfl) (by kernel_rfl) (fun _ _ _ h => h) (Or.inl ⟨by rfl, ?_⟩) (by assumption) ?_
                  rotate_left
                  · (intro w hSw; (try dsimp only at hSw); go_simp; try with_reducible rfl)
                  try simp only [Act.put, List.setIfInBounds_toArray, List.set_cons_zero, List.set_cons_succ]
                  refine wpAnyH_ready (rs := [18]) (by kernel_rfl) (by simp) ?_
                  refine AllReadyH.cons (o := { dst := none, op := Op.store 46 (Operand.tmp 70) (Operand.tmp 69), type := 0, pos := "more.go:58", after := #[{ on := 17, ground := Ground.data }, { on := 16, ground := Ground.data }, { on := 16, ground := Ground.chain }, { on := 0, ground := Ground.phase }, { on := 1, ground := Ground.phase }, { on := 2, ground := Ground.phase }, { on := 3, ground := Ground.phase }, { on := 4, ground := Ground.phase }, { on := 5, ground := Ground.phase }, { on := 6, ground := Ground.phase }, { on := 7, ground := Ground.phase }, { on := 8, ground := Ground.phase }, { on := 9, ground := Ground.phase }, { on := 10, ground := Ground.phase }, { on := 11, ground := Ground.phase }, { on := 12, ground := Ground.phase }, { on := 13, ground := Ground.phase }, { on := 14, ground := Ground.phase }, { on := 15, ground := Ground.phase }, { on := 16, ground := Ground.phase }], guard := none }) rfl (fun K hK => ?_) ?_
                  · skip
                    have z3 := HGZ3.out
                    have c3 := HGC3.out
                    go_simp
                    refine hK.out _ _ ?_ (fun hHeld => ?_)
                    · exact (Chg.setCell V3 ⟨G, d, none⟩ _ |>.block _ (by have := HXL.out; have := K2.out.size; have := G3.out.size; omega) (fun e => HXG.out e) |> World.cell?_of_block).trans HXC3.out
                    clear hK K
                    try simp only [Act.put, List.setIfInBounds_toArray, List.set_cons_zero, List.set_cons_succ]
                    refine wpAnyH_done (by kernel_rfl) ?_ _
                    refine NoPanic.normal ?_
                    clear hNw hdN hdN2 hHeld z3 c3
                    go_wp2_with fail
                    have hfin := HWR2.out.last HD.out K2.out O3.out G3.out W3.out (by decide)
                    exact ⟨⟨i + 1, _, _, by omega, rfl, by rw [HTX.out], Lib.hid ⟨hfin, HGOOD.out, HCNT.out, by simp, ((HWB2.out.trans (K2.out.mono HWB2.out.size)).grown G3.out (by have := K2.out.size; have := HWB2.out.size; omega) fun k hk => (HROW.out.lt k hk).1).setCell HGB.out _⟩⟩, by simp [intO]; omega⟩
                  exact AllReadyH.nil
                exact AllReadyH.nil
              exact AllReadyH.nil
            exact AllReadyH.nil
          exact AllReadyH.nil
      · have f0 : decide ((q : Int) = 0) = false := decide_eq_false (by omega)
        have f0' : ((q : Int) == 0) = false := by simp; omega
        have f0'' : decide (q = 0) = false := decide_eq_false hq0
        have HI0 : Hid (i ≠ 0) := Lib.hid fun e => by have := HQ.out; rw [e] at this; simp at this; omega
        obtain ⟨R0, r, hR0⟩ : ∃ R0 r, R = R0 ++ [r] := by
          rcases List.eq_nil_or_concat R with e | ⟨R0, r, e⟩
          · exact absurd (HS.out.emp.1 e) HI0.out
          · exact ⟨R0, r, by simpa using e⟩
        subst hR0
        obtain ⟨svs0, sv, hsv⟩ : ∃ svs0 sv, svs = svs0 ++ [sv] := by
          rcases List.eq_nil_or_concat svs with e | ⟨R0, r, e⟩
          · have := HS.out.wr.len; rw [e] at this; simp at this
          · exact ⟨R0, r, by simpa using e⟩
        subst hsv
        have hrow : VO 25 W w.heap.size sv r := HS.out.wr.row R0.length r _ (by simp) (by have := HS.out.wr.len; simp at this; rw [← this]; simp)
        obtain ⟨a, c, rfl⟩ := own_slice hrow
        obtain ⟨m, hm⟩ : ∃ m, r.length = m := ⟨_, rfl⟩
        rw [hm] at hrow HS
        obtain ⟨G, CC, hv, _⟩ := own_at HS.out.wr.own (by simp)
        obtain ⟨N2, hN2⟩ : ∃ N2, (svs0 ++ [Value.slice a m c]).length = N2 := ⟨_, rfl⟩
        rw [hN2] at hv
        subst hv
        have HWR : Hid (WR 46 25 W w.heap.size (.slice (some ⟨G, 0, none⟩) N2 CC) (R0 ++ [r]) (svs0 ++ [.slice a m c])) := Lib.hid HS.out.wr
        have HWB : Hid (Below w.heap.size w W) := Lib.hid HS.out.bel
        obtain ⟨W1, hW1⟩ : ∃ W1, W = W1 := ⟨_, rfl⟩
        have hr0 : r ≠ [] := (HS.out.good r (by simp)).1
        have hgood : GR (R0 ++ [r ++ [x]]) := gr_snoc (gr_left HS.out.good) (by simp) fun k hk => by
          rcases List.mem_append.1 hk with hk | hk
          · exact (HS.out.good r (by simp)).2 k hk
          · simp at hk; subst hk; exact HXI.out
        have hcnt : cnt (R0 ++ [r ++ [x]]) = i + 1 := by
          have := HS.out.cnt
          rw [cnt_snoc] at this ⊢
          simp
          omega
        obtain ⟨M, hM⟩ : ∃ M, (appendB ++ RT (R0 ++ [r])).length = M := ⟨_, rfl⟩
        have hszM : (bs (appendB ++ RT (R0 ++ [r]))).size = M := by rw [bs_size, hM]
        have hM15 : M ≤ 1500 := by rw [← hM]; exact HTL0.out
        have h44 : bs (appendB ++ RT (R0 ++ [r])) ++ ⟨#[44]⟩ = bs ((appendB ++ RT (R0 ++ [r])) ++ [44]) := bs_app _ [44]
        obtain ⟨T0, hT0⟩ : ∃ T0, (appendB ++ RT (R0 ++ [r])) ++ [44] = T0 := ⟨_, rfl⟩
        have HTL : Hid (T0.length ≤ 2000) := Lib.hid (by rw [← hT0]; have := HTL0.out; rw [List.length_append]; show _ + 1 ≤ 2000; omega)
        have HTX : Hid (T0 ++ Lib.itoa x = appendB ++ RT (R0 ++ [r ++ [x]])) := Lib.hid (by
          rw [← hT0, RT_more R0 r x hr0]
          simp)
        rw [hT0] at h44
        have HGOOD := Lib.hid hgood
        have HCNT := Lib.hid hcnt
        subst hW1
        have HM := Lib.hid hm
        clear hT0 hM hgood hcnt hr0 hrow hq0 hN2 hm HS
        have hxc : W.cell? (X.add i) = some (.int .i64 x) := (HWB.out.cell HXL.out).trans HXC.out
        obtain ⟨M0, hM0⟩ : ∃ M0, T0.length = M0 := ⟨_, rfl⟩
        have hsz0 : (bs T0).size = M0 := by rw [bs_size, hM0]
        have hM02 : M0 ≤ 2000 := by rw [← hM0]; exact HTL.out
        obtain ⟨M1, hM1⟩ : ∃ M1, (Lib.itoa x).length = M1 := ⟨_, rfl⟩
        have hsz1 : (bs (Lib.itoa x)).size = M1 := by rw [bs_size, hM1]
        have hM12 : M1 ≤ 21 := by rw [← hM1]; exact Lib.itoa_length_le x HXI.out.1 HXI.out.2
        have hba := bs_app T0 (Lib.itoa x)
        clear hM0 hM1
        go_wp2_with fail
        refine (Tryz.decimalAny x HXI.out _).mono ?_
        rintro e W2 ⟨rfl, b2⟩
        have HWB2 := Lib.hid (HWB.out.trans (b2.mono HWB.out.size))
        go_wp2_with fail
        clear hsz0 hM02 hsz1 hM12 hba hxc
        have HWR2 := Lib.hid (HWR.out.below b2)
        have HROW : Hid (VO 25 W2 w.heap.size (.slice a m c) r) := Lib.hid (HWR2.out.row R0.length r _ (by simp) (by have := HWR2.out.len; simp at this; rw [← this]; simp))
        have HGN : Hid (¬ ((Value.slice a m c).ownBlock = some G)) := Lib.hid fun e => own_ne HWR2.out.own HROW.out (by decide) G rfl e
        have hgown := HWR2.out.own
        have hne0 : (svs0 ++ [Value.slice a m c]).length ≠ 0 := by simp
        obtain ⟨G', c', hge, hgb0, hglt, hgn, hgm, hgc, hgz⟩ := own_at hgown hne0
        simp only [Value.slice.injEq, Option.some.injEq, Addr.mk.injEq, and_true, true_and] at hge
        obtain ⟨rfl, hnn, rfl⟩ := hge
        have hdl : svs0.length + 1 = N2 := by rw [hnn]; simp
        obtain ⟨d, hd⟩ : ∃ d, svs0.length = d := ⟨_, rfl⟩
        rw [hd] at hdl
        have HGC : Hid (W2.cell? ⟨G, d, none⟩ = some (.slice a m c)) := Lib.hid ((hgc d (by rw [← hnn]; omega)).trans (by rw [← hd]; simp))
        have HGZ : Hid (W2.frozen? ⟨G, d, none⟩ = false) := Lib.hid (hgz d)
        have HGL : Hid ((⟨G, d, none⟩ : Addr).block < W2.heap.size) := Lib.hid hglt
        have HXC2 : Hid (W2.cell? (X.add i) = some (.int .i64 x)) := Lib.hid ((HWB2.out.cell HXL.out).trans HXC.out)
        have HXL2 : Hid ((X.add i).block < W2.heap.size) := Lib.hid (Nat.lt_of_lt_of_le HXL.out HWB2.out.size)
        have HXN : Hid (¬ ((Value.slice a m c).ownBlock = some (X.add i).block)) := Lib.hid fun e => by have := (HROW.out.lt _ e).1; have := HXL.out; omega
        have HD := Lib.hid hd
        have HGB : Hid (w.heap.size ≤ (⟨G, d, none⟩ : Addr).block) := Lib.hid hgb0
        have HXG : Hid (¬ ((X.add i).block = G)) := Lib.hid fun e => by have := HXL.out; omega
        have HRL : Hid (r.length ≤ 60) := Lib.hid (by have := HCNT.out; rw [cnt_snoc] at this; simp at this; omega)
        have hN2 : N2 ≤ 61 := by
          have h1 := cnt_ge _ HGOOD.out
          have h2 := HCNT.out
          have h3 := HWR2.out.len
          simp at h1 h3
          omega
        have hNi : (N2 : Int) - 1 = (d : Int) := by omega
        have hNw : IntKind.i64.wrap ((N2 : Int) - 1) = (d : Int) := by rw [IntKind.wrap_i64]; omega
        have hdN : decide (d < N2) = true := decide_eq_true (by omega)
        have hdN2 : decide ((d : Int) < N2) = true := decide_eq_true (by omega)
        have hd0 : (0 : Int) ≤ d := by omega
        have hdlt : d < N2 := by omega
        have HXL := HXL2
        have HNN := Lib.hid (fun w => Tryz.nn x w)
        unfold vN at HNN
        have HHNW := Lib.hid hNw
        have HHNI := Lib.hid hNi
        clear b2 hgown hne0 hgb0 hglt hgn hgm hgc hgz hnn hd hdl hNi
        refine wp_region_noPanic ?_
        refine wp_region_held_drew (S := (fun V => V.cell? (X.add i) = some (.int .i64 x))) (by kernel_rfl) ?_ (fun hHeld => ?_)
        · exact HXC2.out
        obtain ⟨V0, hV0⟩ : ∃ V0, W2.drew = V0 := ⟨_, rfl⟩
        have K0 : Hid (Below W2.heap.size W2 V0) := Lib.hid (by rw [← hV0]; exact (Below.refl _ W2).drew)
        rw [hV0] at hHeld ⊢
        clear hV0
        refine wpAnyH_take (i := 0) (oi := { dst := some 53, op := Op.move (Operand.tmp 7), type := 36, pos := "more.go:58", after := #[], guard := none }) (v := ?_) rfl (by kernel_rfl) (by kernel_rfl) (by kernel_rfl) (fun _ _ _ h => h) (Or.inl ⟨by rfl, ?_⟩) (by assumption) ?_
        rotate_left
        · (intro w hSw; (try dsimp only at hSw); go_simp; try with_reducible rfl)
        try simp only [Act.put, List.setIfInBounds_toArray, List.set_cons_zero, List.set_cons_succ]
        refine wpAnyH_take (i := 1) (oi := { dst := some 54, op := Op.move (Operand.tmp 7), type := 36, pos := "more.go:58", after := #[], guard := none }) (v := ?_) rfl (by kernel_rfl) (by kernel_rfl) (by kernel_rfl) (fun _ _ _ h => h) (Or.inl ⟨by rfl, ?_⟩) (by assumption) ?_
        rotate_left
        · (intro w hSw; (try dsimp only at hSw); go_simp; try with_reducible rfl)
        try simp only [Act.put, List.setIfInBounds_toArray, List.set_cons_zero, List.set_cons_succ]
        refine wpAnyH_take (i := 2) (oi := { dst := some 55, op := Op.call { callee := Callee.builtin Builtin.len, args := #[Operand.tmp 54], argTypes := #[36] }, type := 3, pos := "more.go:58", after := #[{ on := 1, ground := Ground.data }], guard := none }) (v := ?_) rfl (by kernel_rfl) (by kernel_rfl) (by kernel_rfl) (fun _ _ _ h => h) (Or.inl ⟨by rfl, ?_⟩) (by assumption) ?_
        rotate_left
        · (intro w hSw; (try dsimp only at hSw); go_simp; try with_reducible rfl)
        try simp only [Act.put, List.setIfInBounds_toArray, List.set_cons_zero, List.set_cons_succ]
        refine wpAnyH_take (i := 3) (oi := { dst := some 56, op := Op.binOp BinOp.sub 3 (Operand.tmp 55) (Operand.const (Value.int IntKind.i64 1)) 3, type := 3, pos := "more.go:58", after := #[{ on := 2, ground := Ground.data }], guard := none }) (v := ?_) rfl (by kernel_rfl) (by kernel_rfl) (by kernel_rfl) (fun _ _ _ h => h) (Or.inl ⟨by rfl, ?_⟩) (by assumption) ?_
        rotate_left
        · (intro w hSw; (try dsimp only at hSw); go_simp; try with_reducible rfl)
        try simp only [Act.put, List.setIfInBounds_toArray, List.set_cons_zero, List.set_cons_succ]
        refine wpAnyH_take (i := 4) (oi := { dst := some 57, op := Op.move (Operand.tmp 7), type := 36, pos := "more.go:58", after := #[], guard := none }) (v := ?_) rfl (by kernel_rfl) (by kernel_rfl) (by kernel_rfl) (fun _ _ _ h => h) (Or.inl ⟨by rfl, ?_⟩) (by assumption) ?_
        rotate_left
        · (intro w hSw; (try dsimp only at hSw); go_simp; try with_reducible rfl)
        try simp only [Act.put, List.setIfInBounds_toArray, List.set_cons_zero, List.set_cons_succ]
        refine wpAnyH_take (i := 5) (oi := { dst := some 58, op := Op.move (Operand.tmp 7), type := 36, pos := "more.go:58", after := #[], guard := none }) (v := ?_) rfl (by kernel_rfl) (by kernel_rfl) (by kernel_rfl) (fun _ _ _ h => h) (Or.inl ⟨by rfl, ?_⟩) (by assumption) ?_
        rotate_left
        · (intro w hSw; (try dsimp only at hSw); go_simp; try with_reducible rfl)
        try simp only [Act.put, List.setIfInBounds_toArray, List.set_cons_zero, List.set_cons_succ]
        refine wpAnyH_take (i := 6) (oi := { dst := some 59, op := Op.call { callee := Callee.builtin Builtin.len, args := #[Operand.tmp 58], argTypes := #[36] }, type := 3, pos := "more.go:58", after := #[{ on := 5, ground := Ground.data }], guard := none }) (v := ?_) rfl (by kernel_rfl) (by kernel_rfl) (by kernel_rfl) (fun _ _ _ h => h) (Or.inl ⟨by rfl, ?_⟩) (by assumption) ?_
        rotate_left
        · (intro w hSw; (try dsimp only at hSw); go_simp; try with_reducible rfl)
        try simp only [Act.put, List.setIfInBounds_toArray, List.set_cons_zero, List.set_cons_succ]
        refine wpAnyH_take (i := 7) (oi := { dst := some 60, op := Op.binOp BinOp.sub 3 (Operand.tmp 59) (Operand.const (Value.int IntKind.i64 1)) 3, type := 3, pos := "more.go:58", after := #[{ on := 6, ground := Ground.data }], guard := none }) (v := ?_) rfl (by kernel_rfl) (by kernel_rfl) (by kernel_rfl) (fun _ _ _ h => h) (Or.inl ⟨by rfl, ?_⟩) (by assumption) ?_
        rotate_left
        · (intro w hSw; (try dsimp only at hSw); go_simp; try with_reducible rfl)
        try simp only [Act.put, List.setIfInBounds_toArray, List.set_cons_zero, List.set_cons_succ]
        refine wpAnyH_take (i := 8) (oi := { dst := some 61, op := Op.indexAddr 36 (Operand.tmp 57) (Operand.tmp 60), type := 0, pos := "more.go:58", after := #[{ on := 4, ground := Ground.data }, { on := 7, ground := Ground.data }], guard := none }) (v := ?_) rfl (by kernel_rfl) (by kernel_rfl) (by kernel_rfl) (fun _ _ _ h => h) (Or.inl ⟨by rfl, ?_⟩) (by assumption) ?_
        rotate_left
        · (intro w hSw; (try dsimp only at hSw); go_simp; try with_reducible rfl)
        try simp only [Act.put, List.setIfInBounds_toArray, List.set_cons_zero, List.set_cons_succ]
        refine wpAnyH_take (i := 10) (oi := { dst := some 63, op := Op.move (Operand.tmp 0), type := 44, pos := "more.go:58", after := #[], guard := none }) (v := ?_) rfl (by kernel_rfl) (by kernel_rfl) (by kernel_rfl) (fun _ _ _ h => h) (Or.inl ⟨by rfl, ?_⟩) (by assumption) ?_
        rotate_left
        · (intro w hSw; (try dsimp only at hSw); go_simp; try with_reducible rfl)
        try simp only [Act.put, List.setIfInBounds_toArray, List.set_cons_zero, List.set_cons_succ]
        refine wpAnyH_take (i := 11) (oi := { dst := some 64, op := Op.move (Operand.tmp 8), type := 3, pos := "more.go:58", after := #[], guard := none }) (v := ?_) rfl (by kernel_rfl) (by kernel_rfl) (by kernel_rfl) (fun _ _ _ h => h) (Or.inl ⟨by rfl, ?_⟩) (by assumption) ?_
        rotate_left
        · (intro w hSw; (try dsimp only at hSw); go_simp; try with_reducible rfl)
        try simp only [Act.put, List.setIfInBounds_toArray, List.set_cons_zero, List.set_cons_succ]
        refine wpAnyH_take (i := 12) (oi := { dst := some 65, op := Op.indexAddr 44 (Operand.tmp 63) (Operand.tmp 64), type := 0, pos := "more.go:58", after := #[{ on := 10, ground := Ground.data }, { on := 11, ground := Ground.data }], guard := none }) (v := ?_) rfl (by kernel_rfl) (by kernel_rfl) (by kernel_rfl) (fun _ _ _ h => h) (Or.inl ⟨by rfl, ?_⟩) (by assumption) ?_
        rotate_left
        · (intro w hSw; (try dsimp only at hSw); go_simp; try with_reducible rfl)
        try simp only [Act.put, List.setIfInBounds_toArray, List.set_cons_zero, List.set_cons_succ]
        refine wpAnyH_take (i := 13) (oi := { dst := some 66, op := Op.load 2 (Operand.tmp 65), type := 2, pos := "more.go:58", after := #[{ on := 12, ground := Ground.data }], guard := none }) (v := ?_) rfl (by kernel_rfl) (by kernel_rfl) (by kernel_rfl) (fun _ _ _ h => h) (Or.inl ⟨by rfl, ?_⟩) (by assumption) ?_
        rotate_left
        · (intro w hSw; (try dsimp only at hSw); go_simp; try with_reducible rfl)
        try simp only [Act.put, List.setIfInBounds_toArray, List.set_cons_zero, List.set_cons_succ]
        refine wpAnyH_ready (rs := [9, 14]) (by kernel_rfl) (by simp) ?_
        refine AllReadyH.cons (o := { dst := some 62, op := Op.load 46 (Operand.tmp 61), type := 46, pos := "more.go:58", after := #[{ on := 8, ground := Ground.data }], guard := none }) rfl (fun K hK => ?_) ?_
        · skip
          have p1 : V0.cell? ⟨G, d, none⟩ = some (.slice a m c) := (K0.out.cell (p := ⟨G, d, none⟩) HGL.out).trans HGC.out
          go_simp
          clear p1
          refine hK.out _ _ ?_ (fun hHeld => ?_)
          · exact (K0.out.cell HXL.out).trans HXC2.out
          clear hK K
          try simp only [Act.put, List.setIfInBounds_toArray, List.set_cons_zero, List.set_cons_succ]
          refine wpAnyH_ready (rs := [14]) (by kernel_rfl) (by simp) ?_
          refine AllReadyH.cons (o := { dst := some 67, op := Op.call { callee := Callee.value (Operand.func 12), args := #[Operand.tmp 66], argTypes := #[2] }, type := 25, pos := "more.go:58", after := #[{ on := 13, ground := Ground.data }], guard := none }) rfl (fun K hK => ?_) ?_
          · skip
            go_simp
            refine (HNN.out _).mono ?_
            rintro e V1 ⟨rfl, hb⟩
            have K1 : Hid (Below W2.heap.size W2 V1) := Lib.hid (K0.out.trans (hb.mono K0.out.size))
            clear hb
            refine hK.out _ _ ?_ (fun hHeld => ?_)
            · exact (K1.out.cell HXL.out).trans HXC2.out
            clear hK K
            try simp only [Act.put, List.setIfInBounds_toArray, List.set_cons_zero, List.set_cons_succ]
            refine wpAnyH_ready (rs := [15]) (by kernel_rfl) (by simp) ?_
            refine AllReadyH.cons (o := { dst := some 68, op := Op.buildSlice 46 1 #[(0, Operand.tmp 67)], type := 46, pos := "more.go:58", after := #[{ on := 14, ground := Ground.data }], guard := none }) rfl (fun K hK => ?_) ?_
            · skip
              go_simp
              have K2 := Lib.hid (K1.out.alloc K1.out.size (.cells #[.int .i64 1, .int .i64 x, .string ⟨#[]⟩, .complex .f64 0 0] 25))
              have C2 := Lib.hid (one_cells V1 25 x)
              have O2 : Hid (VO 25 (V1.alloc (.cells #[.int .i64 1, .int .i64 x, .string ⟨#[]⟩, .complex .f64 0 0] 25)) w.heap.size (.slice a m c) r) := Lib.hid (own_below HROW.out K2.out)
              obtain ⟨gb, hgb⟩ : ∃ gb, V1.heap.size = gb := ⟨_, rfl⟩
              rw [hgb] at C2 ⊢
              generalize V1.alloc (.cells #[.int .i64 1, .int .i64 x, .string ⟨#[]⟩, .complex .f64 0 0] 25) = V2 at K2 C2 O2 ⊢
              clear hgb
              refine hK.out _ _ ?_ (fun hHeld => ?_)
              · exact (K2.out.cell HXL.out).trans HXC2.out
              clear hK K
              try simp only [Act.put, List.setIfInBounds_toArray, List.set_cons_zero, List.set_cons_succ]
              refine wpAnyH_ready (rs := [16]) (by kernel_rfl) (by simp) ?_
              refine AllReadyH.cons (o := { dst := some 69, op := Op.call { callee := Callee.builtin Builtin.append, args := #[Operand.tmp 62, Operand.tmp 68], argTypes := #[46, 46] }, type := 46, pos := "more.go:58", after := #[{ on := 9, ground := Ground.data }, { on := 15, ground := Ground.data }, { on := 14, ground := Ground.chain }], guard := none }) rfl (fun K hK => ?_) ?_
              · skip
                refine oper_app Tryz.E46 (.tmp 62) (.tmp 68) rfl w.heap.size (.slice a m c) r.length (flat r) rfl O2.out gb 1 1 (vc x) rfl rfl C2.out (vc_one x) (by have := HRL.out; omega) (by decide) (by have := K2.out.size; have := HWB2.out.size; omega) ?_
                intro v3 V3 o3 g3 w3
                have O3 : Hid (VO 25 V3 w.heap.size v3 (r ++ [x])) := Lib.hid (VO.push o3)
                obtain ⟨m3, sg3, sc3, rfl⟩ : ∃ m sg sc, v3 = Value.slice (some ⟨sg, 0, none⟩) m sc := by
                  obtain ⟨sg, sc, e, _⟩ := O3.out.va (by simp)
                  exact ⟨_, sg, sc, e⟩
                have G3 := Lib.hid g3
                have W3 := Lib.hid w3
                have HGC3 : Hid (V3.cell? ⟨G, d, none⟩ = some (.slice a m c)) := Lib.hid ((World.cell?_of_block (g3.block G (by have : G < W2.heap.size := HGL.out; have := K2.out.size; omega) (fun e => HGN.out e.symm))).trans ((K2.out.cell (p := ⟨G, d, none⟩) HGL.out).trans HGC.out))
                have HGZ3 : Hid (V3.frozen? ⟨G, d, none⟩ = false) := Lib.hid ((World.frozen?_of_block (g3.block G (by have : G < W2.heap.size := HGL.out; have := K2.out.size; omega) (fun e => HGN.out e.symm))).trans ((K2.out.frozen (p := ⟨G, d, none⟩) HGL.out).trans HGZ.out))
                have HXC3 : Hid (V3.cell? (X.add i) = some (.int .i64 x)) := Lib.hid ((World.cell?_of_block (g3.block _ (by have := HXL.out; have := K2.out.size; omega) (fun e => HXN.out e.symm))).trans ((K2.out.cell HXL.out).trans HXC2.out))
                clear o3 g3 w3
                refine hK.out _ _ ?_ (fun hHeld => ?_)
                · exact HXC3.out
                clear hK K
                try simp only [Act.put, List.setIfInBounds_toArray, List.set_cons_zero, List.set_cons_succ]
                refine wpAnyH_take (i := 17) (oi := { dst := some 70, op := Op.indexAddr 36 (Operand.tmp 53) (Operand.tmp 56), type := 0, pos := "more.go:58", after := #[{ on := 0, ground := Ground.data }, { on := 3, ground := Ground.data }, { on := 0, ground := Ground.phase }, { on := 1, ground := Ground.phase }, { on := 2, ground := Ground.phase }, { on := 3, ground := Ground.phase }, { on := 4, ground := Ground.phase }, { on := 5, ground := Ground.phase }, { on := 6, ground := Ground.phase }, { on := 7, ground := Ground.phase }, { on := 8, ground := Ground.phase }, { on := 9, ground := Ground.phase }, { on := 10, ground := Ground.phase }, { on := 11, ground := Ground.phase }, { on := 12, ground := Ground.phase }, { on := 13, ground := Ground.phase }, { on := 14, ground := Ground.phase }, { on := 15, ground := Ground.phase }, { on := 16, ground := Ground.phase }], guard := none }) (v := ?_) rfl (by kernel_rfl) (by kernel_rfl) (by kernel_rfl) (fun _ _ _ h => h) (Or.inl ⟨by rfl, ?_⟩) (by assumption) ?_
                rotate_left
                · (intro w hSw; (try dsimp only at hSw); go_simp; try with_reducible rfl)
                try simp only [Act.put, List.setIfInBounds_toArray, List.set_cons_zero, List.set_cons_succ]
                refine wpAnyH_ready (rs := [18]) (by kernel_rfl) (by simp) ?_
                refine AllReadyH.cons (o := { dst := none, op := Op.store 46 (Operand.tmp 70) (Operand.tmp 69), type := 0, pos := "more.go:58", after := #[{ on := 17, ground := Ground.data }, { on := 16, ground := Ground.data }, { on := 16, ground := Ground.chain }, { on := 0, ground := Ground.phase }, { on := 1, ground := Ground.phase }, { on := 2, ground := Ground.phase }, { on := 3, ground := Ground.phase }, { on := 4, ground := Ground.phase }, { on := 5, ground := Ground.phase }, { on := 6, ground := Ground.phase }, { on := 7, ground := Ground.phase }, { on := 8, ground := Ground.phase }, { on := 9, ground := Ground.phase }, { on := 10, ground := Ground.phase }, { on := 11, ground := Ground.phase }, { on := 12, ground := Ground.phase }, { on := 13, ground := Ground.phase }, { on := 14, ground := Ground.phase }, { on := 15, ground := Ground.phase }, { on := 16, ground := Ground.phase }], guard := none }) rfl (fun K hK => ?_) ?_
                · skip
                  have z3 := HGZ3.out
                  have c3 := HGC3.out
                  go_simp
                  refine hK.out _ _ ?_ (fun hHeld => ?_)
                  · exact (Chg.setCell V3 ⟨G, d, none⟩ _ |>.block _ (by have := HXL.out; have := K2.out.size; have := G3.out.size; omega) (fun e => HXG.out e) |> World.cell?_of_block).trans HXC3.out
                  clear hK K
                  try simp only [Act.put, List.setIfInBounds_toArray, List.set_cons_zero, List.set_cons_succ]
                  refine wpAnyH_done (by kernel_rfl) ?_ _
                  refine NoPanic.normal ?_
                  clear hNw hdN hdN2 hHeld z3 c3
                  go_wp2_with fail
                  have hfin := HWR2.out.last HD.out K2.out O3.out G3.out W3.out (by decide)
                  exact ⟨⟨i + 1, _, _, by omega, rfl, by rw [HTX.out], Lib.hid ⟨hfin, HGOOD.out, HCNT.out, by simp, ((HWB2.out.trans (K2.out.mono HWB2.out.size)).grown G3.out (by have := K2.out.size; have := HWB2.out.size; omega) fun k hk => (HROW.out.lt k hk).1).setCell HGB.out _⟩⟩, by simp [intO]; omega⟩
                exact AllReadyH.nil
              exact AllReadyH.nil
            exact AllReadyH.nil
          exact AllReadyH.nil
        refine AllReadyH.cons (o := { dst := some 67, op := Op.call { callee := Callee.value (Operand.func 12), args := #[Operand.tmp 66], argTypes := #[2] }, type := 25, pos := "more.go:58", after := #[{ on := 13, ground := Ground.data }], guard := none }) rfl (fun K hK => ?_) ?_
        · skip
          go_simp
          refine (HNN.out _).mono ?_
          rintro e V1 ⟨rfl, hb⟩
          have K1 : Hid (Below W2.heap.size W2 V1) := Lib.hid (K0.out.trans (hb.mono K0.out.size))
          clear hb
          refine hK.out _ _ ?_ (fun hHeld => ?_)
          · exact (K1.out.cell HXL.out).trans HXC2.out
          clear hK K
          try simp only [Act.put, List.setIfInBounds_toArray, List.set_cons_zero, List.set_cons_succ]
          refine wpAnyH_ready (rs := [9, 15]) (by kernel_rfl) (by simp) ?_
          refine AllReadyH.cons (o := { dst := some 62, op := Op.load 46 (Operand.tmp 61), type := 46, pos := "more.go:58", after := #[{ on := 8, ground := Ground.data }], guard := none }) rfl (fun K hK => ?_) ?_
          · skip
            have p1 : V1.cell? ⟨G, d, none⟩ = some (.slice a m c) := (K1.out.cell (p := ⟨G, d, none⟩) HGL.out).trans HGC.out
            go_simp
            clear p1
            refine hK.out _ _ ?_ (fun hHeld => ?_)
            · exact (K1.out.cell HXL.out).trans HXC2.out
            clear hK K
            try simp only [Act.put, List.setIfInBounds_toArray, List.set_cons_zero, List.set_cons_succ]
            refine wpAnyH_ready (rs := [15]) (by kernel_rfl) (by simp) ?_
            refine AllReadyH.cons (o := { dst := some 68, op := Op.buildSlice 46 1 #[(0, Operand.tmp 67)], type := 46, pos := "more.go:58", after := #[{ on := 14, ground := Ground.data }], guard := none }) rfl (fun K hK => ?_) ?_
            · skip
              go_simp
              have K2 := Lib.hid (K1.out.alloc K1.out.size (.cells #[.int .i64 1, .int .i64 x, .string ⟨#[]⟩, .complex .f64 0 0] 25))
              have C2 := Lib.hid (one_cells V1 25 x)
              have O2 : Hid (VO 25 (V1.alloc (.cells #[.int .i64 1, .int .i64 x, .string ⟨#[]⟩, .complex .f64 0 0] 25)) w.heap.size (.slice a m c) r) := Lib.hid (own_below HROW.out K2.out)
              obtain ⟨gb, hgb⟩ : ∃ gb, V1.heap.size = gb := ⟨_, rfl⟩
              rw [hgb] at C2 ⊢
              generalize V1.alloc (.cells #[.int .i64 1, .int .i64 x, .string ⟨#[]⟩, .complex .f64 0 0] 25) = V2 at K2 C2 O2 ⊢
              clear hgb
              refine hK.out _ _ ?_ (fun hHeld => ?_)
              · exact (K2.out.cell HXL.out).trans HXC2.out
              clear hK K
              try simp only [Act.put, List.setIfInBounds_toArray, List.set_cons_zero, List.set_cons_succ]
              refine wpAnyH_ready (rs := [16]) (by kernel_rfl) (by simp) ?_
              refine AllReadyH.cons (o := { dst := some 69, op := Op.call { callee := Callee.builtin Builtin.append, args := #[Operand.tmp 62, Operand.tmp 68], argTypes := #[46, 46] }, type := 46, pos := "more.go:58", after := #[{ on := 9, ground := Ground.data }, { on := 15, ground := Ground.data }, { on := 14, ground := Ground.chain }], guard := none }) rfl (fun K hK => ?_) ?_
              · skip
                refine oper_app Tryz.E46 (.tmp 62) (.tmp 68) rfl w.heap.size (.slice a m c) r.length (flat r) rfl O2.out gb 1 1 (vc x) rfl rfl C2.out (vc_one x) (by have := HRL.out; omega) (by decide) (by have := K2.out.size; have := HWB2.out.size; omega) ?_
                intro v3 V3 o3 g3 w3
                have O3 : Hid (VO 25 V3 w.heap.size v3 (r ++ [x])) := Lib.hid (VO.push o3)
                obtain ⟨m3, sg3, sc3, rfl⟩ : ∃ m sg sc, v3 = Value.slice (some ⟨sg, 0, none⟩) m sc := by
                  obtain ⟨sg, sc, e, _⟩ := O3.out.va (by simp)
                  exact ⟨_, sg, sc, e⟩
                have G3 := Lib.hid g3
                have W3 := Lib.hid w3
                have HGC3 : Hid (V3.cell? ⟨G, d, none⟩ = some (.slice a m c)) := Lib.hid ((World.cell?_of_block (g3.block G (by have : G < W2.heap.size := HGL.out; have := K2.out.size; omega) (fun e => HGN.out e.symm))).trans ((K2.out.cell (p := ⟨G, d, none⟩) HGL.out).trans HGC.out))
                have HGZ3 : Hid (V3.frozen? ⟨G, d, none⟩ = false) := Lib.hid ((World.frozen?_of_block (g3.block G (by have : G < W2.heap.size := HGL.out; have := K2.out.size; omega) (fun e => HGN.out e.symm))).trans ((K2.out.frozen (p := ⟨G, d, none⟩) HGL.out).trans HGZ.out))
                have HXC3 : Hid (V3.cell? (X.add i) = some (.int .i64 x)) := Lib.hid ((World.cell?_of_block (g3.block _ (by have := HXL.out; have := K2.out.size; omega) (fun e => HXN.out e.symm))).trans ((K2.out.cell HXL.out).trans HXC2.out))
                clear o3 g3 w3
                refine hK.out _ _ ?_ (fun hHeld => ?_)
                · exact HXC3.out
                clear hK K
                try simp only [Act.put, List.setIfInBounds_toArray, List.set_cons_zero, List.set_cons_succ]
                refine wpAnyH_take (i := 17) (oi := { dst := some 70, op := Op.indexAddr 36 (Operand.tmp 53) (Operand.tmp 56), type := 0, pos := "more.go:58", after := #[{ on := 0, ground := Ground.data }, { on := 3, ground := Ground.data }, { on := 0, ground := Ground.phase }, { on := 1, ground := Ground.phase }, { on := 2, ground := Ground.phase }, { on := 3, ground := Ground.phase }, { on := 4, ground := Ground.phase }, { on := 5, ground := Ground.phase }, { on := 6, ground := Ground.phase }, { on := 7, ground := Ground.phase }, { on := 8, ground := Ground.phase }, { on := 9, ground := Ground.phase }, { on := 10, ground := Ground.phase }, { on := 11, ground := Ground.phase }, { on := 12, ground := Ground.phase }, { on := 13, ground := Ground.phase }, { on := 14, ground := Ground.phase }, { on := 15, ground := Ground.phase }, { on := 16, ground := Ground.phase }], guard := none }) (v := ?_) rfl (by kernel_rfl) (by kernel_rfl) (by kernel_rfl) (fun _ _ _ h => h) (Or.inl ⟨by rfl, ?_⟩) (by assumption) ?_
                rotate_left
                · (intro w hSw; (try dsimp only at hSw); go_simp; try with_reducible rfl)
                try simp only [Act.put, List.setIfInBounds_toArray, List.set_cons_zero, List.set_cons_succ]
                refine wpAnyH_ready (rs := [18]) (by kernel_rfl) (by simp) ?_
                refine AllReadyH.cons (o := { dst := none, op := Op.store 46 (Operand.tmp 70) (Operand.tmp 69), type := 0, pos := "more.go:58", after := #[{ on := 17, ground := Ground.data }, { on := 16, ground := Ground.data }, { on := 16, ground := Ground.chain }, { on := 0, ground := Ground.phase }, { on := 1, ground := Ground.phase }, { on := 2, ground := Ground.phase }, { on := 3, ground := Ground.phase }, { on := 4, ground := Ground.phase }, { on := 5, ground := Ground.phase }, { on := 6, ground := Ground.phase }, { on := 7, ground := Ground.phase }, { on := 8, ground := Ground.phase }, { on := 9, ground := Ground.phase }, { on := 10, ground := Ground.phase }, { on := 11, ground := Ground.phase }, { on := 12, ground := Ground.phase }, { on := 13, ground := Ground.phase }, { on := 14, ground := Ground.phase }, { on := 15, ground := Ground.phase }, { on := 16, ground := Ground.phase }], guard := none }) rfl (fun K hK => ?_) ?_
                · skip
                  have z3 := HGZ3.out
                  have c3 := HGC3.out
                  go_simp
                  refine hK.out _ _ ?_ (fun hHeld => ?_)
                  · exact (Chg.setCell V3 ⟨G, d, none⟩ _ |>.block _ (by have := HXL.out; have := K2.out.size; have := G3.out.size; omega) (fun e => HXG.out e) |> World.cell?_of_block).trans HXC3.out
                  clear hK K
                  try simp only [Act.put, List.setIfInBounds_toArray, List.set_cons_zero, List.set_cons_succ]
                  refine wpAnyH_done (by kernel_rfl) ?_ _
                  refine NoPanic.normal ?_
                  clear hNw hdN hdN2 hHeld z3 c3
                  go_wp2_with fail
                  have hfin := HWR2.out.last HD.out K2.out O3.out G3.out W3.out (by decide)
                  exact ⟨⟨i + 1, _, _, by omega, rfl, by rw [HTX.out], Lib.hid ⟨hfin, HGOOD.out, HCNT.out, by simp, ((HWB2.out.trans (K2.out.mono HWB2.out.size)).grown G3.out (by have := K2.out.size; have := HWB2.out.size; omega) fun k hk => (HROW.out.lt k hk).1).setCell HGB.out _⟩⟩, by simp [intO]; omega⟩
                exact AllReadyH.nil
              exact AllReadyH.nil
            exact AllReadyH.nil
          refine AllReadyH.cons (o := { dst := some 68, op := Op.buildSlice 46 1 #[(0, Operand.tmp 67)], type := 46, pos := "more.go:58", after := #[{ on := 14, ground := Ground.data }], guard := none }) rfl (fun K hK => ?_) ?_
          · skip
            go_simp
            have K2 := Lib.hid (K1.out.alloc K1.out.size (.cells #[.int .i64 1, .int .i64 x, .string ⟨#[]⟩, .complex .f64 0 0] 25))
            have C2 := Lib.hid (one_cells V1 25 x)
            have O2 : Hid (VO 25 (V1.alloc (.cells #[.int .i64 1, .int .i64 x, .string ⟨#[]⟩, .complex .f64 0 0] 25)) w.heap.size (.slice a m c) r) := Lib.hid (own_below HROW.out K2.out)
            obtain ⟨gb, hgb⟩ : ∃ gb, V1.heap.size = gb := ⟨_, rfl⟩
            rw [hgb] at C2 ⊢
            generalize V1.alloc (.cells #[.int .i64 1, .int .i64 x, .string ⟨#[]⟩, .complex .f64 0 0] 25) = V2 at K2 C2 O2 ⊢
            clear hgb
            refine hK.out _ _ ?_ (fun hHeld => ?_)
            · exact (K2.out.cell HXL.out).trans HXC2.out
            clear hK K
            try simp only [Act.put, List.setIfInBounds_toArray, List.set_cons_zero, List.set_cons_succ]
            refine wpAnyH_ready (rs := [9]) (by kernel_rfl) (by simp) ?_
            refine AllReadyH.cons (o := { dst := some 62, op := Op.load 46 (Operand.tmp 61), type := 46, pos := "more.go:58", after := #[{ on := 8, ground := Ground.data }], guard := none }) rfl (fun K hK => ?_) ?_
            · skip
              have p1 : V2.cell? ⟨G, d, none⟩ = some (.slice a m c) := (K2.out.cell (p := ⟨G, d, none⟩) HGL.out).trans HGC.out
              go_simp
              clear p1
              refine hK.out _ _ ?_ (fun hHeld => ?_)
              · exact (K2.out.cell HXL.out).trans HXC2.out
              clear hK K
              try simp only [Act.put, List.setIfInBounds_toArray, List.set_cons_zero, List.set_cons_succ]
              refine wpAnyH_ready (rs := [16]) (by kernel_rfl) (by simp) ?_
              refine AllReadyH.cons (o := { dst := some 69, op := Op.call { callee := Callee.builtin Builtin.append, args := #[Operand.tmp 62, Operand.tmp 68], argTypes := #[46, 46] }, type := 46, pos := "more.go:58", after := #[{ on := 9, ground := Ground.data }, { on := 15, ground := Ground.data }, { on := 14, ground := Ground.chain }], guard := none }) rfl (fun K hK => ?_) ?_
              · skip
                refine oper_app Tryz.E46 (.tmp 62) (.tmp 68) rfl w.heap.size (.slice a m c) r.length (flat r) rfl O2.out gb 1 1 (vc x) rfl rfl C2.out (vc_one x) (by have := HRL.out; omega) (by decide) (by have := K2.out.size; have := HWB2.out.size; omega) ?_
                intro v3 V3 o3 g3 w3
                have O3 : Hid (VO 25 V3 w.heap.size v3 (r ++ [x])) := Lib.hid (VO.push o3)
                obtain ⟨m3, sg3, sc3, rfl⟩ : ∃ m sg sc, v3 = Value.slice (some ⟨sg, 0, none⟩) m sc := by
                  obtain ⟨sg, sc, e, _⟩ := O3.out.va (by simp)
                  exact ⟨_, sg, sc, e⟩
                have G3 := Lib.hid g3
                have W3 := Lib.hid w3
                have HGC3 : Hid (V3.cell? ⟨G, d, none⟩ = some (.slice a m c)) := Lib.hid ((World.cell?_of_block (g3.block G (by have : G < W2.heap.size := HGL.out; have := K2.out.size; omega) (fun e => HGN.out e.symm))).trans ((K2.out.cell (p := ⟨G, d, none⟩) HGL.out).trans HGC.out))
                have HGZ3 : Hid (V3.frozen? ⟨G, d, none⟩ = false) := Lib.hid ((World.frozen?_of_block (g3.block G (by have : G < W2.heap.size := HGL.out; have := K2.out.size; omega) (fun e => HGN.out e.symm))).trans ((K2.out.frozen (p := ⟨G, d, none⟩) HGL.out).trans HGZ.out))
                have HXC3 : Hid (V3.cell? (X.add i) = some (.int .i64 x)) := Lib.hid ((World.cell?_of_block (g3.block _ (by have := HXL.out; have := K2.out.size; omega) (fun e => HXN.out e.symm))).trans ((K2.out.cell HXL.out).trans HXC2.out))
                clear o3 g3 w3
                refine hK.out _ _ ?_ (fun hHeld => ?_)
                · exact HXC3.out
                clear hK K
                try simp only [Act.put, List.setIfInBounds_toArray, List.set_cons_zero, List.set_cons_succ]
                refine wpAnyH_take (i := 17) (oi := { dst := some 70, op := Op.indexAddr 36 (Operand.tmp 53) (Operand.tmp 56), type := 0, pos := "more.go:58", after := #[{ on := 0, ground := Ground.data }, { on := 3, ground := Ground.data }, { on := 0, ground := Ground.phase }, { on := 1, ground := Ground.phase }, { on := 2, ground := Ground.phase }, { on := 3, ground := Ground.phase }, { on := 4, ground := Ground.phase }, { on := 5, ground := Ground.phase }, { on := 6, ground := Ground.phase }, { on := 7, ground := Ground.phase }, { on := 8, ground := Ground.phase }, { on := 9, ground := Ground.phase }, { on := 10, ground := Ground.phase }, { on := 11, ground := Ground.phase }, { on := 12, ground := Ground.phase }, { on := 13, ground := Ground.phase }, { on := 14, ground := Ground.phase }, { on := 15, ground := Ground.phase }, { on := 16, ground := Ground.phase }], guard := none }) (v := ?_) rfl (by kernel_rfl) (by kernel_rfl) (by kernel_rfl) (fun _ _ _ h => h) (Or.inl ⟨by rfl, ?_⟩) (by assumption) ?_
                rotate_left
                · (intro w hSw; (try dsimp only at hSw); go_simp; try with_reducible rfl)
                try simp only [Act.put, List.setIfInBounds_toArray, List.set_cons_zero, List.set_cons_succ]
                refine wpAnyH_ready (rs := [18]) (by kernel_rfl) (by simp) ?_
                refine AllReadyH.cons (o := { dst := none, op := Op.store 46 (Operand.tmp 70) (Operand.tmp 69), type := 0, pos := "more.go:58", after := #[{ on := 17, ground := Ground.data }, { on := 16, ground := Ground.data }, { on := 16, ground := Ground.chain }, { on := 0, ground := Ground.phase }, { on := 1, ground := Ground.phase }, { on := 2, ground := Ground.phase }, { on := 3, ground := Ground.phase }, { on := 4, ground := Ground.phase }, { on := 5, ground := Ground.phase }, { on := 6, ground := Ground.phase }, { on := 7, ground := Ground.phase }, { on := 8, ground := Ground.phase }, { on := 9, ground := Ground.phase }, { on := 10, ground := Ground.phase }, { on := 11, ground := Ground.phase }, { on := 12, ground := Ground.phase }, { on := 13, ground := Ground.phase }, { on := 14, ground := Ground.phase }, { on := 15, ground := Ground.phase }, { on := 16, ground := Ground.phase }], guard := none }) rfl (fun K hK => ?_) ?_
                · skip
                  have z3 := HGZ3.out
                  have c3 := HGC3.out
                  go_simp
                  refine hK.out _ _ ?_ (fun hHeld => ?_)
                  · exact (Chg.setCell V3 ⟨G, d, none⟩ _ |>.block _ (by have := HXL.out; have := K2.out.size; have := G3.out.size; omega) (fun e => HXG.out e) |> World.cell?_of_block).trans HXC3.out
                  clear hK K
                  try simp only [Act.put, List.setIfInBounds_toArray, List.set_cons_zero, List.set_cons_succ]
                  refine wpAnyH_done (by kernel_rfl) ?_ _
                  refine NoPanic.normal ?_
                  clear hNw hdN hdN2 hHeld z3 c3
                  go_wp2_with fail
                  have hfin := HWR2.out.last HD.out K2.out O3.out G3.out W3.out (by decide)
                  exact ⟨⟨i + 1, _, _, by omega, rfl, by rw [HTX.out], Lib.hid ⟨hfin, HGOOD.out, HCNT.out, by simp, ((HWB2.out.trans (K2.out.mono HWB2.out.size)).grown G3.out (by have := K2.out.size; have := HWB2.out.size; omega) fun k hk => (HROW.out.lt k hk).1).setCell HGB.out _⟩⟩, by simp [intO]; omega⟩
                exact AllReadyH.nil
              exact AllReadyH.nil
            exact AllReadyH.nil
          exact AllReadyH.nil
        exact AllReadyH.nil
    · obtain rfl : i = n := by omega
      have d1 : decide ((i : Int) < i) = false := by simp
      have d2 : decide (i < i) = false := by simp
      have hR0 : R ≠ [] := fun e => by have := HS.out.emp.1 e; omega
      have hg := HS.out.good
      have hcn := HS.out.cnt
      have hlen : (RT R).length < 2000 := by have := RT_len R hg; omega
      obtain ⟨G, C, rfl, hNC, hC, _, hra⟩ := HS.out.wr.ra hR0 fun r hr => (hg r hr).1
      obtain ⟨N, hN⟩ : ∃ N, R.length = N := ⟨_, rfl⟩
      rw [hN] at hNC HS
      have hN60 : N ≤ 60 := by have := (cnt_ge R hg).1; omega
      have hN0 : 0 < N := by
        rw [← hN]
        cases R with
        | nil => exact absurd rfl hR0
        | cons a b => simp
      have HB : Hid (Below w.heap.size w W) := Lib.hid HS.out.bel
      have HRA : Hid (∀ V, Below w.heap.size w V → Below W.heap.size W V → RA V G R) := Lib.hid fun V _ h => hra.below h
      have HG := Lib.hid hg
      have HCN := Lib.hid hcn
      have HLEN := Lib.hid hlen
      have HR0 := Lib.hid hR0
      have HN := Lib.hid hN
      have HC := Lib.hid hC
      clear hR0 hg hcn hlen hra hN HS hC
      go_wp2_with fail
      refine (Tryz.parseA (HDR.out.on HB.out) HB.out.size R HR0.out HG.out (by have := HLEN.out; omega)).mono ?_
      rintro e W1 ⟨v1, svs1, rfl, wr1, b1⟩
      obtain ⟨G1, C1, rfl, hNC1, hC1, _, hra1⟩ := wr1.ra HR0.out fun r hr => (HG.out r hr).1
      rw [HN.out] at hNC1 wr1 ⊢
      have HB1 : Hid (Below w.heap.size w W1) := Lib.hid (HB.out.trans (b1.mono HB.out.size))
      have HW1 : Hid (Below W.heap.size W W1) := Lib.hid b1
      have hcell : (W1.alloc (.cells zero13 38)).heap[W1.heap.size]? = some (.cells zero13 38 (0, 0)) := heap_alloc_new W1 _
      have HCELL := Lib.hid hcell
      have hone : ∀ u ∈ (reqC (.slice (some ⟨G1, 0, none⟩) N C1)).toList, u.oneCell' = true := by
        intro u hu
        simp [reqC] at hu
        rcases hu with rfl | rfl | rfl | rfl | rfl | rfl | rfl | rfl | rfl | rfl | rfl | rfl | rfl <;> rfl
      have HO := Lib.hid hone
      have HRA1 := Lib.hid hra1
      have HC1 := Lib.hid hC1
      clear hone hra1 hcell b1 wr1 hC1
      unfold reqC
      go_wp2_with (refine nw_store_row _ rfl 38 (.tmp 9) (.tmp 74) rfl W1.heap.size 38 (reqC (.slice (some ⟨G1, 0, none⟩) N C1)) zero13 rfl rfl HCELL.out rfl (Tryz.size38 _ rfl) HO.out ?_)
      have hB2 : Below W1.heap.size W1 ((W1.alloc (.cells zero13 38)).setRow W1.heap.size (reqC (.slice (some ⟨G1, 0, none⟩) N C1))) := below_setRow ((Below.refl _ W1).alloc (Nat.le_refl _) _) (Nat.le_refl _) _
      have hC2 := setRow_here _ _ (reqC (.slice (some ⟨G1, 0, none⟩) N C1)) _ _ HCELL.out
      obtain ⟨W2, hW2⟩ : ∃ W2, (W1.alloc (.cells zero13 38)).setRow W1.heap.size (reqC (.slice (some ⟨G1, 0, none⟩) N C1)) = W2 := ⟨_, rfl⟩
      rw [hW2] at hB2 hC2
      have HB2 : Hid (Below w.heap.size w W2) := Lib.hid (HB1.out.trans (hB2.mono HB1.out.size))
      have HW2 : Hid (Below W.heap.size W W2) := Lib.hid (HW1.out.trans (hB2.mono HW1.out.size))
      have htx := Tryz.textA Tryz.predSame0 (HDR.out.on HB2.out) HB2.out.size G N C R HN.out hN0 (HRA.out W2 HB2.out HW2.out) HG.out (by have := HLEN.out; omega) hNC HC.out (by have := HN.out; omega)
      rw [← hW2] at htx
      refine htx.mono ?_
      clear htx
      rintro e W3 ⟨rfl, b3⟩
      rw [hW2] at b3
      have HB3 : Hid (Below w.heap.size w W3) := Lib.hid (HB2.out.trans (b3.mono HB2.out.size))
      have HW3 : Hid (Below W.heap.size W W3) := Lib.hid (HW2.out.trans (b3.mono HW2.out.size))
      have HQ3 : Hid (Below W1.heap.size W1 W3) := Lib.hid (hB2.trans (b3.mono hB2.size))
      have hC3 : W3.heap[W1.heap.size]? = some (.cells (reqC (.slice (some ⟨G1, 0, none⟩) N C1)) 38 (0, 0)) := (b3.block _ (heap_lt hC2)).trans hC2
      have HL3 := Lib.hid (heap_lt hC3)
      have HX0 : Hid (W3.cell? ⟨W1.heap.size, 0, none⟩ = some (.int .i64 4)) := Lib.hid (by rw [cell_of_block hC3]; rfl)
      have HX12 : Hid (W3.cell? ⟨W1.heap.size, 12, none⟩ = some (.slice (some ⟨G1, 0, none⟩) N C1)) := Lib.hid (by rw [cell_of_block hC3]; rfl)
      clear b3 hB2 hC2 hC3 hW2 HCELL HO
      have hwz : IntKind.i64.wrap ((0 : Int) + 0) = 0 := by decide
      have hwz' : IntKind.i64.wrap (0 : Int) = 0 := by decide
      go_wp2_with fail
      refine wp_region_noPanic ?_
      refine wp_region_held_drew (S := (fun V => V.cell? ⟨W1.heap.size, 0, none⟩ = some (.int .i64 4) ∧ V.cell? ⟨W1.heap.size, 12, none⟩ = some (.slice (some ⟨G1, 0, none⟩) N C1))) (by kernel_rfl) ?_ (fun hHeld => ?_)
      · exact ⟨HX0.out, HX12.out⟩
      refine wpAnyH_take (i := 0) (oi := { dst := some 82, op := Op.move (Operand.tmp 10), type := 32, pos := "more.go:62", after := #[], guard := none }) (v := ?_) rfl (by kernel_rfl) (by kernel_rfl) (by kernel_rfl) (fun _ _ _ h => h) (Or.inl ⟨by rfl, ?_⟩) (by assumption) ?_
      rotate_left
      · (intro w hSw; (try dsimp only at hSw); go_simp; try with_reducible rfl)
      try simp only [Act.put, List.setIfInBounds_toArray, List.set_cons_zero, List.set_cons_succ]
      refine wpAnyH_take (i := 1) (oi := { dst := some 83, op := Op.move (Operand.tmp 12), type := 32, pos := "more.go:62", after := #[], guard := none }) (v := ?_) rfl (by kernel_rfl) (by kernel_rfl) (by kernel_rfl) (fun _ _ _ h => h) (Or.inl ⟨by rfl, ?_⟩) (by assumption) ?_
      rotate_left
      · (intro w hSw; (try dsimp only at hSw); go_simp; try with_reducible rfl)
      try simp only [Act.put, List.setIfInBounds_toArray, List.set_cons_zero, List.set_cons_succ]
      refine wpAnyH_take (i := 2) (oi := { dst := some 84, op := Op.binOp BinOp.add 3 (Operand.tmp 82) (Operand.tmp 83) 3, type := 3, pos := "more.go:62", after := #[{ on := 0, ground := Ground.data }, { on := 1, ground := Ground.data }], guard := none }) (v := ?_) rfl (by kernel_rfl) (by kernel_rfl) (by kernel_rfl) (fun _ _ _ h => h) (Or.inl ⟨by rfl, ?_⟩) (by assumption) ?_
      rotate_left
      · (intro w hSw; (try dsimp only at hSw); go_simp; try with_reducible rfl)
      try simp only [Act.put, List.setIfInBounds_toArray, List.set_cons_zero, List.set_cons_succ]
      refine wpAnyH_take (i := 3) (oi := { dst := some 85, op := Op.binOp BinOp.eql 3 (Operand.tmp 84) (Operand.const (Value.int IntKind.i64 0)) 3, type := 4, pos := "more.go:62", after := #[{ on := 2, ground := Ground.data }], guard := none }) (v := ?_) rfl (by kernel_rfl) (by kernel_rfl) (by kernel_rfl) (fun _ _ _ h => h) (Or.inl ⟨by rfl, ?_⟩) (by assumption) ?_
      rotate_left
      · (intro w hSw; (try dsimp only at hSw); go_simp; try with_reducible rfl)
      try simp only [Act.put, List.setIfInBounds_toArray, List.set_cons_zero, List.set_cons_succ]
      refine wpAnyH_take (i := 4) (oi := { dst := some 86, op := Op.move (Operand.tmp 85), type := 4, pos := "more.go:62", after := #[{ on := 3, ground := Ground.data }], guard := none }) (v := ?_) rfl (by kernel_rfl) (by kernel_rfl) (by kernel_rfl) (fun _ _ _ h => h) (Or.inl ⟨by rfl, ?_⟩) (by assumption) ?_
      rotate_left
      · (intro w hSw; (try dsimp only at hSw); go_simp; try with_reducible rfl)
      try simp only [Act.put, List.setIfInBounds_toArray, List.set_cons_zero, List.set_cons_succ]
      refine wpAnyH_take (i := 5) (oi := { dst := some 87, op := Op.move (Operand.tmp 11), type := 9, pos := "more.go:62", after := #[{ on := 4, ground := Ground.guard }], guard := some (4, true) }) (v := ?_) rfl (by kernel_rfl) (by kernel_rfl) (by kernel_rfl) (fun _ _ _ h => h) (Or.inl ⟨by rfl, ?_⟩) (by assumption) ?_
      rotate_left
      · (intro w hSw; (try dsimp only at hSw); go_simp; try with_reducible rfl)
      try simp only [Act.put, List.setIfInBounds_toArray, List.set_cons_zero, List.set_cons_succ]
      refine wpAnyH_take (i := 6) (oi := { dst := some 88, op := Op.move (Operand.tmp 6), type := 9, pos := "more.go:62", after := #[{ on := 4, ground := Ground.guard }], guard := some (4, true) }) (v := ?_) rfl (by kernel_rfl) (by kernel_rfl) (by kernel_rfl) (fun _ _ _ h => h) (Or.inl ⟨by rfl, ?_⟩) (by assumption) ?_
      rotate_left
      · (intro w hSw; (try dsimp only at hSw); go_simp; try with_reducible rfl)
      try simp only [Act.put, List.setIfInBounds_toArray, List.set_cons_zero, List.set_cons_succ]
      refine wpAnyH_take (i := 7) (oi := { dst := some 89, op := Op.binOp BinOp.eql 9 (Operand.tmp 87) (Operand.tmp 88) 9, type := 4, pos := "more.go:62", after := #[{ on := 5, ground := Ground.data }, { on := 6, ground := Ground.data }, { on := 4, ground := Ground.guard }], guard := some (4, true) }) (v := ?_) rfl (by kernel_rfl) (by kernel_rfl) (by kernel_rfl) (fun _ _ _ h => h) (Or.inl ⟨by rfl, ?_⟩) (by assumption) ?_
      rotate_left
      · (intro w hSw; (try dsimp only at hSw); go_simp; try with_reducible rfl)
      try simp only [Act.put, List.setIfInBounds_toArray, List.set_cons_zero, List.set_cons_succ]
      refine wpAnyH_take (i := 8) (oi := { dst := some 90, op := Op.pick (Operand.tmp 86) (Operand.tmp 89) (Operand.const (Value.bool false)), type := 4, pos := "more.go:62", after := #[{ on := 4, ground := Ground.data }, { on := 7, ground := Ground.data }], guard := none }) (v := ?_) rfl (by kernel_rfl) (by kernel_rfl) (by kernel_rfl) (fun _ _ _ h => h) (Or.inl ⟨by rfl, ?_⟩) (by assumption) ?_
      rotate_left
      · (intro w hSw; (try dsimp only at hSw); go_simp; try with_reducible rfl)
      try simp only [Act.put, List.setIfInBounds_toArray, List.set_cons_zero, List.set_cons_succ]
      refine wpAnyH_take (i := 9) (oi := { dst := some 91, op := Op.move (Operand.tmp 90), type := 4, pos := "more.go:62", after := #[{ on := 8, ground := Ground.data }, { on := 4, ground := Ground.chain }], guard := none }) (v := ?_) rfl (by kernel_rfl) (by kernel_rfl) (by kernel_rfl) (fun _ _ _ h => h) (Or.inl ⟨by rfl, ?_⟩) (by assumption) ?_
      rotate_left
      · (intro w hSw; (try dsimp only at hSw); go_simp; try with_reducible rfl)
      try simp only [Act.put, List.setIfInBounds_toArray, List.set_cons_zero, List.set_cons_succ]
      refine wpAnyH_take (i := 10) (oi := { dst := some 92, op := Op.fieldAddr 38 (Operand.tmp 9) 0, type := 0, pos := "more.go:62", after := #[{ on := 9, ground := Ground.guard }], guard := some (9, true) }) (v := ?_) rfl (by kernel_rfl) (by kernel_rfl) (by kernel_rfl) (fun _ _ _ h => h) (Or.inl ⟨by rfl, ?_⟩) (by assumption) ?_
      rotate_left
      · (intro w hSw; (try dsimp only at hSw); go_simp; try with_reducible rfl)
      try simp only [Act.put, List.setIfInBounds_toArray, List.set_cons_zero, List.set_cons_succ]
      refine wpAnyH_take (i := 11) (oi := { dst := some 93, op := Op.load 3 (Operand.tmp 92), type := 3, pos := "more.go:62", after := #[{ on := 10, ground := Ground.data }, { on := 9, ground := Ground.guard }], guard := some (9, true) }) (v := ?_) rfl (by kernel_rfl) (by kernel_rfl) (by kernel_rfl) (fun _ _ _ h => h) (Or.inl ⟨by rfl, ?_⟩) (by assumption) ?_
      rotate_left
      · (intro w hSw; (try dsimp only at hSw); obtain ⟨p1, p2⟩ := hSw; go_simp; try with_reducible rfl)
      try simp only [Act.put, List.setIfInBounds_toArray, List.set_cons_zero, List.set_cons_succ]
      refine wpAnyH_take (i := 12) (oi := { dst := some 94, op := Op.binOp BinOp.eql 3 (Operand.tmp 93) (Operand.const (Value.int IntKind.i64 4)) 3, type := 4, pos := "more.go:62", after := #[{ on := 11, ground := Ground.data }, { on := 9, ground := Ground.guard }], guard := some (9, true) }) (v := ?_) rfl (by kernel_rfl) (by kernel_rfl) (by kernel_rfl) (fun _ _ _ h => h) (Or.inl ⟨by rfl, ?_⟩) (by assumption) ?_
      rotate_left
      · (intro w hSw; (try dsimp only at hSw); go_simp; try with_reducible rfl)
      try simp only [Act.put, List.setIfInBounds_toArray, List.set_cons_zero, List.set_cons_succ]
      refine wpAnyH_take (i := 13) (oi := { dst := some 95, op := Op.pick (Operand.tmp 91) (Operand.tmp 94) (Operand.const (Value.bool false)), type := 4, pos := "more.go:62", after := #[{ on := 9, ground := Ground.data }, { on := 12, ground := Ground.data }], guard := none }) (v := ?_) rfl (by kernel_rfl) (by kernel_rfl) (by kernel_rfl) (fun _ _ _ h => h) (Or.inl ⟨by rfl, ?_⟩) (by assumption) ?_
      rotate_left
      · (intro w hSw; (try dsimp only at hSw); go_simp; try with_reducible rfl)
      try simp only [Act.put, List.setIfInBounds_toArray, List.set_cons_zero, List.set_cons_succ]
      refine wpAnyH_take (i := 14) (oi := { dst := some 96, op := Op.move (Operand.tmp 95), type := 4, pos := "more.go:62", after := #[{ on := 13, ground := Ground.data }, { on := 9, ground := Ground.chain }], guard := none }) (v := ?_) rfl (by kernel_rfl) (by kernel_rfl) (by kernel_rfl) (fun _ _ _ h => h) (Or.inl ⟨by rfl, ?_⟩) (by assumption) ?_
      rotate_left
      · (intro w hSw; (try dsimp only at hSw); go_simp; try with_reducible rfl)
      try simp only [Act.put, List.setIfInBounds_toArray, List.set_cons_zero, List.set_cons_succ]
      refine wpAnyH_take (i := 15) (oi := { dst := some 97, op := Op.fieldAddr 38 (Operand.tmp 9) 4, type := 0, pos := "more.go:62", after := #[{ on := 14, ground := Ground.guard }], guard := some (14, true) }) (v := ?_) rfl (by kernel_rfl) (by kernel_rfl) (by kernel_rfl) (fun _ _ _ h => h) (Or.inl ⟨by rfl, ?_⟩) (by assumption) ?_
      rotate_left
      · (intro w hSw; (try dsimp only at hSw); go_simp; try with_reducible rfl)
      try simp only [Act.put, List.setIfInBounds_toArray, List.set_cons_zero, List.set_cons_succ]
      refine wpAnyH_take (i := 16) (oi := { dst := some 98, op := Op.load 36 (Operand.tmp 97), type := 36, pos := "more.go:62", after := #[{ on := 15, ground := Ground.data }, { on := 14, ground := Ground.guard }], guard := some (14, true) }) (v := ?_) rfl (by kernel_rfl) (by kernel_rfl) (by kernel_rfl) (fun _ _ _ h => h) (Or.inl ⟨by rfl, ?_⟩) (by assumption) ?_
      rotate_left
      · (intro w hSw; (try dsimp only at hSw); obtain ⟨p1, p2⟩ := hSw; go_simp; try with_reducible rfl)
      try simp only [Act.put, List.setIfInBounds_toArray, List.set_cons_zero, List.set_cons_succ]
      refine wpAnyH_take (i := 17) (oi := { dst := some 99, op := Op.move (Operand.tmp 7), type := 36, pos := "more.go:62", after := #[{ on := 14, ground := Ground.guard }], guard := some (14, true) }) (v := ?_) rfl (by kernel_rfl) (by kernel_rfl) (by kernel_rfl) (fun _ _ _ h => h) (Or.inl ⟨by rfl, ?_⟩) (by assumption) ?_
      rotate_left
      · (intro w hSw; (try dsimp only at hSw); go_simp; try with_reducible rfl)
      try simp only [Act.put, List.setIfInBounds_toArray, List.set_cons_zero, List.set_cons_succ]
      refine wpAnyH_ready (rs := [18]) (by kernel_rfl) (by simp) ?_
      refine AllReadyH.cons (o := { dst := some 100, op := Op.call { callee := Callee.value (Operand.func 15), args := #[Operand.tmp 99], argTypes := #[36] }, type := 51, pos := "more.go:62", after := #[{ on := 17, ground := Ground.data }, { on := 14, ground := Ground.chain }, { on := 14, ground := Ground.guard }], guard := some (14, true) }) rfl (fun K hK => ?_) AllReadyH.nil
      go_simp
      have hbd : Below w.heap.size w W3.drew := ⟨HB3.out.os, HB3.out.tape, HB3.out.output, HB3.out.size, HB3.out.block⟩
      have hwd : Below W.heap.size W W3.drew := ⟨HW3.out.os, HW3.out.tape, HW3.out.output, HW3.out.size, HW3.out.block⟩
      refine (Tryz.ofRows G N C R HN.out (HRA.out _ hbd hwd) HG.out (by have := HCN.out; omega) hNC HC.out).mono ?_
      rintro e V1 ⟨v2, svs2, rfl, wr2, hb⟩
      obtain ⟨G2, C2, rfl, hNC2, hC2, _, hra2⟩ := wr2.ra HR0.out fun r hr => (HG.out r hr).1
      rw [HN.out] at hNC2 ⊢
      have hb3 : Below W3.heap.size W3 V1 := ⟨hb.os, hb.tape, hb.output, hb.size, hb.block⟩
      have HV1 := Lib.hid hb3
      have HZ1 : Hid (Below w.heap.size w V1) := Lib.hid (HB3.out.trans (hb3.mono HB3.out.size))
      have HRA2 := Lib.hid hra2
      have HC2 := Lib.hid hC2
      clear hb hb3 wr2 hra2 hC2 hbd hwd
      refine hK.out _ _ ?_ (fun hHeld => ?_)
      · exact ⟨(HV1.out.cell (p := ⟨W1.heap.size, 0, none⟩) HL3.out).trans HX0.out, (HV1.out.cell (p := ⟨W1.heap.size, 12, none⟩) HL3.out).trans HX12.out⟩
      clear hK K
      try simp only [Act.put, List.setIfInBounds_toArray, List.set_cons_zero, List.set_cons_succ]
      refine wpAnyH_ready (rs := [19]) (by kernel_rfl) (by simp) ?_
      refine AllReadyH.cons (o := { dst := some 101, op := Op.call { callee := Callee.value (Operand.func 14), args := #[Operand.tmp 98, Operand.tmp 100], argTypes := #[36, 51] }, type := 4, pos := "more.go:62", after := #[{ on := 16, ground := Ground.data }, { on := 18, ground := Ground.data }, { on := 18, ground := Ground.chain }, { on := 14, ground := Ground.guard }], guard := some (14, true) }) rfl (fun K hK => ?_) AllReadyH.nil
      go_simp
      refine (Tryz.sameRows G1 N C1 G2 C2 R HN.out ((HRA1.out.below HQ3.out).below HV1.out) HRA2.out hNC1 HC1.out hNC2 HC2.out).mono ?_
      rintro e V2 ⟨rfl, hb⟩
      have HV2 : Hid (Below W3.heap.size W3 V2) := Lib.hid (HV1.out.trans (hb.mono HV1.out.size))
      have HZ2 : Hid (Below w.heap.size w V2) := Lib.hid (HZ1.out.trans (hb.mono HZ1.out.size))
      clear hb
      refine hK.out _ _ ?_ (fun hHeld => ?_)
      · exact ⟨(HV2.out.cell (p := ⟨W1.heap.size, 0, none⟩) HL3.out).trans HX0.out, (HV2.out.cell (p := ⟨W1.heap.size, 12, none⟩) HL3.out).trans HX12.out⟩
      clear hK K
      try simp only [Act.put, List.setIfInBounds_toArray, List.set_cons_zero, List.set_cons_succ]
      refine wpAnyH_take (i := 20) (oi := { dst := some 102, op := Op.pick (Operand.tmp 96) (Operand.tmp 101) (Operand.const (Value.bool false)), type := 4, pos := "more.go:62", after := #[{ on := 14, ground := Ground.data }, { on := 19, ground := Ground.data }], guard := none }) (v := ?_) rfl (by kernel_rfl) (by kernel_rfl) (by kernel_rfl) (fun _ _ _ h => h) (Or.inl ⟨by rfl, ?_⟩) (by assumption) ?_
      rotate_left
      · (intro w hSw; (try dsimp only at hSw); go_simp; try with_reducible rfl)
      try simp only [Act.put, List.setIfInBounds_toArray, List.set_cons_zero, List.set_cons_succ]
      refine wpAnyH_take (i := 21) (oi := { dst := some 4, op := Op.assign (Operand.tmp 102), type := 4, pos := "more.go:62", after := #[{ on := 20, ground := Ground.data }, { on := 19, ground := Ground.chain }, { on := 0, ground := Ground.phase }, { on := 1, ground := Ground.phase }, { on := 2, ground := Ground.phase }, { on := 3, ground := Ground.phase }, { on := 4, ground := Ground.phase }, { on := 5, ground := Ground.phase }, { on := 6, ground := Ground.phase }, { on := 7, ground := Ground.phase }, { on := 8, ground := Ground.phase }, { on := 9, ground := Ground.phase }, { on := 10, ground := Ground.phase }, { on := 11, ground := Ground.phase }, { on := 12, ground := Ground.phase }, { on := 13, ground := Ground.phase }, { on := 14, ground := Ground.phase }, { on := 15, ground := Ground.phase }, { on := 16, ground := Ground.phase }, { on := 17, ground := Ground.phase }, { on := 18, ground := Ground.phase }, { on := 19, ground := Ground.phase }, { on := 20, ground := Ground.phase }], guard := none }) (v := ?_) rfl (by kernel_rfl) (by kernel_rfl) (by kernel_rfl) (fun _ _ _ h => h) (Or.inl ⟨by rfl, ?_⟩) (by assumption) ?_
      rotate_left
      · (intro w hSw; (try dsimp only at hSw); go_simp; try with_reducible rfl)
      try simp only [Act.put, List.setIfInBounds_toArray, List.set_cons_zero, List.set_cons_succ]
      refine wpAnyH_done (by kernel_rfl) ?_ _
      refine NoPanic.normal ?_
      go_wp2_with fail
      go_ret
      exact ⟨rfl, HZ2.out⟩
end Go.Proofs.YtcogajgikmcfpaaGreatDoor
end
