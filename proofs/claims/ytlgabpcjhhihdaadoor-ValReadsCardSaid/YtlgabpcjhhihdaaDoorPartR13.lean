/-
  Texts of a proof over the translated program: proved evaluators and walks, part 13 of 13.
-/
import Derived.Test.YtlgabpcjhhihdaaDoorPartR12
import Derived.Below
import Derived.Deep.Cut
import Derived.Deep.RegionHeld3
import Derived.Deep.RegionWith
import Derived.Handy
import Derived.IntWalk
import Derived.LaidLaws
import Derived.LaidMore
import Derived.Laws.Cells
import Derived.Laws.Concat
import Derived.Laws.CopyRow
import Derived.Laws.Externs
import Derived.Laws.Strings
import Derived.Laws.Strings2
import Derived.Laws.Strings3
import Derived.Laws.StructEq
import Derived.Lib.AppendIntMem
import Derived.Lib.Builder
import Derived.Lib.Hide
import Derived.Lib.ItoaLen
import Derived.Lib.LaidTab
import Derived.LoopTactic
import Derived.Outline
import Derived.OwnWalk
import Derived.ProofKit
import Derived.Scope
import Derived.ScopeJumps
import Derived.Shelf.LaysC
import Derived.Shelf.LaysM
import Derived.Shelf.Small.Strs
import Derived.Shelf.Small.Wraps
import Derived.Shelf.Strconv.Clone
import Derived.Shelf.Strconv.ErrVarParseInt
import Derived.Shelf.Strconv.Itoa0
import Derived.Shelf.Strconv.Itoa1
import Derived.Shelf.Strconv.Itoa2
import Derived.Shelf.Strconv.Itoa3
import Derived.Shelf.Strconv.Itoa4
import Derived.Shelf.Strconv.Lower
import Derived.Shelf.Strconv.ParseInt10
import Derived.Shelf.Strconv.ParseInt10All
import Derived.Shelf.Strconv.ParseInt10At16
import Derived.Shelf.Strconv.ParseInt10At32
import Derived.Shelf.Strconv.ParseInt10At64
import Derived.Shelf.Strconv.ParseInt10At8
import Derived.Shelf.Strconv.ParseIntEmpty
import Derived.Shelf.Strconv.ParseIntPublic10
import Derived.Shelf.Strconv.ParseUint10
import Derived.Shelf.Strconv.ParseUint10Any
import Derived.Shelf.Strconv.ParseUint10At
import Derived.Shelf.Strconv.ParseUint10Empty
import Derived.Shelf.Strconv.ParseUint10b16
import Derived.Shelf.Strconv.ParseUint10b32
import Derived.Shelf.Strconv.ParseUint10b64
import Derived.Shelf.Strconv.ParseUint10b8
import Derived.Shelf.Strconv.ParseUintEmpty
import Derived.Shelf.Strconv.RangeError
import Derived.Shelf.Strconv.SyntaxError
import Derived.Shelf.Strconv.ToError
import Derived.Shelf.Strconv.ToErrorRange
import Derived.Shelf.Strings.Builder1
import Derived.Shelf.Strings.BuilderF
import Derived.Shelf.Strings.BuilderK
import Derived.Shelf.Strings.Prefix
import Derived.Shelf.Strings.Search1
import Derived.Stop.Joined
import Derived.Stop.LaidErr
import Derived.Test.YtlgabpcjhhihdaaDoorProg
import Derived.Test.YtlgabpcjhhihdaaDoorRows
import Derived.WalkKit
import Derived.WalkMore
import Derived.WalkSpells
import Derived.Laws.AppendOwn
import Derived.Laws.Cover1
import Derived.Laws.Cover2
import Derived.Laws.FloatArith
import Derived.Laws.IdiomStrings
set_option linter.unusedVariables false
set_option linter.unusedSimpArgs false
set_option linter.unusedSectionVars false
set_option linter.unnecessarySimpa false
section
namespace Go.Proofs.YtlgabpcjhhihdaaDoor
open Go.RowKit Go.NW
set_option maxRecDepth 100000
theorem gES : Tryd.prog.globalNamed "strconv.ErrSyntax" = some 2 := by kernel_rfl
theorem gER : Tryd.prog.globalNamed "strconv.ErrRange" = some 3 := by kernel_rfl
theorem gTab : Tryd.prog.globalNamed "internal/strconv.uint64pow10" = some 1 := by kernel_rfl
theorem gESType : (Tryd.prog.globals[2]?).map (·.type) = some 60 := by kernel_rfl
theorem gERType : (Tryd.prog.globals[3]?).map (·.type) = some 60 := by kernel_rfl
theorem gTabType : (Tryd.prog.globals[1]?).map (·.type) = some 101 := by kernel_rfl
theorem cells113 : Tryd.prog.cellsOf 113 = 1 := by kernel_rfl
theorem cells9 : Tryd.prog.cellsOf 9 = 1 := by kernel_rfl
theorem cells85 : Tryd.prog.cellsOf 85 = 1 := by kernel_rfl
theorem cells101 : Tryd.prog.cellsOf 101 = 20 := by kernel_rfl
theorem star : "*" ++ "errors.errorString" = "*errors.errorString" := by decide
theorem row111 (u : TypeId) (h : Tryd.prog.typeName? 3 u = some "*errors.errorString") : u = 111 :=
  typeName_ptr_named (nm := "errors.errorString") (by rw [star]; kernel_rfl) (by kernel_rfl) (by decide) u (by rw [star]; exact h)
theorem var_below {w w' : World} {P : Program} {n : String} {cs : Array Value} (h : w.var? P n = some cs) (hb : Below w.heap.size w w') : w'.var? P n = some cs := by
  unfold World.var? at *
  cases hg : P.globalNamed n with
  | none => simp [hg] at h
  | some g =>
    simp only [hg, Option.bind_some] at h ⊢
    have hlt : g < w.heap.size := by
      rcases Nat.lt_or_ge g w.heap.size with h1 | h1
      · exact h1
      · simp [Array.getElem?_eq_none h1] at h
    rw [hb.block g hlt]
    exact h
theorem DoorI.of {w : World} (h1 : Lib.TabIs Tryd.prog w "internal/strconv.uint64pow10" .u64 Lib.pow10Tab) (h2 : ∃ tp p, w.var? Tryd.prog "strconv.ErrSyntax" = some #[.iface tp p]) (h3 : ∃ tp p, w.var? Tryd.prog "strconv.ErrRange" = some #[.iface tp p]) : DoorI w.heap.size w := by
  intro w' hb
  obtain ⟨a, b, h2⟩ := h2
  obtain ⟨c, d, h3⟩ := h3
  exact ⟨var_below h1 hb, ⟨a, b, var_below h2 hb⟩, c, d, var_below h3 hb⟩
def laid5 : List (String × DataW Unit) := [("math/bits.deBruijn32tab", Rows.laid_math_bits_deBruijn32tab), ("math/bits.deBruijn64tab", Rows.laid_math_bits_deBruijn64tab), ("internal/strconv.uint64pow10", Rows.laid_internal_strconv_uint64pow10), ("strconv.ErrRange", Rows.laid_strconv_ErrRange), ("strconv.ErrSyntax", Rows.laid_strconv_ErrSyntax)]
theorem doorI_of {W : World} (hL : laidMet Tryd.prog laid5 W) : DoorI W.heap.size W := by
  have h3 := hL.tail.tail
  have h4 := h3.tail
  have h5 := h4.tail
  obtain ⟨a0, s0, hv0, -, -, -⟩ := laid_sentinel h4 gER gERType Tryd.underlying60 row111 Tryd.underlying111 Tryd.underlying113 rfl rfl Tryd.underlying9 cells113 cells9
  obtain ⟨a1, s1, hv1, -, -, -⟩ := laid_sentinel h5 gES gESType Tryd.underlying60 row111 Tryd.underlying111 Tryd.underlying113 rfl rfl Tryd.underlying9 cells113 cells9
  exact DoorI.of (Lib.tabIs_of_head gTab gTabType Tryd.underlying101 Tryd.underlying85 cells85 cells101 h3) ⟨_, _, hv1⟩ ⟨_, _, hv0⟩
theorem door_met (os : Os) (args : Array Value) : laidMet Tryd.prog laid5 ((World.doorLaid Tryd.prog 400 os).forCall (fun _ _ => 0) ⟨#[], args, []⟩).memory :=
  laidMet_of_run' 8 (by kernel_rfl) (by kernel_rfl)
end Go.Proofs.YtlgabpcjhhihdaaDoor
end

section
namespace Go.Proofs.YtlgabpcjhhihdaaDoor
open Go.RowKit Go.NW
set_option maxRecDepth 100000
theorem hexD_qhv : ∀ n, n < 256 → 0 ≤ hv (UInt8.ofNat n) → hexD (hv (UInt8.ofNat n)).toNat = UInt8.ofNat n := by decide +kernel
theorem hexD_ofhv {c : UInt8} (h : ¬ hv c < 0) : hexD (hv c).toNat = c ∧ (hv c).toNat < 16 := by
  have h1 := hexD_qhv c.toNat c.toNat_lt
  rw [UInt8.ofNat_toNat] at h1
  refine ⟨h1 (by omega), ?_⟩
  rcases hv_range c with h2 | ⟨p, hp, h2⟩ <;> omega
theorem unhex_back : ∀ (t X : List UInt8), unhex t = some X → hexL X = t
  | [], X, h => by
    simp [unhex] at h
    subst h
    rfl
  | [_], X, h => by simp [unhex] at h
  | a :: b :: r, X, h => by
    simp only [unhex] at h
    split at h
    · cases h
    · rename_i hn
      rcases hu : unhex r with _ | Y
      · rw [hu] at h; cases h
      · rw [hu] at h
        simp only [Option.map_some, Option.some.injEq] at h
        subst h
        have ih := unhex_back r Y hu
        obtain ⟨ha, ha'⟩ := hexD_ofhv (c := a) (fun h => hn (.inl h))
        obtain ⟨hb, hb'⟩ := hexD_ofhv (c := b) (fun h => hn (.inr h))
        have hbo : (byteOf a b).toNat = (hv a).toNat * 16 + (hv b).toNat := by
          unfold byteOf
          rw [UInt8.toNat_ofNat']
          show _ % 256 = _
          omega
        show hexD ((byteOf a b).toNat / 16) :: hexD ((byteOf a b).toNat % 16) :: hexL Y = _
        rw [hbo, ih, show ((hv a).toNat * 16 + (hv b).toNat) / 16 = (hv a).toNat from by omega, show ((hv a).toNat * 16 + (hv b).toNat) % 16 = (hv b).toNat from by omega, ha, hb]
theorem pbytes_cases (t : List UInt8) : (∃ k : Int, k ≠ 0 ∧ pbytes t = (v0, k)) ∨ ∃ X, unhex t = some X ∧ X.length ≤ 255 ∧ pbytes t = (vS (bs X), 0) := by
  unfold pbytes
  split
  · rcases hu : unhex t with _ | X
    · exact .inl ⟨2, by omega, rfl⟩
    · dsimp only
      split
      · exact .inl ⟨4, by omega, rfl⟩
      · exact .inr ⟨X, rfl, by omega, rfl⟩
  · exact .inl ⟨2, by omega, rfl⟩
theorem form_text {l X Y : List UInt8} (hf : Form l X Y) {a b : Int} (ha : Lib.parseIntB 64 X = .ok a) (hb : Lib.parseIntB 64 Y = .ok b) : pText a b = l := by
  obtain ⟨hX, hY, h⟩ := hf
  have i1 := (itoa_of_parse hX ha).1
  have i2 := (itoa_of_parse hY hb).1
  unfold pText
  rw [i1, i2]
  have hsg : (b < 0 ↔ Y.head? = some 45) := by
    have hp := parse_dv hY
    rw [hb] at hp
    by_cases h45 : Y.head? = some 45
    · refine ⟨fun _ => h45, fun _ => ?_⟩
      rcases Int.lt_or_le b 0 with h0 | h0
      · exact h0
      · exfalso
        have : Lib.itoa b = Lib.decDigits b.toNat := by unfold Lib.itoa; rw [if_neg (by omega)]
        rw [this] at i2
        rw [← i2] at h45
        have hall := dec_all b.toNat
        rcases hd : Lib.decDigits b.toNat with _ | ⟨c, r⟩
        · rw [hd] at h45; cases h45
        · rw [hd] at h45 hall
          simp only [List.head?_cons, Option.some.injEq] at h45
          rw [List.all_cons, Bool.and_eq_true, h45] at hall
          exact absurd hall.1 (by decide)
    · rw [if_neg h45] at hp
      refine ⟨fun h0 => ?_, fun h => absurd h h45⟩
      split at hp
      · injection hp with hp
        omega
      · cases hp
  rcases h with ⟨rfl, h45⟩ | ⟨rfl, h45⟩
  · rw [if_neg (fun h => h45 (hsg.1 h))]
    simp
  · rw [if_pos (hsg.2 h45)]
    simp
theorem ppt_split (l : List UInt8) : (∃ k : Int, k ≠ 0 ∧ ppt l = (v0, k)) ∨ ∃ a b, inP a ∧ inP b ∧ pText a b = l ∧ ppt l = (vC (Fl a) (Fl b), 0) := by
  unfold ppt
  rcases hp : ppS l with _ | ⟨X, Y⟩
  · exact .inl ⟨2, by omega, rfl⟩
  · dsimp only
    unfold ptOf
    rcases hx : Lib.parseIntB 64 X with a | _ | _
    · rcases hy : Lib.parseIntB 64 Y with b | _ | _
      · dsimp only
        by_cases h : inP a ∧ inP b
        · rw [if_pos h]
          exact .inr ⟨a, b, h.1, h.2, form_text (form_ppS hp) hx hy, rfl⟩
        · rw [if_neg h]
          exact .inl ⟨1, by omega, rfl⟩
      · exact .inl ⟨1, by omega, rfl⟩
      · exact .inl ⟨1, by omega, rfl⟩
    · exact .inl ⟨1, by omega, rfl⟩
    · exact .inl ⟨1, by omega, rfl⟩
theorem pint_split (l : List UInt8) : (∃ k : Int, k ≠ 0 ∧ pint l = (v0, k)) ∨ ∃ v : Int, -9223372036854775808 ≤ v ∧ v ≤ 9223372036854775807 ∧ Lib.itoa v = l ∧ pint l = (vN v, 0) := by
  rcases hd : decB l with _ | _
  · exact .inl ⟨2, by omega, pint_no hd⟩
  · by_cases hp : ∃ v, Lib.parseIntB 64 l = .ok v
    · obtain ⟨v, hp⟩ := hp
      obtain ⟨h1, h2, h3⟩ := itoa_of_parse hd hp
      exact .inr ⟨v, h2, h3, h1, pint_ok hd hp⟩
    · exact .inl ⟨1, by omega, pint_err hd fun v h => hp ⟨v, h⟩⟩
theorem Tryd.readsSmall {B : Nat} {w : World} (hD : DoorI B w) (hB : B ≤ w.heap.size) (hK : Calls Tryd.prog 6 #[] w fun e w' => e = .returned (.bool true) ∧ Below w.heap.size w w') (l : List UInt8) (hl : l.length ≤ 700) :
    Calls Tryd.prog 3 #[.string (bs l)] w fun e w' => e = .returned (.bool true) ∧ Below w.heap.size w w' := by
  have hDn : ∀ w', Below w.heap.size w w' → DoorI B w' ∧ B ≤ w'.heap.size := fun w' hb => ⟨hD.on (hb.mono hB), Nat.le_trans hB hb.size⟩
  by_cases h1 : l = [45]
  · subst h1
    exact Tryd.readsWalk hK [45] hl 0 0 ⟨#[]⟩ 0 0 0 (fun w => eqC0 w 9998) (fun w' _ => Tryd.parseNull w') (fun w' => Tryd.rvalNull w') (fun _ w' _ => Tryd.text0 w') (fun _ w' => Tryd.vcheck0 w')
  · have h1' : (l == [45]) = false := beq_eq_false_iff_ne.2 h1
    by_cases h2 : l.head? = some 34
    · obtain ⟨t, rfl⟩ : ∃ t, l = 34 :: t := by
        match l, h2 with
        | x :: t, h2 => exact ⟨t, by simpa using h2⟩
      have ht : t.length < 2 ^ 39 := by rw [List.length_cons] at hl; omega
      have hP := fun w' => Tryd.parseB t ht w'
      have hR := fun w' => Tryd.rvalB t ht w'
      rcases pbytes_cases t with ⟨k, hk, hp⟩ | ⟨X, hX, hX2, hp⟩
      · rw [hp] at hP hR
        exact Tryd.readsWalk hK _ hl 0 0 ⟨#[]⟩ 0 0 k (fun w => eqC0 w 9998) (fun w' _ => hP w') hR (fun h => absurd h hk) (fun h => absurd h hk)
      · rw [hp] at hP hR
        have hT := fun w' => Tryd.textS X (by omega) w'
        rw [unhex_back t X hX] at hT
        refine Tryd.readsWalk hK _ hl 2 0 (bs X) 0 0 0 (fun w => eqC0 w 9998) (fun w' _ => hP w') hR (fun _ w' _ => hT w') (fun _ w' => ?_)
        have h := Tryd.vcheckS (bs X) (by rw [bs_size]; omega) w'
        rw [if_pos (by rw [bs_size]; exact hX2)] at h
        exact h
    · have h2' : (l.head? == some 34) = false := beq_eq_false_iff_ne.2 h2
      by_cases h3 : l.getLast? = some 105
      · have h3' : (l.getLast? == some 105) = true := by rw [h3]; rfl
        have hP := fun w' hb => Tryd.parsePC (hDn w' hb).1 (hDn w' hb).2 l (by omega) h1' h2' h3'
        have hR := fun w' => Tryd.rvalP l (by omega) h2' h3 w'
        rcases ppt_split l with ⟨k, hk, hp⟩ | ⟨a, b, ha, hb, hpt, hp⟩
        · rw [hp] at hP hR
          exact Tryd.readsWalk hK _ hl 0 0 ⟨#[]⟩ 0 0 k (fun w => eqC0 w 9998) hP hR (fun h => absurd h hk) (fun h => absurd h hk)
        · rw [hp] at hP hR
          have hT := fun w' hb' => Tryd.textC (hDn w' hb').1 (hDn w' hb').2 ha hb
          rw [hpt] at hT
          exact Tryd.readsWalk hK _ hl 3 0 ⟨#[]⟩ (Fl a) (Fl b) 0 (fun w => ccEq ha hb 9998 w) hP hR (fun _ => hT) (fun _ w' => Tryd.vcheckC ha hb w')
      · have h3' : (l.getLast? == some 105) = false := beq_eq_false_iff_ne.2 h3
        have hP := fun w' hb => Tryd.parseN (hDn w' hb).1 (hDn w' hb).2 l (by omega) h1' h2' h3'
        by_cases h0 : l = []
        · subst h0
          have he : pint [] = (v0, 2) := pint_no rfl
          rw [he] at hP
          exact Tryd.readsWalk hK _ hl 0 0 ⟨#[]⟩ 0 0 2 (fun w => eqC0 w 9998) hP (fun w' => Tryd.rvalEmpty w') (fun h => absurd h (by omega)) (fun h => absurd h (by omega))
        · have hR := fun w' => Tryd.rvalN l (by omega) h0 h1' h2' h3' w'
          rcases pint_split l with ⟨k, hk, hp⟩ | ⟨v, hv0, hv1, hit, hp⟩
          · rw [hp] at hP hR
            exact Tryd.readsWalk hK _ hl 0 0 ⟨#[]⟩ 0 0 k (fun w => eqC0 w 9998) hP hR (fun h => absurd h hk) (fun h => absurd h hk)
          · rw [hp] at hP hR
            have hT := fun w' hb' => Tryd.textN (hDn w' hb').1 (hDn w' hb').2 v hv0 hv1
            rw [hit] at hT
            exact Tryd.readsWalk hK _ hl 1 v ⟨#[]⟩ 0 0 0 (fun w => eqC0 w 9998) hP hR (fun _ => hT) (fun _ w' => Tryd.vcheckN v w')
theorem Tryd.readsBig {w : World} (hK : Calls Tryd.prog 6 #[] w fun e w' => e = .returned (.bool true) ∧ Below w.heap.size w w') (s : ByteArray) (h : 700 < s.size) :
    Calls Tryd.prog 3 #[.string s] w fun e w' => e = .returned (.bool true) ∧ Below w.heap.size w w' := by
  have HK := Lib.hid hK
  obtain ⟨n, hn⟩ : ∃ n, s.size = n := ⟨_, rfl⟩
  rw [hn] at h
  have g1 : decide ((n : Int) > 700) = true := decide_eq_true (by omega)
  have g2 : decide (700 < n) = true := decide_eq_true h
  clear hK h
  go_enter Tryd.func3, Tryd.ntmps3
  go_wp2_with fail
  refine HK.out.mono ?_
  rintro e v1 ⟨rfl, hb⟩
  have U1 := Lib.hid hb
  clear hb
  go_wp2_with fail
  go_ret
  exact ⟨rfl, U1.out⟩
theorem readsZ (a : ByteArray) (W : World) (hL : laidMet Tryd.prog laid5 W) (wa : a.size ≤ 140737488355328) : Calls Tryd.prog 3 #[.string a] W fun e w' => e = .returned (.bool true) ∧ Below W.heap.size W w' := by
  have hD := doorI_of hL
  have hK := Tryd.knownC hD (Nat.le_refl _)
  by_cases h : 700 < a.size
  · exact Tryd.readsBig hK a h
  · have ha : a.data.toList.length ≤ 700 := by
      have : a.size = a.data.toList.length := by rw [Array.length_toList]; rfl
      omega
    exact Tryd.readsSmall hD (Nat.le_refl _) hK a.data.toList ha
end Go.Proofs.YtlgabpcjhhihdaaDoor
end
