/-
  Texts of a proof over the translated program: proved evaluators and walks, part 18 of 19.
-/
import Derived.Test.YtmpnelihfeiimaaPartP17
import Derived.Below
import Derived.Deep.Cut
import Derived.Deep.RegionHeld3
import Derived.Deep.RegionLaw
import Derived.Deep.RegionLawGrows
import Derived.Deep.RegionWith
import Derived.Great.BuildSlice
import Derived.Handy
import Derived.IntWalk
import Derived.KernelRfl
import Derived.Laws.AppendOwn
import Derived.Laws.AppendOwnNone
import Derived.Laws.BitsLemmas
import Derived.Laws.BytesArg
import Derived.Laws.BytesString
import Derived.Laws.Closers25b
import Derived.Laws.CopyOwn
import Derived.Laws.IdiomStrings
import Derived.Laws.MakeOwn
import Derived.Lib.AppendStr
import Derived.Lib.Hide
import Derived.Lib.SlBytesRow
import Derived.LoopTactic
import Derived.Orders
import Derived.Outline
import Derived.OwnWalk
import Derived.Scope
import Derived.ScopeJumps
import Derived.Shelf.Slices.CompactS
import Derived.Shelf.Spec.SearchS
import Derived.Sort.EncStr
import Derived.Sort.Walk0
import Derived.Test.YtmpnelihfeiimaaProg
import Derived.WalkKit
import Derived.WalkMore
import Derived.WalkSpells
set_option linter.unusedVariables false
set_option linter.unusedSimpArgs false
set_option linter.unusedSectionVars false
set_option linter.unnecessarySimpa false
section
namespace Go.Proofs
open Go.RowKit
set_option maxRecDepth 100000
theorem DI.srcX {w w' : World} {X : Addr} {n c : Nat} {l : List UInt8} (h : DI w (some X) n c l) (hb : Below w.heap.size w w') : ∀ j v, (l.map u8v)[j]? = some v → w'.cell? (X.add j) = some v := by
  intro j v hv
  rw [List.getElem?_map] at hv
  obtain ⟨x, hx, rfl⟩ := Option.map_eq_some_iff.1 hv
  obtain ⟨Y, hY, hc⟩ := (h.below hb).at' j x hx
  cases hY
  exact hc
theorem ob_empty (w : World) : (w.alloc (.cells #[] 5)).ownsRow w.heap.size 5 1 (.slice (some ⟨w.heap.size, 0, none⟩) 0 0) 0 [] :=
  World.ownsRow_made (base := w.heap.size) (e := 5) (size := 1) w #[] 0 (Nat.le_refl _) (Nat.zero_le _) rfl
theorem DI.nil {w : World} {n c : Nat} {l : List UInt8} (h : DI w none n c l) : l = [] := by
  cases l with
  | nil => rfl
  | cons x l => obtain ⟨X, hX, _⟩ := h.at' 0 x rfl; cases hX
set_option maxHeartbeats 4000000 in
theorem Try.rputX (w : World) {X : Addr} {n c : Nat} {l : List UInt8} (hD : DI w (some X) n c l) (hn : n ≤ 2000000) (u0 : Nat) (hu0 : u0 < 18446744073709551616) :
    Calls Try.prog 23 #[.slice (some X) n c, .int .u64 u0] w (PutP w l u0) := by
  have hln := hD.len
  obtain ⟨ii, hi0, hz0, hz1, hz2⟩ := info5
  have HS := Lib.hid (hD.srcX ((Below.refl _ w).alloc (Nat.le_refl _) (.cells #[] 5)))
  have HLN2 : Hid ((l.map u8v).length = n * 1) := Lib.hid (by rw [List.length_map, hln, Nat.mul_one])
  obtain ⟨cs, hcs⟩ : ∃ cs, l.map u8v = cs := ⟨_, rfl⟩
  have HCS := Lib.hid hcs
  have HONE : Hid (∀ u ∈ cs, u.oneCell' = true) := Lib.hid (by rw [← hcs]; exact u8v_one l)
  rw [hcs] at HS HLN2
  have HLN := Lib.hid hln
  have HU := Lib.hid hu0
  clear hD hln hu0 hcs
  go_enter Try.func23, Try.ntmps23
  go_wp2_with (at_builtin; refine wpList_append_own _ rfl (.tmp 6) (.tmp 7) 28 rfl w.heap.size 5 ii (.int .u8 0) 1 1 Try.underlying28 hi0 hz0 hz1 hz2 rfl (by decide) _ _ _ rfl (ob_empty w) X n c cs rfl HLN2.out HS.out HONE.out (by unfold maxLen; omega) (by omega) (by simp) ?_)
  intro v1 w1 hown1 hg1 hne1
  have B1 : Below w.heap.size w w1 := ((Below.refl _ w).alloc (Nat.le_refl _) (.cells #[] 5)).grown hg1 (by simp) (fun k hk => by simp [Value.ownBlock] at hk; omega)
  have O1 : OB w1 w.heap.size v1 l := by
    unfold OB
    rw [HCS.out, HLN.out]
    have := hown1
    simpa using this
  have H0 : Hid (PutR w l u0 0 u0 v1 w1) := Lib.hid ⟨⟨l, O1, rfl, rfl⟩, B1, by simpa using HU.out⟩
  clear hown1 hg1 hne1 B1 O1
  go_wp2_with fail
  go_loopw [1, 5] (fun t v wr => ∃ (k u : Nat), k ≤ 9 ∧ t = .int .u64 u ∧ PutR w l u0 k u v wr) (fun t _ _ => (intOf t).toNat)
  case atStart => exact ⟨0, u0, by omega, rfl, H0.out⟩
  case round =>
    obtain ⟨k, u, hk, rfl, hr⟩ := hrel
    have HR := Lib.hid hr
    obtain ⟨L, ho, hL1, hL2⟩ := hr.o
    have HO := Lib.hid ho
    have HL := Lib.hid (And.intro hL1 hL2)
    have hus := hr.s
    have hu64 : u < 18446744073709551616 := Nat.lt_of_le_of_lt (Nat.le_mul_of_pos_right _ (Nat.pow_pos (by omega))) hus
    have hLl : L.length ≤ 2000010 := by rw [hL1, HLN.out]; omega
    clear hr ho hL1 hL2 hus H0
    by_cases hu : u < 128
    · have d1 : decide ((128 : Int) ≤ (u : Int)) = false := decide_eq_false (by omega)
      have d1' : decide (128 ≤ u) = false := decide_eq_false (by omega)
      have s2 : IntKind.u8.wrap (u : Int) = (u : Int) := by rw [IntKind.wrap_u8]; omega
      have OA := Lib.hid (((show wr.ownsRow w.heap.size 5 1 _ L.length (L.map u8v) from HO.out)).alloc (.cells #[.int .u8 (u : Int)] 5))
      have CA := Lib.hid (built_byte wr u (by omega))
      have BA := Lib.hid ((HR.out).b.alloc (HR.out).b.size (.cells #[.int .u8 (u : Int)] 5))
      have HE : Hid (L ++ [UInt8.ofNat u] = l ++ encN u0) := Lib.hid (by rw [← (HL.out).2, show 10 - k = (9 - k) + 1 by omega, encF_last _ _ hu])
      obtain ⟨lv, hlv⟩ : ∃ lv, L.map u8v = lv := ⟨_, rfl⟩
      obtain ⟨ll, hll⟩ : ∃ ll, L.length = ll := ⟨_, rfl⟩
      rw [hlv, hll] at OA
      have HLV := Lib.hid hlv
      have HLL := Lib.hid hll
      rw [hll] at hLl
      clear hu hlv hll
      go_wp2_with (at_builtin; refine wpList_append_own _ rfl (.tmp 19) (.tmp 22) 28 rfl w.heap.size 5 ii (.int .u8 0) 1 1 Try.underlying28 hi0 hz0 hz1 hz2 rfl (by decide) _ _ _ rfl (OA.out) _ _ _ ([UInt8.ofNat u].map u8v) rfl rfl (CA.out) (u8v_one _) ?a1 ?a2 ?a3 ?a4)
      case a1 => unfold maxLen; omega
      case a2 => omega
      case a3 => have := (HR.out).b.size; simp; omega
      case a4 =>
        intro v' w5 hown1 hg5 hne
        have B5 := Lib.hid ((BA.out).grown hg5 (BA.out).size (fun k hk => ((OA.out).lt k hk).1))
        have O5 : Hid (OB w5 w.heap.size v' (l ++ encN u0)) := Lib.hid (by
          rw [← HE.out]
          have h : w5.ownsRow w.heap.size 5 1 v' (L.length + 1) (L.map u8v ++ [u8v (UInt8.ofNat u)]) := by rw [HLV.out, HLL.out]; exact hown1
          have e : (L ++ [UInt8.ofNat u]).length = L.length + 1 := by simp
          have e2 : (L ++ [UInt8.ofNat u]).map u8v = L.map u8v ++ [u8v (UInt8.ofNat u)] := by simp
          unfold OB
          rw [e, e2]
          exact h)
        clear hown1 hg5 hne
        go_wp2_with fail
        go_ret
        exact ⟨_, rfl, O5.out, B5.out⟩
    · have hk8 := (HR.out).k9 hk hu
      have d1 : decide ((128 : Int) ≤ (u : Int)) = true := decide_eq_true (by omega)
      have d1' : decide (128 ≤ u) = true := decide_eq_true (by omega)
      have s2 : IntKind.u8.wrap (u : Int) = (u : Int) % 256 := by rw [IntKind.wrap_u8]
      have ho1 : bits .or .u8 ((u : Int) % 256) 128 = ((u % 256 % 128 + 128 : Nat) : Int) := by
        have e : (u : Int) % 256 = ((u % 256 : Nat) : Int) := by omega
        rw [e]; exact or128 (u % 256) (Nat.mod_lt _ (by decide))
      obtain ⟨y, hy⟩ : ∃ y, u % 256 % 128 + 128 = y := ⟨_, rfl⟩
      have hy2 : y < 256 := by omega
      have HY : Hid (u % 128 + 128 = y) := Lib.hid (by omega)
      rw [hy] at ho1
      have OA := Lib.hid (((show wr.ownsRow w.heap.size 5 1 _ L.length (L.map u8v) from HO.out)).alloc (.cells #[.int .u8 (y : Int)] 5))
      have CA := Lib.hid (built_byte wr y hy2)
      have BA := Lib.hid ((HR.out).b.alloc (HR.out).b.size (.cells #[.int .u8 (y : Int)] 5))
      obtain ⟨lv, hlv⟩ : ∃ lv, L.map u8v = lv := ⟨_, rfl⟩
      obtain ⟨ll, hll⟩ : ∃ ll, L.length = ll := ⟨_, rfl⟩
      rw [hlv, hll] at OA
      have HLV := Lib.hid hlv
      have HLL := Lib.hid hll
      rw [hll] at hLl
      have HNU := Lib.hid hu
      have hdl : u / 128 < u := by omega
      clear hu hlv hll hy
      go_wp2_with (at_builtin; refine wpList_append_own _ rfl (.tmp 11) (.tmp 15) 28 rfl w.heap.size 5 ii (.int .u8 0) 1 1 Try.underlying28 hi0 hz0 hz1 hz2 rfl (by decide) _ _ _ rfl (OA.out) _ _ _ ([UInt8.ofNat y].map u8v) rfl rfl (CA.out) (u8v_one _) ?b1 ?b2 ?b3 ?b4)
      case b1 => unfold maxLen; omega
      case b2 => omega
      case b3 => have := (HR.out).b.size; simp; omega
      case b4 =>
        intro v' w5 hown1 hg5 hne
        have B5 := Lib.hid ((BA.out).grown hg5 (BA.out).size (fun k hk => ((OA.out).lt k hk).1))
        have HN : Hid (PutR w l u0 (k + 1) (u / 128) v' w5) := Lib.hid ((HR.out).step hk8 HNU.out HL.out (by
          rw [HY.out]
          have h : w5.ownsRow w.heap.size 5 1 v' (L.length + 1) (L.map u8v ++ [u8v (UInt8.ofNat y)]) := by rw [HLV.out, HLL.out]; exact hown1
          have e : (L ++ [UInt8.ofNat y]).length = L.length + 1 := by simp
          have e2 : (L ++ [UInt8.ofNat y]).map u8v = L.map u8v ++ [u8v (UInt8.ofNat y)] := by simp
          unfold OB
          rw [e, e2]
          exact h) B5.out)
        clear hown1 hg5 hne
        go_wp2_with fail
        exact ⟨⟨k + 1, u / 128, by omega, rfl, HN.out⟩, by simp [intOf]; omega⟩
set_option maxHeartbeats 4000000 in
theorem Try.rput0 (w : World) {n c : Nat} {l : List UInt8} (hD : DI w none n c l) (hn : n ≤ 2000000) (u0 : Nat) (hu0 : u0 < 18446744073709551616) :
    Calls Try.prog 23 #[.slice none n c, .int .u64 u0] w (PutP w l u0) := by
  have hln := hD.len
  obtain ⟨ii, hi0, hz0, hz1, hz2⟩ := info5
  have hl0 := hD.nil
  subst hl0
  have hn0 : n = 0 := by simpa using hln.symm
  subst hn0
  have hc0 := hD.le
  have HLN := Lib.hid hln
  have HU := Lib.hid hu0
  clear hD hln hu0
  go_enter Try.func23, Try.ntmps23
  go_wp2_with (at_builtin; refine wpList_append_own_none rfl (.tmp 6) (.tmp 7) 28 rfl w.heap.size 5 ii 1 Try.underlying28 hi0 _ _ _ rfl (ob_empty w) rfl ?_)
  have H0 : Hid (PutR w [] u0 0 u0 (.slice (some ⟨w.heap.size, 0, none⟩) 0 0) (w.alloc (.cells #[] 5))) := Lib.hid ⟨⟨[], ob_empty w, rfl, rfl⟩, (Below.refl _ w).alloc (Nat.le_refl _) _, by simpa using HU.out⟩
  go_loopw [1, 5] (fun t v wr => ∃ (k u : Nat), k ≤ 9 ∧ t = .int .u64 u ∧ PutR w [] u0 k u v wr) (fun t _ _ => (intOf t).toNat)
  case atStart => exact ⟨0, u0, by omega, rfl, H0.out⟩
  case round =>
    obtain ⟨k, u, hk, rfl, hr⟩ := hrel
    have HR := Lib.hid hr
    obtain ⟨L, ho, hL1, hL2⟩ := hr.o
    have HO := Lib.hid ho
    have HL := Lib.hid (And.intro hL1 hL2)
    have hus := hr.s
    have hu64 : u < 18446744073709551616 := Nat.lt_of_le_of_lt (Nat.le_mul_of_pos_right _ (Nat.pow_pos (by omega))) hus
    have hLl : L.length ≤ 2000010 := by rw [hL1, HLN.out]; omega
    clear hr ho hL1 hL2 hus H0
    by_cases hu : u < 128
    · have d1 : decide ((128 : Int) ≤ (u : Int)) = false := decide_eq_false (by omega)
      have d1' : decide (128 ≤ u) = false := decide_eq_false (by omega)
      have s2 : IntKind.u8.wrap (u : Int) = (u : Int) := by rw [IntKind.wrap_u8]; omega
      have OA := Lib.hid (((show wr.ownsRow w.heap.size 5 1 _ L.length (L.map u8v) from HO.out)).alloc (.cells #[.int .u8 (u : Int)] 5))
      have CA := Lib.hid (built_byte wr u (by omega))
      have BA := Lib.hid ((HR.out).b.alloc (HR.out).b.size (.cells #[.int .u8 (u : Int)] 5))
      have HE : Hid (L ++ [UInt8.ofNat u] = [] ++ encN u0) := Lib.hid (by rw [← (HL.out).2, show 10 - k = (9 - k) + 1 by omega, encF_last _ _ hu])
      obtain ⟨lv, hlv⟩ : ∃ lv, L.map u8v = lv := ⟨_, rfl⟩
      obtain ⟨ll, hll⟩ : ∃ ll, L.length = ll := ⟨_, rfl⟩
      rw [hlv, hll] at OA
      have HLV := Lib.hid hlv
      have HLL := Lib.hid hll
      rw [hll] at hLl
      clear hu hlv hll
      go_wp2_with (at_builtin; refine wpList_append_own _ rfl (.tmp 19) (.tmp 22) 28 rfl w.heap.size 5 ii (.int .u8 0) 1 1 Try.underlying28 hi0 hz0 hz1 hz2 rfl (by decide) _ _ _ rfl (OA.out) _ _ _ ([UInt8.ofNat u].map u8v) rfl rfl (CA.out) (u8v_one _) ?a1 ?a2 ?a3 ?a4)
      case a1 => unfold maxLen; omega
      case a2 => omega
      case a3 => have := (HR.out).b.size; simp; omega
      case a4 =>
        intro v' w5 hown1 hg5 hne
        have B5 := Lib.hid ((BA.out).grown hg5 (BA.out).size (fun k hk => ((OA.out).lt k hk).1))
        have O5 : Hid (OB w5 w.heap.size v' ([] ++ encN u0)) := Lib.hid (by
          rw [← HE.out]
          have h : w5.ownsRow w.heap.size 5 1 v' (L.length + 1) (L.map u8v ++ [u8v (UInt8.ofNat u)]) := by rw [HLV.out, HLL.out]; exact hown1
          have e : (L ++ [UInt8.ofNat u]).length = L.length + 1 := by simp
          have e2 : (L ++ [UInt8.ofNat u]).map u8v = L.map u8v ++ [u8v (UInt8.ofNat u)] := by simp
          unfold OB
          rw [e, e2]
          exact h)
        clear hown1 hg5 hne
        go_wp2_with fail
        go_ret
        exact ⟨_, rfl, O5.out, B5.out⟩
    · have hk8 := (HR.out).k9 hk hu
      have d1 : decide ((128 : Int) ≤ (u : Int)) = true := decide_eq_true (by omega)
      have d1' : decide (128 ≤ u) = true := decide_eq_true (by omega)
      have s2 : IntKind.u8.wrap (u : Int) = (u : Int) % 256 := by rw [IntKind.wrap_u8]
      have ho1 : bits .or .u8 ((u : Int) % 256) 128 = ((u % 256 % 128 + 128 : Nat) : Int) := by
        have e : (u : Int) % 256 = ((u % 256 : Nat) : Int) := by omega
        rw [e]; exact or128 (u % 256) (Nat.mod_lt _ (by decide))
      obtain ⟨y, hy⟩ : ∃ y, u % 256 % 128 + 128 = y := ⟨_, rfl⟩
      have hy2 : y < 256 := by omega
      have HY : Hid (u % 128 + 128 = y) := Lib.hid (by omega)
      rw [hy] at ho1
      have OA := Lib.hid (((show wr.ownsRow w.heap.size 5 1 _ L.length (L.map u8v) from HO.out)).alloc (.cells #[.int .u8 (y : Int)] 5))
      have CA := Lib.hid (built_byte wr y hy2)
      have BA := Lib.hid ((HR.out).b.alloc (HR.out).b.size (.cells #[.int .u8 (y : Int)] 5))
      obtain ⟨lv, hlv⟩ : ∃ lv, L.map u8v = lv := ⟨_, rfl⟩
      obtain ⟨ll, hll⟩ : ∃ ll, L.length = ll := ⟨_, rfl⟩
      rw [hlv, hll] at OA
      have HLV := Lib.hid hlv
      have HLL := Lib.hid hll
      rw [hll] at hLl
      have HNU := Lib.hid hu
      have hdl : u / 128 < u := by omega
      clear hu hlv hll hy
      go_wp2_with (at_builtin; refine wpList_append_own _ rfl (.tmp 11) (.tmp 15) 28 rfl w.heap.size 5 ii (.int .u8 0) 1 1 Try.underlying28 hi0 hz0 hz1 hz2 rfl (by decide) _ _ _ rfl (OA.out) _ _ _ ([UInt8.ofNat y].map u8v) rfl rfl (CA.out) (u8v_one _) ?b1 ?b2 ?b3 ?b4)
      case b1 => unfold maxLen; omega
      case b2 => omega
      case b3 => have := (HR.out).b.size; simp; omega
      case b4 =>
        intro v' w5 hown1 hg5 hne
        have B5 := Lib.hid ((BA.out).grown hg5 (BA.out).size (fun k hk => ((OA.out).lt k hk).1))
        have HN : Hid (PutR w [] u0 (k + 1) (u / 128) v' w5) := Lib.hid ((HR.out).step hk8 HNU.out HL.out (by
          rw [HY.out]
          have h : w5.ownsRow w.heap.size 5 1 v' (L.length + 1) (L.map u8v ++ [u8v (UInt8.ofNat y)]) := by rw [HLV.out, HLL.out]; exact hown1
          have e : (L ++ [UInt8.ofNat y]).length = L.length + 1 := by simp
          have e2 : (L ++ [UInt8.ofNat y]).map u8v = L.map u8v ++ [u8v (UInt8.ofNat y)] := by simp
          unfold OB
          rw [e, e2]
          exact h) B5.out)
        clear hown1 hg5 hne
        go_wp2_with fail
        exact ⟨⟨k + 1, u / 128, by omega, rfl, HN.out⟩, by simp [intOf]; omega⟩
theorem Try.rput (w : World) {A : Option Addr} {n c : Nat} {l : List UInt8} (hD : DI w A n c l) (hn : n ≤ 2000000) (u0 : Nat) (hu0 : u0 < 18446744073709551616) :
    Calls Try.prog 23 #[.slice A n c, .int .u64 u0] w (PutP w l u0) := by
  cases A with
  | none => exact Try.rput0 w hD hn u0 hu0
  | some X => exact Try.rputX w hD hn u0 hu0
end Go.Proofs
end

section
namespace Go.Proofs
open Go.RowKit NT Go.Shelf Go.Lib Go.Sort
set_option maxRecDepth 100000
def fnd : List Str → Str → Nat
  | [], _ => 0
  | y :: S, x => if lt y x = true then fnd S x + 1 else 0
theorem fnd_le : ∀ (W : List Str) (x : Str), fnd W x ≤ W.length
  | [], x => Nat.le_refl _
  | y :: W, x => by
    have := fnd_le W x
    rw [fnd]
    split
    · rw [List.length_cons]; omega
    · omega
theorem lt_fnd : ∀ (W : List Str) (x y : Str), y ∈ W.take (fnd W x) → lt y x = true
  | [], x, y, h => by simp at h
  | z :: W, x, y, h => by
    rw [fnd] at h
    split at h
    · rename_i hz
      rw [List.take_succ_cons, List.mem_cons] at h
      rcases h with rfl | h
      · exact hz
      · exact lt_fnd W x y h
    · simp at h
theorem ge_fnd : ∀ (W : List Str) (x y : Str), W[fnd W x]? = some y → lt y x = false
  | [], x, y, h => by simp [fnd] at h
  | z :: W, x, y, h => by
    rw [fnd] at h
    split at h
    · rw [List.getElem?_cons_succ] at h
      exact ge_fnd W x y h
    · rename_i hz
      rw [List.getElem?_cons_zero] at h
      cases h
      simpa using hz
theorem fnd_eq {S : List Str} {x : Str} {i : Nat} (hi : i ≤ S.length) (h : ∀ y ∈ S.take i, lt y x = true) (he : i = S.length ∨ ∃ y, S[i]? = some y ∧ lt y x = false) : fnd S x = i := by
  have hle := fnd_le S x
  rcases Nat.lt_trichotomy (fnd S x) i with q | q | q
  · have hlt : fnd S x < S.length := by omega
    have h1 := ge_fnd S x _ (List.getElem?_eq_getElem hlt)
    have h2 := h S[fnd S x] (List.mem_of_getElem? (i := fnd S x) (by rw [List.getElem?_take, if_pos q]; exact List.getElem?_eq_getElem hlt))
    rw [h1] at h2; cases h2
  · exact q
  · rcases he with e | ⟨y, hy, hl⟩
    · omega
    · have h2 := lt_fnd S x y (List.mem_of_getElem? (i := i) (by rw [List.getElem?_take, if_pos q]; exact hy))
      rw [hl] at h2; cases h2
theorem eql_str (y x : Str) (b : Bool) (h : decide (y = x) = b) : binOp .eql 9 (encStr y) (encStr x) = pure (.bool b) := by
  subst h
  unfold encStr
  simp only [binOp, Op.stringOp]
  rw [Lib.toList_data, Lib.toList_data]
  have e : (y == x) = decide (y = x) := by by_cases h : y = x <;> simp [h]
  exact congrArg (fun b => (pure (Value.bool b) : Sem Value)) e
theorem Try.find (a : Option Addr) (k c : Nat) (w : World) (S : List Str) (x : Str) (hl : S.length = k) (ha : RW w a S) (hk : k ≤ 65536) :
    Calls Try.prog 19 #[.slice a k c, encStr x] w fun e w' => e = .returned (.tuple #[.int .i64 (fnd S x), .bool (decide (S[fnd S x]? = some x))]) ∧ Below w.heap.size w w' := by
  have HA := Lib.hid ha
  have HL := Lib.hid hl
  clear ha hl
  go_enter Try.func19, Try.ntmps19
  go_wp2_with fail
  go_loopw [6] (fun t wr => ∃ i : Nat, i ≤ k ∧ t = .int .i64 i ∧ Hid (Below w.heap.size w wr) ∧ Hid (∀ y ∈ S.take i, lt y x = true)) (fun t _ => k - (intO t).toNat)
  case atStart => exact ⟨0, Nat.zero_le _, rfl, Lib.hid (Below.refl _ _), Lib.hid (by simp)⟩
  case round =>
    obtain ⟨i, hi, rfl, HJ, HT⟩ := hrel
    by_cases hlt : i < k
    · have d1 : decide ((i : Int) < k) = true := decide_eq_true (by omega)
      have d1' : decide (i < k) = true := decide_eq_true hlt
      obtain ⟨y, hy⟩ : ∃ y, S[i]? = some y := ⟨_, List.getElem?_eq_getElem (by rw [HL.out]; exact hlt)⟩
      obtain ⟨X, hX, c0⟩ := (HA.out.below HJ.out) i y hy
      subst hX
      have HY := Lib.hid hy
      clear hy
      by_cases hyx : lt y x = true
      · have hb := (lss_str y x).trans hyx
        have HT2 : Hid (∀ z ∈ S.take (i + 1), lt z x = true) := Lib.hid (by
          intro z hz
          rw [List.take_add_one, HY.out, List.mem_append] at hz
          rcases hz with hz | hz
          · exact HT.out z hz
          · simp at hz; subst hz; exact hyx)
        have hb2 : binOp .lss 9 (encStr y) (encStr x) = pure (.bool true) := by
          simp only [binOp, Op.stringOp, encStr]; rw [hb]
        clear hyx
        go_wp2_with fail
        exact ⟨⟨i + 1, by omega, rfl, HJ, HT2⟩, by simp [intO]; omega⟩
      · have hyx' : lt y x = false := by simpa using hyx
        have hb := (lss_str y x).trans hyx'
        have hb2 : binOp .lss 9 (encStr y) (encStr x) = pure (.bool false) := by
          simp only [binOp, Op.stringOp, encStr]; rw [hb]
        have HF : Hid (fnd S x = i) := Lib.hid (fnd_eq (by rw [HL.out]; exact hi) HT.out (.inr ⟨y, HY.out, hyx'⟩))
        clear hyx hyx'
        obtain ⟨b, hbb⟩ : ∃ b, decide (y = x) = b := ⟨_, rfl⟩
        have he := eql_str y x b hbb
        have HG : Hid (decide (S[fnd S x]? = some x) = b) := Lib.hid (by rw [HF.out, HY.out, ← hbb]; simp)
        clear hbb
        go_upto_region 4 with fail
        refine wp_region_noPanic ?_
        refine wp_region_held_drew (S := (fun W => W.cell? (X.add i) = some (encStr y))) (by kernel_rfl) ?_ (fun hHeld => ?_)
        · exact c0
        refine wpAnyH_take (i := 0) (oi := { dst := some 21, op := Op.move (Operand.tmp 6), type := 3, pos := "ref.go:639", after := #[], guard := none }) (v := ?_) rfl (by kernel_rfl) (by kernel_rfl) (by kernel_rfl) (fun _ _ _ h => h) (Or.inl ⟨by rfl, ?_⟩) (by assumption) ?_
        rotate_left
        · (intro w hSw; (try dsimp only at hSw); go_simp; try with_reducible rfl)
        try simp only [Act.put, List.setIfInBounds_toArray, List.set_cons_zero, List.set_cons_succ]
        refine wpAnyH_take (i := 1) (oi := { dst := some 22, op := Op.move (Operand.tmp 6), type := 3, pos := "ref.go:639", after := #[], guard := none }) (v := ?_) rfl (by kernel_rfl) (by kernel_rfl) (by kernel_rfl) (fun _ _ _ h => h) (Or.inl ⟨by rfl, ?_⟩) (by assumption) ?_
        rotate_left
        · (intro w hSw; (try dsimp only at hSw); go_simp; try with_reducible rfl)
        try simp only [Act.put, List.setIfInBounds_toArray, List.set_cons_zero, List.set_cons_succ]
        refine wpAnyH_take (i := 2) (oi := { dst := some 23, op := Op.move (Operand.tmp 0), type := 22, pos := "ref.go:639", after := #[], guard := none }) (v := ?_) rfl (by kernel_rfl) (by kernel_rfl) (by kernel_rfl) (fun _ _ _ h => h) (Or.inl ⟨by rfl, ?_⟩) (by assumption) ?_
        rotate_left
        · (intro w hSw; (try dsimp only at hSw); go_simp; try with_reducible rfl)
        try simp only [Act.put, List.setIfInBounds_toArray, List.set_cons_zero, List.set_cons_succ]
        refine wpAnyH_take (i := 3) (oi := { dst := some 24, op := Op.call { callee := Callee.builtin Builtin.len, args := #[Operand.tmp 23], argTypes := #[22] }, type := 3, pos := "ref.go:639", after := #[{ on := 2, ground := Ground.data }], guard := none }) (v := ?_) rfl (by kernel_rfl) (by kernel_rfl) (by kernel_rfl) (fun _ _ _ h => h) (Or.inl ⟨by rfl, ?_⟩) (by assumption) ?_
        rotate_left
        · (intro w hSw; (try dsimp only at hSw); go_simp; try with_reducible rfl)
        try simp only [Act.put, List.setIfInBounds_toArray, List.set_cons_zero, List.set_cons_succ]
        refine wpAnyH_take (i := 4) (oi := { dst := some 25, op := Op.binOp BinOp.lss 3 (Operand.tmp 22) (Operand.tmp 24) 3, type := 4, pos := "ref.go:639", after := #[{ on := 1, ground := Ground.data }, { on := 3, ground := Ground.data }], guard := none }) (v := ?_) rfl (by kernel_rfl) (by kernel_rfl) (by kernel_rfl) (fun _ _ _ h => h) (Or.inl ⟨by rfl, ?_⟩) (by assumption) ?_
        rotate_left
        · (intro w hSw; (try dsimp only at hSw); go_simp; try with_reducible rfl)
        try simp only [Act.put, List.setIfInBounds_toArray, List.set_cons_zero, List.set_cons_succ]
        refine wpAnyH_take (i := 5) (oi := { dst := some 26, op := Op.move (Operand.tmp 25), type := 4, pos := "ref.go:639", after := #[{ on := 4, ground := Ground.data }], guard := none }) (v := ?_) rfl (by kernel_rfl) (by kernel_rfl) (by kernel_rfl) (fun _ _ _ h => h) (Or.inl ⟨by rfl, ?_⟩) (by assumption) ?_
        rotate_left
        · (intro w hSw; (try dsimp only at hSw); go_simp; try with_reducible rfl)
        try simp only [Act.put, List.setIfInBounds_toArray, List.set_cons_zero, List.set_cons_succ]
        refine wpAnyH_take (i := 6) (oi := { dst := some 27, op := Op.move (Operand.tmp 0), type := 22, pos := "ref.go:639", after := #[{ on := 5, ground := Ground.guard }, { on := 13, ground := Ground.gcOnly Departure.lateStores }], guard := some (5, true) }) (v := ?_) rfl (by kernel_rfl) (by kernel_rfl) (by kernel_rfl) (fun _ _ _ h => h) (Or.inl ⟨by rfl, ?_⟩) (by assumption) ?_
        rotate_left
        · (intro w hSw; (try dsimp only at hSw); go_simp; try with_reducible rfl)
        try simp only [Act.put, List.setIfInBounds_toArray, List.set_cons_zero, List.set_cons_succ]
        refine wpAnyH_take (i := 7) (oi := { dst := some 28, op := Op.move (Operand.tmp 6), type := 3, pos := "ref.go:639", after := #[{ on := 5, ground := Ground.guard }, { on := 13, ground := Ground.gcOnly Departure.lateStores }], guard := some (5, true) }) (v := ?_) rfl (by kernel_rfl) (by kernel_rfl) (by kernel_rfl) (fun _ _ _ h => h) (Or.inl ⟨by rfl, ?_⟩) (by assumption) ?_
        rotate_left
        · (intro w hSw; (try dsimp only at hSw); go_simp; try with_reducible rfl)
        try simp only [Act.put, List.setIfInBounds_toArray, List.set_cons_zero, List.set_cons_succ]
        refine wpAnyH_take (i := 8) (oi := { dst := some 29, op := Op.indexAddr 22 (Operand.tmp 27) (Operand.tmp 28), type := 0, pos := "ref.go:639", after := #[{ on := 6, ground := Ground.data }, { on := 7, ground := Ground.data }, { on := 5, ground := Ground.guard }, { on := 13, ground := Ground.gcOnly Departure.lateStores }], guard := some (5, true) }) (v := ?_) rfl (by kernel_rfl) (by kernel_rfl) (by kernel_rfl) (fun _ _ _ h => h) (Or.inl ⟨by rfl, ?_⟩) (by assumption) ?_
        rotate_left
        · (intro w hSw; (try dsimp only at hSw); go_simp; try with_reducible rfl)
        try simp only [Act.put, List.setIfInBounds_toArray, List.set_cons_zero, List.set_cons_succ]
        refine wpAnyH_take (i := 9) (oi := { dst := some 30, op := Op.load 9 (Operand.tmp 29), type := 9, pos := "ref.go:639", after := #[{ on := 8, ground := Ground.data }, { on := 5, ground := Ground.guard }, { on := 13, ground := Ground.gcOnly Departure.lateStores }], guard := some (5, true) }) (v := ?_) rfl (by kernel_rfl) (by kernel_rfl) (by kernel_rfl) (fun _ _ _ h => h) (Or.inl ⟨by rfl, ?_⟩) (by assumption) ?_
        rotate_left
        · (intro w hSw; (try dsimp only at hSw); go_simp; try with_reducible rfl)
        try simp only [Act.put, List.setIfInBounds_toArray, List.set_cons_zero, List.set_cons_succ]
        refine wpAnyH_take (i := 10) (oi := { dst := some 31, op := Op.move (Operand.tmp 1), type := 9, pos := "ref.go:639", after := #[{ on := 5, ground := Ground.guard }, { on := 13, ground := Ground.gcOnly Departure.lateStores }], guard := some (5, true) }) (v := ?_) rfl (by kernel_rfl) (by kernel_rfl) (by kernel_rfl) (fun _ _ _ h => h) (Or.inl ⟨by rfl, ?_⟩) (by assumption) ?_
        rotate_left
        · (intro w hSw; (try dsimp only at hSw); go_simp; try with_reducible rfl)
        try simp only [Act.put, List.setIfInBounds_toArray, List.set_cons_zero, List.set_cons_succ]
        refine wpAnyH_take (i := 11) (oi := { dst := some 32, op := Op.binOp BinOp.eql 9 (Operand.tmp 30) (Operand.tmp 31) 9, type := 4, pos := "ref.go:639", after := #[{ on := 9, ground := Ground.data }, { on := 10, ground := Ground.data }, { on := 5, ground := Ground.guard }, { on := 13, ground := Ground.gcOnly Departure.lateStores }], guard := some (5, true) }) (v := ?_) rfl (by kernel_rfl) (by kernel_rfl) (by kernel_rfl) (fun _ _ _ h => h) (Or.inl ⟨by rfl, ?_⟩) (by assumption) ?_
        rotate_left
        · (intro w hSw; (try dsimp only at hSw); go_simp; try with_reducible rfl)
        try simp only [Act.put, List.setIfInBounds_toArray, List.set_cons_zero, List.set_cons_succ]
        refine wpAnyH_take (i := 12) (oi := { dst := some 33, op := Op.pick (Operand.tmp 26) (Operand.tmp 32) (Operand.const (Value.bool false)), type := 4, pos := "ref.go:639", after := #[{ on := 5, ground := Ground.data }, { on := 11, ground := Ground.data }, { on := 13, ground := Ground.gcOnly Departure.lateStores }], guard := none }) (v := ?_) rfl (by kernel_rfl) (by kernel_rfl) (by kernel_rfl) (fun _ _ _ h => h) (Or.inl ⟨by rfl, ?_⟩) (by assumption) ?_
        rotate_left
        · (intro w hSw; (try dsimp only at hSw); go_simp; try with_reducible rfl)
        try simp only [Act.put, List.setIfInBounds_toArray, List.set_cons_zero, List.set_cons_succ]
        refine wpAnyH_take (i := 13) (oi := { dst := some 4, op := Op.assign (Operand.tmp 21), type := 3, pos := "ref.go:639", after := #[{ on := 0, ground := Ground.data }, { on := 5, ground := Ground.chain }, { on := 0, ground := Ground.phase }, { on := 1, ground := Ground.textOnly Departure.lateStores }, { on := 2, ground := Ground.textOnly Departure.lateStores }, { on := 3, ground := Ground.textOnly Departure.lateStoresUnsure }, { on := 4, ground := Ground.textOnly Departure.lateStores }, { on := 5, ground := Ground.textOnly Departure.lateStores }, { on := 6, ground := Ground.textOnly Departure.lateStores }, { on := 7, ground := Ground.textOnly Departure.lateStores }, { on := 8, ground := Ground.textOnly Departure.lateStores }, { on := 9, ground := Ground.textOnly Departure.lateStores }, { on := 10, ground := Ground.textOnly Departure.lateStores }, { on := 11, ground := Ground.textOnly Departure.lateStores }, { on := 12, ground := Ground.textOnly Departure.lateStores }], guard := none }) (v := ?_) rfl (by kernel_rfl) (by kernel_rfl) (by kernel_rfl) (fun _ _ _ h => h) (Or.inl ⟨by rfl, ?_⟩) (by assumption) ?_
        rotate_left
        · (intro w hSw; (try dsimp only at hSw); go_simp; try with_reducible rfl)
        try simp only [Act.put, List.setIfInBounds_toArray, List.set_cons_zero, List.set_cons_succ]
        refine wpAnyH_take (i := 14) (oi := { dst := some 5, op := Op.assign (Operand.tmp 33), type := 4, pos := "ref.go:639", after := #[{ on := 12, ground := Ground.data }, { on := 13, ground := Ground.chain }, { on := 0, ground := Ground.phase }, { on := 1, ground := Ground.phase }, { on := 2, ground := Ground.phase }, { on := 3, ground := Ground.phase }, { on := 4, ground := Ground.phase }, { on := 5, ground := Ground.phase }, { on := 6, ground := Ground.phase }, { on := 7, ground := Ground.phase }, { on := 8, ground := Ground.phase }, { on := 9, ground := Ground.phase }, { on := 10, ground := Ground.phase }, { on := 11, ground := Ground.phase }, { on := 12, ground := Ground.phase }, { on := 13, ground := Ground.phase }], guard := none }) (v := ?_) rfl (by kernel_rfl) (by kernel_rfl) (by kernel_rfl) (fun _ _ _ h => h) (Or.inl ⟨by rfl, ?_⟩) (by assumption) ?_
        rotate_left
        · (intro w hSw; (try dsimp only at hSw); go_simp; try with_reducible rfl)
        try simp only [Act.put, List.setIfInBounds_toArray, List.set_cons_zero, List.set_cons_succ]
        refine wpAnyH_done (by kernel_rfl) ?_ _
        refine NoPanic.normal ?_
        go_wp2_with fail
        go_ret2
        rw [HF.out] at HG ⊢
        rw [HG.out]
        exact ⟨rfl, HJ.out.drew⟩
    · obtain rfl : i = k := by omega
      have d1 : decide ((i : Int) < i) = false := by simp
      have d1' : decide (i < i) = false := by simp
      have HF : Hid (fnd S x = i) := Lib.hid (fnd_eq (by rw [HL.out]; exact Nat.le_refl _) HT.out (.inl HL.out.symm))
      have HG : Hid (decide (S[fnd S x]? = some x) = false) := Lib.hid (by rw [HF.out, List.getElem?_eq_none (by rw [HL.out]; exact Nat.le_refl _)]; rfl)
      go_upto_region 4 with fail
      refine wp_region_noPanic ?_
      refine wp_region_held_drew (S := (fun W => True)) (by kernel_rfl) ?_ (fun hHeld => ?_)
      · trivial
      refine wpAnyH_take (i := 0) (oi := { dst := some 21, op := Op.move (Operand.tmp 6), type := 3, pos := "ref.go:639", after := #[], guard := none }) (v := ?_) rfl (by kernel_rfl) (by kernel_rfl) (by kernel_rfl) (fun _ _ _ h => h) (Or.inl ⟨by rfl, ?_⟩) (by assumption) ?_
      rotate_left
      · (intro w hSw; (try dsimp only at hSw); go_simp; try with_reducible rfl)
      try simp only [Act.put, List.setIfInBounds_toArray, List.set_cons_zero, List.set_cons_succ]
      refine wpAnyH_take (i := 1) (oi := { dst := some 22, op := Op.move (Operand.tmp 6), type := 3, pos := "ref.go:639", after := #[], guard := none }) (v := ?_) rfl (by kernel_rfl) (by kernel_rfl) (by kernel_rfl) (fun _ _ _ h => h) (Or.inl ⟨by rfl, ?_⟩) (by assumption) ?_
      rotate_left
      · (intro w hSw; (try dsimp only at hSw); go_simp; try with_reducible rfl)
      try simp only [Act.put, List.setIfInBounds_toArray, List.set_cons_zero, List.set_cons_succ]
      refine wpAnyH_take (i := 2) (oi := { dst := some 23, op := Op.move (Operand.tmp 0), type := 22, pos := "ref.go:639", after := #[], guard := none }) (v := ?_) rfl (by kernel_rfl) (by kernel_rfl) (by kernel_rfl) (fun _ _ _ h => h) (Or.inl ⟨by rfl, ?_⟩) (by assumption) ?_
      rotate_left
      · (intro w hSw; (try dsimp only at hSw); go_simp; try with_reducible rfl)
      try simp only [Act.put, List.setIfInBounds_toArray, List.set_cons_zero, List.set_cons_succ]
      refine wpAnyH_take (i := 3) (oi := { dst := some 24, op := Op.call { callee := Callee.builtin Builtin.len, args := #[Operand.tmp 23], argTypes := #[22] }, type := 3, pos := "ref.go:639", after := #[{ on := 2, ground := Ground.data }], guard := none }) (v := ?_) rfl (by kernel_rfl) (by kernel_rfl) (by kernel_rfl) (fun _ _ _ h => h) (Or.inl ⟨by rfl, ?_⟩) (by assumption) ?_
      rotate_left
      · (intro w hSw; (try dsimp only at hSw); go_simp; try with_reducible rfl)
      try simp only [Act.put, List.setIfInBounds_toArray, List.set_cons_zero, List.set_cons_succ]
      refine wpAnyH_take (i := 4) (oi := { dst := some 25, op := Op.binOp BinOp.lss 3 (Operand.tmp 22) (Operand.tmp 24) 3, type := 4, pos := "ref.go:639", after := #[{ on := 1, ground := Ground.data }, { on := 3, ground := Ground.data }], guard := none }) (v := ?_) rfl (by kernel_rfl) (by kernel_rfl) (by kernel_rfl) (fun _ _ _ h => h) (Or.inl ⟨by rfl, ?_⟩) (by assumption) ?_
      rotate_left
      · (intro w hSw; (try dsimp only at hSw); go_simp; try with_reducible rfl)
      try simp only [Act.put, List.setIfInBounds_toArray, List.set_cons_zero, List.set_cons_succ]
      refine wpAnyH_take (i := 5) (oi := { dst := some 26, op := Op.move (Operand.tmp 25), type := 4, pos := "ref.go:639", after := #[{ on := 4, ground := Ground.data }], guard := none }) (v := ?_) rfl (by kernel_rfl) (by kernel_rfl) (by kernel_rfl) (fun _ _ _ h => h) (Or.inl ⟨by rfl, ?_⟩) (by assumption) ?_
      rotate_left
      · (intro w hSw; (try dsimp only at hSw); go_simp; try with_reducible rfl)
      try simp only [Act.put, List.setIfInBounds_toArray, List.set_cons_zero, List.set_cons_succ]
      refine wpAnyH_take (i := 6) (oi := { dst := some 27, op := Op.move (Operand.tmp 0), type := 22, pos := "ref.go:639", after := #[{ on := 5, ground := Ground.guard }, { on := 13, ground := Ground.gcOnly Departure.lateStores }], guard := some (5, true) }) (v := undef) rfl (by kernel_rfl) (by kernel_rfl) (by kernel_rfl) (fun _ _ _ h => h) (Or.inr ⟨by rfl, rfl⟩) (by assumption) ?_
      try simp only [Act.put, List.setIfInBounds_toArray, List.set_cons_zero, List.set_cons_succ]
      refine wpAnyH_take (i := 7) (oi := { dst := some 28, op := Op.move (Operand.tmp 6), type := 3, pos := "ref.go:639", after := #[{ on := 5, ground := Ground.guard }, { on := 13, ground := Ground.gcOnly Departure.lateStores }], guard := some (5, true) }) (v := undef) rfl (by kernel_rfl) (by kernel_rfl) (by kernel_rfl) (fun _ _ _ h => h) (Or.inr ⟨by rfl, rfl⟩) (by assumption) ?_
      try simp only [Act.put, List.setIfInBounds_toArray, List.set_cons_zero, List.set_cons_succ]
      refine wpAnyH_take (i := 8) (oi := { dst := some 29, op := Op.indexAddr 22 (Operand.tmp 27) (Operand.tmp 28), type := 0, pos := "ref.go:639", after := #[{ on := 6, ground := Ground.data }, { on := 7, ground := Ground.data }, { on := 5, ground := Ground.guard }, { on := 13, ground := Ground.gcOnly Departure.lateStores }], guard := some (5, true) }) (v := undef) rfl (by kernel_rfl) (by kernel_rfl) (by kernel_rfl) (fun _ _ _ h => h) (Or.inr ⟨by rfl, rfl⟩) (by assumption) ?_
      try simp only [Act.put, List.setIfInBounds_toArray, List.set_cons_zero, List.set_cons_succ]
      refine wpAnyH_take (i := 9) (oi := { dst := some 30, op := Op.load 9 (Operand.tmp 29), type := 9, pos := "ref.go:639", after := #[{ on := 8, ground := Ground.data }, { on := 5, ground := Ground.guard }, { on := 13, ground := Ground.gcOnly Departure.lateStores }], guard := some (5, true) }) (v := undef) rfl (by kernel_rfl) (by kernel_rfl) (by kernel_rfl) (fun _ _ _ h => h) (Or.inr ⟨by rfl, rfl⟩) (by assumption) ?_
      try simp only [Act.put, List.setIfInBounds_toArray, List.set_cons_zero, List.set_cons_succ]
      refine wpAnyH_take (i := 10) (oi := { dst := some 31, op := Op.move (Operand.tmp 1), type := 9, pos := "ref.go:639", after := #[{ on := 5, ground := Ground.guard }, { on := 13, ground := Ground.gcOnly Departure.lateStores }], guard := some (5, true) }) (v := undef) rfl (by kernel_rfl) (by kernel_rfl) (by kernel_rfl) (fun _ _ _ h => h) (Or.inr ⟨by rfl, rfl⟩) (by assumption) ?_
      try simp only [Act.put, List.setIfInBounds_toArray, List.set_cons_zero, List.set_cons_succ]
      refine wpAnyH_take (i := 11) (oi := { dst := some 32, op := Op.binOp BinOp.eql 9 (Operand.tmp 30) (Operand.tmp 31) 9, type := 4, pos := "ref.go:639", after := #[{ on := 9, ground := Ground.data }, { on := 10, ground := Ground.data }, { on := 5, ground := Ground.guard }, { on := 13, ground := Ground.gcOnly Departure.lateStores }], guard := some (5, true) }) (v := undef) rfl (by kernel_rfl) (by kernel_rfl) (by kernel_rfl) (fun _ _ _ h => h) (Or.inr ⟨by rfl, rfl⟩) (by assumption) ?_
      try simp only [Act.put, List.setIfInBounds_toArray, List.set_cons_zero, List.set_cons_succ]
      refine wpAnyH_take (i := 12) (oi := { dst := some 33, op := Op.pick (Operand.tmp 26) (Operand.tmp 32) (Operand.const (Value.bool false)), type := 4, pos := "ref.go:639", after := #[{ on := 5, ground := Ground.data }, { on := 11, ground := Ground.data }, { on := 13, ground := Ground.gcOnly Departure.lateStores }], guard := none }) (v := ?_) rfl (by kernel_rfl) (by kernel_rfl) (by kernel_rfl) (fun _ _ _ h => h) (Or.inl ⟨by rfl, ?_⟩) (by assumption) ?_
      rotate_left
      · (intro w hSw; (try dsimp only at hSw); go_simp; try with_reducible rfl)
      try simp only [Act.put, List.setIfInBounds_toArray, List.set_cons_zero, List.set_cons_succ]
      refine wpAnyH_take (i := 13) (oi := { dst := some 4, op := Op.assign (Operand.tmp 21), type := 3, pos := "ref.go:639", after := #[{ on := 0, ground := Ground.data }, { on := 5, ground := Ground.chain }, { on := 0, ground := Ground.phase }, { on := 1, ground := Ground.textOnly Departure.lateStores }, { on := 2, ground := Ground.textOnly Departure.lateStores }, { on := 3, ground := Ground.textOnly Departure.lateStoresUnsure }, { on := 4, ground := Ground.textOnly Departure.lateStores }, { on := 5, ground := Ground.textOnly Departure.lateStores }, { on := 6, ground := Ground.textOnly Departure.lateStores }, { on := 7, ground := Ground.textOnly Departure.lateStores }, { on := 8, ground := Ground.textOnly Departure.lateStores }, { on := 9, ground := Ground.textOnly Departure.lateStores }, { on := 10, ground := Ground.textOnly Departure.lateStores }, { on := 11, ground := Ground.textOnly Departure.lateStores }, { on := 12, ground := Ground.textOnly Departure.lateStores }], guard := none }) (v := ?_) rfl (by kernel_rfl) (by kernel_rfl) (by kernel_rfl) (fun _ _ _ h => h) (Or.inl ⟨by rfl, ?_⟩) (by assumption) ?_
      rotate_left
      · (intro w hSw; (try dsimp only at hSw); go_simp; try with_reducible rfl)
      try simp only [Act.put, List.setIfInBounds_toArray, List.set_cons_zero, List.set_cons_succ]
      refine wpAnyH_take (i := 14) (oi := { dst := some 5, op := Op.assign (Operand.tmp 33), type := 4, pos := "ref.go:639", after := #[{ on := 12, ground := Ground.data }, { on := 13, ground := Ground.chain }, { on := 0, ground := Ground.phase }, { on := 1, ground := Ground.phase }, { on := 2, ground := Ground.phase }, { on := 3, ground := Ground.phase }, { on := 4, ground := Ground.phase }, { on := 5, ground := Ground.phase }, { on := 6, ground := Ground.phase }, { on := 7, ground := Ground.phase }, { on := 8, ground := Ground.phase }, { on := 9, ground := Ground.phase }, { on := 10, ground := Ground.phase }, { on := 11, ground := Ground.phase }, { on := 12, ground := Ground.phase }, { on := 13, ground := Ground.phase }], guard := none }) (v := ?_) rfl (by kernel_rfl) (by kernel_rfl) (by kernel_rfl) (fun _ _ _ h => h) (Or.inl ⟨by rfl, ?_⟩) (by assumption) ?_
      rotate_left
      · (intro w hSw; (try dsimp only at hSw); go_simp; try with_reducible rfl)
      try simp only [Act.put, List.setIfInBounds_toArray, List.set_cons_zero, List.set_cons_succ]
      refine wpAnyH_done (by kernel_rfl) ?_ _
      refine NoPanic.normal ?_
      go_wp2_with fail
      go_ret2
      rw [HF.out] at HG ⊢
      rw [HG.out]
      exact ⟨rfl, HJ.out.drew⟩
end Go.Proofs
end

section
namespace Go.Proofs
open Go.RowKit NT Go.Shelf Go.Lib Go.Sort
set_option maxRecDepth 100000
theorem oneCell_str (l : List Str) : ∀ u ∈ l.map encStr, u.oneCell' = true := by
  intro u hu
  obtain ⟨x, _, rfl⟩ := List.mem_map.1 hu
  rfl
theorem oper_wapp {o : Oper} {a : Act} {w : World} {K : Act → World → Prop} {Q : Exit → Act → World → Prop} (s x : Operand)
    (ho : o.op = .call { callee := .builtin .append, args := #[s, x], argTypes := #[22, 22] }) (hty : o.type = 22)
    (B : Nat) (v : Value) (W W2 : List Str) (hs : a.eval s = v) (hown : w.ownsRow B 9 1 v W.length (W.map encStr)) (A : Option Addr) (m c : Nat) (hx : a.eval x = .slice A m c) (hA : A = none → c = 0) (hR : RW w A W2) (hm : W2.length = m)
    (hsum : W.length + m ≤ 200000) (hB : B ≤ w.heap.size)
    (h : ∀ v' w', w'.ownsRow B 9 1 v' (W ++ W2).length ((W ++ W2).map encStr) → w.grownBy w' v.ownBlock → K (a.put o.dst v') w') : o.wp Try.prog a w K Q := by
  obtain ⟨i9, hi9, hz0, hz1, hz2⟩ := info_parts Try.info9
  cases A with
  | none =>
    have hc := hA rfl
    subst hc
    have hW2 : W2 = [] := by
      cases W2 with
      | nil => rfl
      | cons y r => obtain ⟨X, hX, _⟩ := hR 0 y rfl; cases hX
    subst hW2
    have hm0 : m = 0 := hm.symm
    subst hm0
    have hrun := run_append_owned_none (P := Try.prog) (w := w) B 22 o.type 9 i9 1 Try.underlying22 hi9 v W.length (W.map encStr) hown
    unfold Oper.wp
    simp [execOp, ho, resolve, invoke, builtin, hs, hx, hrun, Result.andThen]
    refine h v w (by rw [List.append_nil]; exact hown) ⟨rfl, rfl, rfl, Nat.le_refl _, fun k _ _ => rfl⟩
  | some X =>
    refine wp_append_own w s x 22 ho B 9 i9 (.string ByteArray.empty) 1 16 Try.underlying22 hi9 hz0 hz1 hz2 rfl (by decide) v W.length (W.map encStr) hs hown X m c (W2.map encStr) hx (by rw [List.length_map, hm, Nat.mul_one]) ?_ (oneCell_str W2) (by unfold maxLen; omega) (by omega) hB ?_
    · exact hR.cells
    · intro v' w' h1 h2 _
      refine h v' w' ?_ h2
      rw [List.length_append, List.map_append, hm]
      exact h1
theorem wpList_wapp {ops : Array Oper} {rest : List Oper} {o : Oper} {a : Act} {w : World} {Q : Exit → Act → World → Prop} (hgd : o.guard = none) (s x : Operand)
    (ho : o.op = .call { callee := .builtin .append, args := #[s, x], argTypes := #[22, 22] }) (hty : o.type = 22)
    (B : Nat) (v : Value) (W W2 : List Str) (hs : a.eval s = v) (hown : w.ownsRow B 9 1 v W.length (W.map encStr)) (A : Option Addr) (m c : Nat) (hx : a.eval x = .slice A m c) (hA : A = none → c = 0) (hR : RW w A W2) (hm : W2.length = m)
    (hsum : W.length + m ≤ 200000) (hB : B ≤ w.heap.size)
    (h : ∀ v' w', w'.ownsRow B 9 1 v' (W ++ W2).length ((W ++ W2).map encStr) → w.grownBy w' v.ownBlock → wpList Try.prog ops Q rest (a.put o.dst v') w') : wpList Try.prog ops Q (o :: rest) a w :=
  wpList_plain hgd fun K hK => oper_wapp s x ho hty B v W W2 hs hown A m c hx hA hR hm hsum hB fun v' w' h1 h2 => hK _ _ (h v' w' h1 h2)
theorem own_rw' {w : World} {B : Nat} {v : Value} {S : List Str} (h : w.ownsRow B 9 1 v S.length (S.map encStr)) : ∃ A c, v = .slice A S.length c ∧ RW w A S ∧ S.length ≤ c ∧ c ≤ maxLen ∧ (A = none → c = 0) := by
  by_cases hv : v = .slice none 0 0
  · subst hv
    have h0 : S.length = 0 := by
      rcases h.2 with ⟨_, q⟩ | ⟨_, _, _, q, _⟩
      · exact q
      · cases q
    obtain rfl := List.eq_nil_of_length_eq_zero h0
    exact ⟨none, 0, rfl, (fun j x hx => by simp at hx), Nat.le_refl _, Nat.zero_le _, fun _ => rfl⟩
  · rcases h.2 with ⟨q, _⟩ | ⟨g, cap, cur, rfl, q1, q2, q3, q4, _⟩
    · exact absurd q hv
    · obtain ⟨_, b, c, he, hb, hc, hs⟩ := SY.own h hv
      cases he
      exact ⟨_, cap, rfl, SY.rw (S := S) (r := []) (by simpa using hs), q3, q4, fun e => by cases e⟩
theorem RW.take {w : World} {A : Option Addr} {S : List Str} (h : RW w A S) (k : Nat) : RW w A (S.take k) := fun j x hx => by
  rw [List.getElem?_take] at hx
  split at hx
  · exact h j x hx
  · cases hx
theorem RW.drop {w : World} {X : Addr} {S : List Str} (h : RW w (some X) S) (k : Nat) : RW w (some (X.add k)) (S.drop k) := fun j x hx => by
  rw [List.getElem?_drop] at hx
  obtain ⟨Y, hY, hc⟩ := h _ x hx
  cases hY
  exact ⟨_, rfl, by rw [addr_add]; exact hc⟩
theorem own0 (w : World) : (w.alloc (.cells #[] 9)).ownsRow w.heap.size 9 1 (.slice (some ⟨w.heap.size, 0, none⟩) 0 0) ([] : List Str).length (([] : List Str).map encStr) :=
  World.ownsRow_made (base := w.heap.size) (e := 9) (size := 1) w #[] 0 (Nat.le_refl _) (Nat.zero_le _) rfl
def put1 (W : List Str) (x : Str) : List Str := W.take (fnd W x) ++ [x] ++ W.drop (fnd W x)
theorem fnd_mem {W : List Str} (hW : Sup W) {x : Str} (h : x ∈ W) : W[fnd W x]? = some x := by
  obtain ⟨q, hq, he⟩ := List.mem_iff_getElem.1 h
  have : fnd W x = q := fnd_eq (Nat.le_of_lt hq) (fun y hy => by
    obtain ⟨j, hj, rfl⟩ := List.mem_iff_getElem.1 hy
    rw [List.getElem_take, ← he]
    rw [List.length_take] at hj
    exact List.pairwise_iff_getElem.1 hW j q (by omega) hq (by omega)) (.inr ⟨x, by rw [List.getElem?_eq_getElem hq, he], lt_irrefl x⟩)
  rw [this, List.getElem?_eq_getElem hq, he]
theorem put1_sup {W : List Str} (hW : Sup W) {x : Str} (h : ¬ W[fnd W x]? = some x) : Sup (put1 W x) := by
  have hx : x ∉ W := fun hm => h (fnd_mem hW hm)
  have hdrop : ∀ y ∈ W.drop (fnd W x), lt x y = true := fun y hy => by
    obtain ⟨j, hj, rfl⟩ := List.mem_iff_getElem.1 hy
    rw [List.length_drop] at hj
    rw [List.getElem_drop]
    have hne : ∀ z, z ∈ W → lt z x = false → lt x z = true := fun z hz hl => by
      by_cases hl2 : lt x z = true
      · exact hl2
      · exact absurd (tri hl (by simpa using hl2) ▸ hz) hx
    have h0 := hne W[fnd W x] (List.getElem_mem (by omega)) (ge_fnd W x _ (List.getElem?_eq_getElem (by omega)))
    by_cases hj0 : j = 0
    · subst hj0; simpa using h0
    · exact lt_trans h0 (List.pairwise_iff_getElem.1 hW (fnd W x) (fnd W x + j) (by omega) (by omega) (by omega))
  unfold put1 Sup
  rw [List.append_assoc, List.pairwise_append]
  refine ⟨List.Pairwise.sublist (List.take_sublist _ _) hW, ?_, ?_⟩
  · rw [List.singleton_append, List.pairwise_cons]
    exact ⟨hdrop, List.Pairwise.sublist (List.drop_sublist _ _) hW⟩
  · intro a ha b hb
    have h1 := lt_fnd W x a ha
    rw [List.singleton_append, List.mem_cons] at hb
    rcases hb with rfl | hb
    · exact h1
    · exact lt_trans h1 (hdrop b hb)
theorem put1_mem (W : List Str) (x y : Str) : y ∈ put1 W x ↔ y ∈ W ∨ y = x := by
  unfold put1
  conv => rhs; rw [← List.take_append_drop (fnd W x) W]
  simp only [List.mem_append, List.mem_singleton]
  constructor
  · rintro ((h | h) | h)
    · exact .inl (.inl h)
    · exact .inr h
    · exact .inl (.inr h)
  · rintro ((h | h) | h)
    · exact .inl (.inl h)
    · exact .inr h
    · exact .inl (.inr h)
theorem put1_len (W : List Str) (x : Str) : (put1 W x).length = W.length + 1 := by
  have := fnd_le W x
  unfold put1
  simp only [List.length_append, List.length_take, List.length_drop, List.length_cons, List.length_nil]
  omega
theorem wds_put {l W : List Str} (h : Wds l W) {x : Str} (hx : ¬ W[fnd W x]? = some x) : Wds (l ++ [x]) (put1 W x) :=
  ⟨put1_sup h.up hx, fun y => by rw [put1_mem, List.mem_append, List.mem_singleton, h.mem y]⟩
theorem wds_same {l W : List Str} (h : Wds l W) {x : Str} (hx : W[fnd W x]? = some x) : Wds (l ++ [x]) W :=
  ⟨h.up, fun y => by
    rw [List.mem_append, List.mem_singleton, h.mem y]
    constructor
    · exact .inl
    · rintro (q | rfl)
      · exact q
      · exact (h.mem _).1 (List.mem_of_getElem? hx)⟩
theorem fnd_idx {W : List Str} (hW : Sup W) {x : Str} (h : x ∈ W) : fnd W x = W.idxOf x := (idx_self hW (fnd_mem hW h)).symm
end Go.Proofs
end

section
namespace Go.Proofs
open Go.RowKit NT Go.Shelf Go.Lib Go.Sort
set_option maxRecDepth 100000
theorem own_mono {w : World} {B B' : Nat} {e : TypeId} {size : Nat} {v : Value} {n : Nat} {xs : List Value} (h : w.ownsRow B e size v n xs) (hb : B' ≤ B) : w.ownsRow B' e size v n xs := by
  refine ⟨h.1, ?_⟩
  rcases h.2 with q | ⟨g, cap, cur, rfl, q, r⟩
  · exact .inl q
  · exact .inr ⟨g, cap, cur, rfl, by omega, r⟩
theorem RW.lt {w : World} {b : Nat} {x : Str} {l : List Str} (h : RW w (some ⟨b, 0, none⟩) (x :: l)) : b < w.heap.size := by
  obtain ⟨A, hA, hc⟩ := h 0 x rfl
  cases hA
  exact block_lt_of_cell hc
theorem RW.grown {w w' : World} {b : Nat} {l : List Str} {r : Option Nat} (h : RW w (some ⟨b, 0, none⟩) l) (hg : w.grownBy w' r) (hr : r ≠ some b) : RW w' (some ⟨b, 0, none⟩) l := fun j x hx => by
  obtain ⟨A, hA, hc⟩ := h j x hx
  cases hA
  rw [add_none, Nat.zero_add] at hc
  refine ⟨_, rfl, ?_⟩
  rw [add_none, Nat.zero_add]
  exact (World.cell?_of_block (hg.block _ (block_lt_of_cell hc) (Ne.symm hr))).trans hc
theorem own_du {w : World} {B : Nat} {v : Value} {P : List Nat} {n : Nat} (hn : P.length = n) (h : w.ownsRow B 39 1 v n (P.map u64v)) : ∃ A c, v = .slice A n c ∧ DU w A n c P := by
  rcases h.2 with ⟨rfl, hz⟩ | ⟨g, cap, cur, rfl, hb, hg, h1, h2, h3, h4⟩
  · subst hz
    obtain rfl := List.eq_nil_of_length_eq_zero hn
    exact ⟨none, 0, rfl, DU.nil w none⟩
  · refine ⟨_, cap, rfl, hn, h1, h2, fun j x hj => ⟨_, rfl, ?_⟩⟩
    have hj' := (List.getElem?_eq_some_iff.1 hj).1
    rw [add_none, Nat.zero_add, h.cellAt j (by omega), List.getElem?_map, hj]
    rfl
structure RBl (w wr : World) (l W : List Str) (i : Nat) (v : Value) : Prop where
  wds : Wds (l.take i) W
  len : W.length ≤ i
  own : wr.ownsRow w.heap.size 9 1 v W.length (W.map encStr)
  bel : Below w.heap.size w wr
set_option maxHeartbeats 8000000 in
theorem Try.rbuild (a : Option Addr) (n m : Nat) (w : World) (l : List Str) (hl : l.length = n) (ha : RW w a l) (hn : n ≤ 100) :
    Calls Try.prog 9 #[.slice a n m] w fun e w' => ∃ W A B k c c', e = .returned (.tuple #[.slice A k c, .slice B n c']) ∧ W.length = k ∧ Wds l W ∧ RW w' A W ∧ DU w' B n c' (plc l W) ∧ Below w.heap.size w w' := by
  have HA := Lib.hid ha
  have HL := Lib.hid hl
  obtain ⟨i39, hi39, hz0, hz1, hz2⟩ := info_parts Try.info39
  clear ha hl
  go_enter Try.func9, Try.ntmps9
  go_wp2_with fail
  go_loopw [4, 5] (fun t4 t5 wr => ∃ (i : Nat) (W : List Str), i ≤ n ∧ t5 = .int .i64 i ∧ Hid (RBl w wr l W i t4)) (fun _ t5 _ => n - (intO t5).toNat)
  case atStart => exact ⟨0, [], Nat.zero_le _, rfl, Lib.hid ⟨⟨List.Pairwise.nil, by simp⟩, Nat.le_refl _, World.ownsRow_nil w _ 9 1, Below.refl _ _⟩⟩
  case round =>
    obtain ⟨i, W, hi, rfl, HR⟩ := hrel
    by_cases hlt : i < n
    · have d1 : decide ((i : Int) < n) = true := decide_eq_true (by omega)
      have d1' : decide (i < n) = true := decide_eq_true hlt
      obtain ⟨x, hx⟩ : ∃ x, l[i]? = some x := ⟨_, List.getElem?_eq_getElem (by rw [HL.out]; exact hlt)⟩
      obtain ⟨X, hX, k0⟩ := (HA.out.below HR.out.bel) i x hx
      subst hX
      obtain ⟨A, c, rfl, hrw, hkc, hcm, hA0⟩ := own_rw' HR.out.own
      obtain ⟨k, hk⟩ : ∃ k, W.length = k := ⟨_, rfl⟩
      have HK := Lib.hid hk
      have hki : k ≤ i := by rw [← hk]; exact HR.out.len
      rw [hk] at hkc
      have HRW := Lib.hid hrw
      have HX := Lib.hid hx
      have HTK : Hid (l.take (i + 1) = l.take i ++ [x]) := Lib.hid (by rw [List.take_add_one, hx]; rfl)
      clear hx hrw hk
      go_wp2_with (rw [HK.out])
      refine (Try.find A k c wr W x HK.out HRW.out (by omega)).mono ?_
      rintro e1 w1 ⟨rfl, hb1⟩
      have HB1 := Lib.hid hb1
      have HRW1 := Lib.hid (HRW.out.below hb1)
      obtain ⟨f, hf⟩ : ∃ f, fnd W x = f := ⟨_, rfl⟩
      have hfk : f ≤ k := by rw [← hf, ← HK.out]; exact fnd_le W x
      have HF := Lib.hid hf
      rw [hf]
      clear hb1 hf
      by_cases hh : W[f]? = some x
      · have HH := Lib.hid hh
        rw [decide_eq_true hh]
        clear hh
        have HN : Hid (RBl w w1 l W (i + 1) (.slice A k c)) := Lib.hid ⟨by rw [HTK.out]; exact wds_same HR.out.wds (by rw [HF.out]; exact HH.out), by have := HR.out.len; omega, by rw [show Value.slice A k c = .slice A W.length c by rw [HK.out]]; exact own_below HR.out.own HB1.out, HR.out.bel.trans (HB1.out.mono HR.out.bel.size)⟩
        go_wp2_with fail
        exact ⟨⟨i + 1, W, by omega, rfl, HN⟩, by simp [intO]; omega⟩
      · have HH := Lib.hid hh
        rw [decide_eq_false hh]
        clear hh
        have c1 : w1.cell? (X.add i) = some (encStr x) := (World.cell?_of_block (HB1.out.block _ (block_lt_of_cell k0))).trans k0
        have HTF : Hid ((W.take f).length = f) := Lib.hid (by rw [List.length_take, HK.out]; omega)
        have HDF : Hid ((W.drop f).length = k - f) := Lib.hid (by rw [List.length_drop, HK.out])
        have hfc : f ≤ c := by omega
        go_upto_region 7 with fail
        refine Code.wp_mono ?_ (?_ : Code.wp Try.prog _ (fun e a2 w2 => e = .normal ∧ ∃ (v8 u30 u31 u32 u33 u34 u35 u36 u37 u38 u39 u40 : Value), a2 = ⟨#[.slice (some X) n m, undef, .slice none 0 0, .slice none 0 0, .slice A k c, .int .i64 i, .int .i64 f, .bool false, v8, undef, undef, undef, undef, .int .i64 i, .slice (some X) n m, .int .i64 n, .bool true, u17, u18, .tuple #[.int .i64 f, .bool false], .slice A k c, .slice (some X) n m, .int .i64 i, .pointer (some (X.add i)), encStr x, .tuple #[.int .i64 f, .bool false], .int .i64 f, .bool false, .bool false, .bool true, u30, u31, u32, u33, u34, u35, u36, u37, u38, u39, u40, u41, u42, u43, u44, u45, undef, undef, undef, undef, undef, undef, undef, undef, undef, undef, undef, undef, undef, undef, undef, undef, undef, undef, undef, undef, undef, undef], []⟩ ∧ Hid (w2.ownsRow w1.heap.size 9 1 v8 (W.take f ++ [x]).length ((W.take f ++ [x]).map encStr) ∧ Below w1.heap.size w1 w2)) _ _)
        rotate_left
        · skip
          refine wp_region_noPanic ?_
          refine wp_region_held_drew (S := (fun W => W.cell? (X.add i) = some (encStr x))) (by kernel_rfl) ?_ (fun hHeld => ?_)
          · exact c1
          obtain ⟨wd, hwd⟩ : ∃ wd, w1.drew = wd := ⟨_, rfl⟩
          have Bwd : Hid (Below w1.heap.size w1 wd) := Lib.hid (by rw [← hwd]; exact (Below.refl _ w1).drew)
          rw [hwd] at hHeld ⊢
          clear hwd
          refine wpAnyH_take (i := 1) (oi := { dst := some 31, op := Op.move (Operand.tmp 4), type := 22, pos := "ref.go:648", after := #[], guard := none }) (v := ?_) rfl (by kernel_rfl) (by kernel_rfl) (by kernel_rfl) (fun _ _ _ h => h) (Or.inl ⟨by rfl, ?_⟩) (by assumption) ?_
          rotate_left
          · (intro w hSw; (try dsimp only at hSw); go_simp; try with_reducible rfl)
          try simp only [Act.put, List.setIfInBounds_toArray, List.set_cons_zero, List.set_cons_succ]
          refine wpAnyH_take (i := 2) (oi := { dst := some 32, op := Op.move (Operand.tmp 6), type := 3, pos := "ref.go:648", after := #[], guard := none }) (v := ?_) rfl (by kernel_rfl) (by kernel_rfl) (by kernel_rfl) (fun _ _ _ h => h) (Or.inl ⟨by rfl, ?_⟩) (by assumption) ?_
          rotate_left
          · (intro w hSw; (try dsimp only at hSw); go_simp; try with_reducible rfl)
          try simp only [Act.put, List.setIfInBounds_toArray, List.set_cons_zero, List.set_cons_succ]
          refine wpAnyH_take (i := 3) (oi := { dst := some 33, op := Op.slice 22 (Operand.tmp 31) none (some (Operand.tmp 32)) none, type := 22, pos := "ref.go:648", after := #[{ on := 1, ground := Ground.data }, { on := 2, ground := Ground.data }], guard := none }) (v := ?_) rfl (by kernel_rfl) (by kernel_rfl) (by kernel_rfl) (fun _ _ _ h => h) (Or.inl ⟨by rfl, ?_⟩) (by assumption) ?_
          rotate_left
          · (intro w hSw; (try dsimp only at hSw); go_simp; try with_reducible rfl)
          try simp only [Act.put, List.setIfInBounds_toArray, List.set_cons_zero, List.set_cons_succ]
          refine wpAnyH_take (i := 5) (oi := { dst := some 35, op := Op.move (Operand.tmp 0), type := 22, pos := "ref.go:648", after := #[], guard := none }) (v := ?_) rfl (by kernel_rfl) (by kernel_rfl) (by kernel_rfl) (fun _ _ _ h => h) (Or.inl ⟨by rfl, ?_⟩) (by assumption) ?_
          rotate_left
          · (intro w hSw; (try dsimp only at hSw); go_simp; try with_reducible rfl)
          try simp only [Act.put, List.setIfInBounds_toArray, List.set_cons_zero, List.set_cons_succ]
          refine wpAnyH_take (i := 6) (oi := { dst := some 36, op := Op.move (Operand.tmp 5), type := 3, pos := "ref.go:648", after := #[], guard := none }) (v := ?_) rfl (by kernel_rfl) (by kernel_rfl) (by kernel_rfl) (fun _ _ _ h => h) (Or.inl ⟨by rfl, ?_⟩) (by assumption) ?_
          rotate_left
          · (intro w hSw; (try dsimp only at hSw); go_simp; try with_reducible rfl)
          try simp only [Act.put, List.setIfInBounds_toArray, List.set_cons_zero, List.set_cons_succ]
          refine wpAnyH_take (i := 7) (oi := { dst := some 37, op := Op.indexAddr 22 (Operand.tmp 35) (Operand.tmp 36), type := 0, pos := "ref.go:648", after := #[{ on := 5, ground := Ground.data }, { on := 6, ground := Ground.data }], guard := none }) (v := ?_) rfl (by kernel_rfl) (by kernel_rfl) (by kernel_rfl) (fun _ _ _ h => h) (Or.inl ⟨by rfl, ?_⟩) (by assumption) ?_
          rotate_left
          · (intro w hSw; (try dsimp only at hSw); go_simp; try with_reducible rfl)
          try simp only [Act.put, List.setIfInBounds_toArray, List.set_cons_zero, List.set_cons_succ]
          refine wpAnyH_take (i := 8) (oi := { dst := some 38, op := Op.load 9 (Operand.tmp 37), type := 9, pos := "ref.go:648", after := #[{ on := 7, ground := Ground.data }], guard := none }) (v := ?_) rfl (by kernel_rfl) (by kernel_rfl) (by kernel_rfl) (fun _ _ _ h => h) (Or.inl ⟨by rfl, ?_⟩) (by assumption) ?_
          rotate_left
          · (intro w hSw; (try dsimp only at hSw); go_simp; try with_reducible rfl)
          try simp only [Act.put, List.setIfInBounds_toArray, List.set_cons_zero, List.set_cons_succ]
          refine wpAnyH_ready (rs := [0, 9]) (by kernel_rfl) (by simp) ?_
          refine AllReadyH.cons (o := { dst := some 30, op := Op.buildSlice 22 0 #[], type := 22, pos := "ref.go:648", after := #[], guard := none }) rfl (fun K hK => ?_) ?_
          · skip
            go_simp
            have hO0 := own0 wd
            have hB0 := (Below.refl _ wd).alloc (Nat.le_refl _) (.cells #[] 9)
            obtain ⟨g30, hg30⟩ : ∃ g, wd.heap.size = g := ⟨_, rfl⟩
            have hge : w1.heap.size ≤ g30 := by rw [← hg30]; exact Bwd.out.size
            rw [hg30] at hO0 ⊢
            generalize wd.alloc (.cells #[] 9) = v1 at hO0 hB0 ⊢
            have Ov1 : Hid (v1.ownsRow w1.heap.size 9 1 (.slice (some ⟨g30, 0, none⟩) 0 0) ([] : List Str).length (([] : List Str).map encStr)) := Lib.hid (own_mono hO0 hge)
            have Bv1 := Lib.hid (Bwd.out.trans (hB0.mono Bwd.out.size))
            clear hO0 hB0 hg30
            refine hK.out _ _ ?_ (fun hHeld => ?_)
            · exact (World.cell?_of_block (Bv1.out.block _ (block_lt_of_cell c1))).trans c1
            clear hK K
            try simp only [Act.put, List.setIfInBounds_toArray, List.set_cons_zero, List.set_cons_succ]
            refine wpAnyH_ready (rs := [4, 9]) (by kernel_rfl) (by simp) ?_
            refine AllReadyH.cons (o := { dst := some 34, op := Op.call { callee := Callee.builtin Builtin.append, args := #[Operand.tmp 30, Operand.tmp 33], argTypes := #[22, 22] }, type := 22, pos := "ref.go:648", after := #[{ on := 0, ground := Ground.data }, { on := 3, ground := Ground.data }], guard := none }) rfl (fun K hK => ?_) ?_
            · skip
              refine oper_wapp (.tmp 30) (.tmp 33) rfl rfl w1.heap.size _ [] (W.take f) rfl Ov1.out A f c rfl hA0 ((HRW1.out.below Bv1.out).take f) HTF.out (by simp; omega) Bv1.out.size ?_
              intro v34 v2 hO hg
              have Bv2 := Lib.hid (Bv1.out.grown hg Bv1.out.size (fun q hq => (Ov1.out.lt q hq).1))
              have Ov2 : Hid (v2.ownsRow w1.heap.size 9 1 v34 (W.take f).length ((W.take f).map encStr)) := Lib.hid (by simpa using hO)
              clear hO hg
              refine hK.out _ _ ?_ (fun hHeld => ?_)
              · exact (World.cell?_of_block (Bv2.out.block _ (block_lt_of_cell c1))).trans c1
              clear hK K
              try simp only [Act.put, List.setIfInBounds_toArray, List.set_cons_zero, List.set_cons_succ]
              refine wpAnyH_ready (rs := [9]) (by kernel_rfl) (by simp) ?_
              refine AllReadyH.cons (o := { dst := some 39, op := Op.buildSlice 22 1 #[(0, Operand.tmp 38)], type := 22, pos := "ref.go:648", after := #[{ on := 8, ground := Ground.data }], guard := none }) rfl (fun K hK => ?_) ?_
              · skip
                go_simp
                have hX9 := rw_alloc v2 #[encStr x] [x] rfl
                have hB9 := (Below.refl _ v2).alloc (Nat.le_refl _) (.cells #[encStr x] 9)
                obtain ⟨b39, hb39⟩ : ∃ g, v2.heap.size = g := ⟨_, rfl⟩
                rw [hb39] at hX9 ⊢
                generalize v2.alloc (.cells #[encStr x] 9) = v3 at hX9 hB9 ⊢
                have Xv3 := Lib.hid hX9
                have Bv3 := Lib.hid (Bv2.out.trans (hB9.mono Bv2.out.size))
                have Ov3 := Lib.hid (own_below Ov2.out hB9)
                clear hX9 hB9 hb39
                refine hK.out _ _ ?_ (fun hHeld => ?_)
                · exact (World.cell?_of_block (Bv3.out.block _ (block_lt_of_cell c1))).trans c1
                clear hK K
                try simp only [Act.put, List.setIfInBounds_toArray, List.set_cons_zero, List.set_cons_succ]
                refine wpAnyH_ready (rs := [10]) (by kernel_rfl) (by simp) ?_
                refine AllReadyH.cons (o := { dst := some 40, op := Op.call { callee := Callee.builtin Builtin.append, args := #[Operand.tmp 34, Operand.tmp 39], argTypes := #[22, 22] }, type := 22, pos := "ref.go:648", after := #[{ on := 4, ground := Ground.data }, { on := 9, ground := Ground.data }, { on := 4, ground := Ground.chain }], guard := none }) rfl (fun K hK => ?_) ?_
                · skip
                  refine oper_wapp (.tmp 34) (.tmp 39) rfl rfl w1.heap.size _ (W.take f) [x] rfl Ov3.out (some ⟨b39, 0, none⟩) 1 1 rfl (fun h => by cases h) Xv3.out rfl (by rw [HTF.out]; omega) Bv3.out.size ?_
                  intro v40 v4 hO hg
                  have Bv4 := Lib.hid (Bv3.out.grown hg Bv3.out.size (fun q hq => (Ov3.out.lt q hq).1))
                  have Ov4 := Lib.hid hO
                  clear hO hg
                  refine hK.out _ _ ?_ (fun hHeld => ?_)
                  · exact (World.cell?_of_block (Bv4.out.block _ (block_lt_of_cell c1))).trans c1
                  clear hK K
                  try simp only [Act.put, List.setIfInBounds_toArray, List.set_cons_zero, List.set_cons_succ]
                  refine wpAnyH_take (i := 11) (oi := { dst := some 8, op := Op.assign (Operand.tmp 40), type := 22, pos := "ref.go:648", after := #[{ on := 10, ground := Ground.data }, { on := 10, ground := Ground.chain }, { on := 0, ground := Ground.phase }, { on := 1, ground := Ground.phase }, { on := 2, ground := Ground.phase }, { on := 3, ground := Ground.phase }, { on := 4, ground := Ground.phase }, { on := 5, ground := Ground.phase }, { on := 6, ground := Ground.phase }, { on := 7, ground := Ground.phase }, { on := 8, ground := Ground.phase }, { on := 9, ground := Ground.phase }, { on := 10, ground := Ground.phase }], guard := none }) (v := ?_) rfl (by kernel_rfl) (by kernel_rfl) (by kernel_rfl) (fun _ _ _ h => h) (Or.inl ⟨by rfl, ?_⟩) (by assumption) ?_
                  rotate_left
                  · (intro w hSw; (try dsimp only at hSw); go_simp; try with_reducible rfl)
                  try simp only [Act.put, List.setIfInBounds_toArray, List.set_cons_zero, List.set_cons_succ]
                  refine wpAnyH_done (by kernel_rfl) ?_ _
                  refine NoPanic.normal ?_
                  exact ⟨rfl, v40, _, _, _, _, _, _, _, _, _, _, _, rfl, Lib.hid ⟨Ov4.out, Bv4.out⟩⟩
                exact AllReadyH.nil
              exact AllReadyH.nil
            refine AllReadyH.cons (o := { dst := some 39, op := Op.buildSlice 22 1 #[(0, Operand.tmp 38)], type := 22, pos := "ref.go:648", after := #[{ on := 8, ground := Ground.data }], guard := none }) rfl (fun K hK => ?_) ?_
            · skip
              go_simp
              have hX9 := rw_alloc v1 #[encStr x] [x] rfl
              have hB9 := (Below.refl _ v1).alloc (Nat.le_refl _) (.cells #[encStr x] 9)
              obtain ⟨b39, hb39⟩ : ∃ g, v1.heap.size = g := ⟨_, rfl⟩
              rw [hb39] at hX9 ⊢
              generalize v1.alloc (.cells #[encStr x] 9) = v2 at hX9 hB9 ⊢
              have Xv2 := Lib.hid hX9
              have Bv2 := Lib.hid (Bv1.out.trans (hB9.mono Bv1.out.size))
              have Ov2 := Lib.hid (own_below Ov1.out hB9)
              have hgb : g30 ≠ b39 := by have := (Ov1.out.lt g30 rfl).2; omega
              clear hX9 hB9 hb39
              refine hK.out _ _ ?_ (fun hHeld => ?_)
              · exact (World.cell?_of_block (Bv2.out.block _ (block_lt_of_cell c1))).trans c1
              clear hK K
              try simp only [Act.put, List.setIfInBounds_toArray, List.set_cons_zero, List.set_cons_succ]
              refine wpAnyH_ready (rs := [4]) (by kernel_rfl) (by simp) ?_
              refine AllReadyH.cons (o := { dst := some 34, op := Op.call { callee := Callee.builtin Builtin.append, args := #[Operand.tmp 30, Operand.tmp 33], argTypes := #[22, 22] }, type := 22, pos := "ref.go:648", after := #[{ on := 0, ground := Ground.data }, { on := 3, ground := Ground.data }], guard := none }) rfl (fun K hK => ?_) ?_
              · skip
                refine oper_wapp (.tmp 30) (.tmp 33) rfl rfl w1.heap.size _ [] (W.take f) rfl Ov2.out A f c rfl hA0 ((HRW1.out.below Bv2.out).take f) HTF.out (by simp; omega) Bv2.out.size ?_
                intro v34 v3 hO hg
                have Bv3 := Lib.hid (Bv2.out.grown hg Bv2.out.size (fun q hq => (Ov2.out.lt q hq).1))
                have Ov3 : Hid (v3.ownsRow w1.heap.size 9 1 v34 (W.take f).length ((W.take f).map encStr)) := Lib.hid (by simpa using hO)
                have Xv3 := Lib.hid (Xv2.out.grown hg (fun e => hgb (by cases e; rfl)))
                clear hO hg
                refine hK.out _ _ ?_ (fun hHeld => ?_)
                · exact (World.cell?_of_block (Bv3.out.block _ (block_lt_of_cell c1))).trans c1
                clear hK K
                try simp only [Act.put, List.setIfInBounds_toArray, List.set_cons_zero, List.set_cons_succ]
                refine wpAnyH_ready (rs := [10]) (by kernel_rfl) (by simp) ?_
                refine AllReadyH.cons (o := { dst := some 40, op := Op.call { callee := Callee.builtin Builtin.append, args := #[Operand.tmp 34, Operand.tmp 39], argTypes := #[22, 22] }, type := 22, pos := "ref.go:648", after := #[{ on := 4, ground := Ground.data }, { on := 9, ground := Ground.data }, { on := 4, ground := Ground.chain }], guard := none }) rfl (fun K hK => ?_) ?_
                · skip
                  refine oper_wapp (.tmp 34) (.tmp 39) rfl rfl w1.heap.size _ (W.take f) [x] rfl Ov3.out (some ⟨b39, 0, none⟩) 1 1 rfl (fun h => by cases h) Xv3.out rfl (by rw [HTF.out]; omega) Bv3.out.size ?_
                  intro v40 v4 hO hg
                  have Bv4 := Lib.hid (Bv3.out.grown hg Bv3.out.size (fun q hq => (Ov3.out.lt q hq).1))
                  have Ov4 := Lib.hid hO
                  clear hO hg
                  refine hK.out _ _ ?_ (fun hHeld => ?_)
                  · exact (World.cell?_of_block (Bv4.out.block _ (block_lt_of_cell c1))).trans c1
                  clear hK K
                  try simp only [Act.put, List.setIfInBounds_toArray, List.set_cons_zero, List.set_cons_succ]
                  refine wpAnyH_take (i := 11) (oi := { dst := some 8, op := Op.assign (Operand.tmp 40), type := 22, pos := "ref.go:648", after := #[{ on := 10, ground := Ground.data }, { on := 10, ground := Ground.chain }, { on := 0, ground := Ground.phase }, { on := 1, ground := Ground.phase }, { on := 2, ground := Ground.phase }, { on := 3, ground := Ground.phase }, { on := 4, ground := Ground.phase }, { on := 5, ground := Ground.phase }, { on := 6, ground := Ground.phase }, { on := 7, ground := Ground.phase }, { on := 8, ground := Ground.phase }, { on := 9, ground := Ground.phase }, { on := 10, ground := Ground.phase }], guard := none }) (v := ?_) rfl (by kernel_rfl) (by kernel_rfl) (by kernel_rfl) (fun _ _ _ h => h) (Or.inl ⟨by rfl, ?_⟩) (by assumption) ?_
                  rotate_left
                  · (intro w hSw; (try dsimp only at hSw); go_simp; try with_reducible rfl)
                  try simp only [Act.put, List.setIfInBounds_toArray, List.set_cons_zero, List.set_cons_succ]
                  refine wpAnyH_done (by kernel_rfl) ?_ _
                  refine NoPanic.normal ?_
                  exact ⟨rfl, v40, _, _, _, _, _, _, _, _, _, _, _, rfl, Lib.hid ⟨Ov4.out, Bv4.out⟩⟩
                exact AllReadyH.nil
              exact AllReadyH.nil
            exact AllReadyH.nil
          refine AllReadyH.cons (o := { dst := some 39, op := Op.buildSlice 22 1 #[(0, Operand.tmp 38)], type := 22, pos := "ref.go:648", after := #[{ on := 8, ground := Ground.data }], guard := none }) rfl (fun K hK => ?_) ?_
          · skip
            go_simp
            have hX9 := rw_alloc wd #[encStr x] [x] rfl
            have hB9 := (Below.refl _ wd).alloc (Nat.le_refl _) (.cells #[encStr x] 9)
            obtain ⟨b39, hb39⟩ : ∃ g, wd.heap.size = g := ⟨_, rfl⟩
            rw [hb39] at hX9 ⊢
            generalize wd.alloc (.cells #[encStr x] 9) = v1 at hX9 hB9 ⊢
            have Xv1 := Lib.hid hX9
            have Bv1 := Lib.hid (Bwd.out.trans (hB9.mono Bwd.out.size))
            clear hX9 hB9 hb39
            refine hK.out _ _ ?_ (fun hHeld => ?_)
            · exact (World.cell?_of_block (Bv1.out.block _ (block_lt_of_cell c1))).trans c1
            clear hK K
            try simp only [Act.put, List.setIfInBounds_toArray, List.set_cons_zero, List.set_cons_succ]
            refine wpAnyH_ready (rs := [0]) (by kernel_rfl) (by simp) ?_
            refine AllReadyH.cons (o := { dst := some 30, op := Op.buildSlice 22 0 #[], type := 22, pos := "ref.go:648", after := #[], guard := none }) rfl (fun K hK => ?_) ?_
            · skip
              go_simp
              have hO0 := own0 v1
              have hB0 := (Below.refl _ v1).alloc (Nat.le_refl _) (.cells #[] 9)
              obtain ⟨g30, hg30⟩ : ∃ g, v1.heap.size = g := ⟨_, rfl⟩
              have hge : w1.heap.size ≤ g30 := by rw [← hg30]; exact Bv1.out.size
              rw [hg30] at hO0 ⊢
              generalize v1.alloc (.cells #[] 9) = v2 at hO0 hB0 ⊢
              have Ov2 : Hid (v2.ownsRow w1.heap.size 9 1 (.slice (some ⟨g30, 0, none⟩) 0 0) ([] : List Str).length (([] : List Str).map encStr)) := Lib.hid (own_mono hO0 hge)
              have Bv2 := Lib.hid (Bv1.out.trans (hB0.mono Bv1.out.size))
              have Xv2 := Lib.hid (Xv1.out.below hB0)
              have hgb : g30 ≠ b39 := by have := Xv1.out.lt; omega
              clear hO0 hB0 hg30
              refine hK.out _ _ ?_ (fun hHeld => ?_)
              · exact (World.cell?_of_block (Bv2.out.block _ (block_lt_of_cell c1))).trans c1
              clear hK K
              try simp only [Act.put, List.setIfInBounds_toArray, List.set_cons_zero, List.set_cons_succ]
              refine wpAnyH_ready (rs := [4]) (by kernel_rfl) (by simp) ?_
              refine AllReadyH.cons (o := { dst := some 34, op := Op.call { callee := Callee.builtin Builtin.append, args := #[Operand.tmp 30, Operand.tmp 33], argTypes := #[22, 22] }, type := 22, pos := "ref.go:648", after := #[{ on := 0, ground := Ground.data }, { on := 3, ground := Ground.data }], guard := none }) rfl (fun K hK => ?_) ?_
              · skip
                refine oper_wapp (.tmp 30) (.tmp 33) rfl rfl w1.heap.size _ [] (W.take f) rfl Ov2.out A f c rfl hA0 ((HRW1.out.below Bv2.out).take f) HTF.out (by simp; omega) Bv2.out.size ?_
                intro v34 v3 hO hg
                have Bv3 := Lib.hid (Bv2.out.grown hg Bv2.out.size (fun q hq => (Ov2.out.lt q hq).1))
                have Ov3 : Hid (v3.ownsRow w1.heap.size 9 1 v34 (W.take f).length ((W.take f).map encStr)) := Lib.hid (by simpa using hO)
                have Xv3 := Lib.hid (Xv2.out.grown hg (fun e => hgb (by cases e; rfl)))
                clear hO hg
                refine hK.out _ _ ?_ (fun hHeld => ?_)
                · exact (World.cell?_of_block (Bv3.out.block _ (block_lt_of_cell c1))).trans c1
                clear hK K
                try simp only [Act.put, List.setIfInBounds_toArray, List.set_cons_zero, List.set_cons_succ]
                refine wpAnyH_ready (rs := [10]) (by kernel_rfl) (by simp) ?_
                refine AllReadyH.cons (o := { dst := some 40, op := Op.call { callee := Callee.builtin Builtin.append, args := #[Operand.tmp 34, Operand.tmp 39], argTypes := #[22, 22] }, type := 22, pos := "ref.go:648", after := #[{ on := 4, ground := Ground.data }, { on := 9, ground := Ground.data }, { on := 4, ground := Ground.chain }], guard := none }) rfl (fun K hK => ?_) ?_
                · skip
                  refine oper_wapp (.tmp 34) (.tmp 39) rfl rfl w1.heap.size _ (W.take f) [x] rfl Ov3.out (some ⟨b39, 0, none⟩) 1 1 rfl (fun h => by cases h) Xv3.out rfl (by rw [HTF.out]; omega) Bv3.out.size ?_
                  intro v40 v4 hO hg
                  have Bv4 := Lib.hid (Bv3.out.grown hg Bv3.out.size (fun q hq => (Ov3.out.lt q hq).1))
                  have Ov4 := Lib.hid hO
                  clear hO hg
                  refine hK.out _ _ ?_ (fun hHeld => ?_)
                  · exact (World.cell?_of_block (Bv4.out.block _ (block_lt_of_cell c1))).trans c1
                  clear hK K
                  try simp only [Act.put, List.setIfInBounds_toArray, List.set_cons_zero, List.set_cons_succ]
                  refine wpAnyH_take (i := 11) (oi := { dst := some 8, op := Op.assign (Operand.tmp 40), type := 22, pos := "ref.go:648", after := #[{ on := 10, ground := Ground.data }, { on := 10, ground := Ground.chain }, { on := 0, ground := Ground.phase }, { on := 1, ground := Ground.phase }, { on := 2, ground := Ground.phase }, { on := 3, ground := Ground.phase }, { on := 4, ground := Ground.phase }, { on := 5, ground := Ground.phase }, { on := 6, ground := Ground.phase }, { on := 7, ground := Ground.phase }, { on := 8, ground := Ground.phase }, { on := 9, ground := Ground.phase }, { on := 10, ground := Ground.phase }], guard := none }) (v := ?_) rfl (by kernel_rfl) (by kernel_rfl) (by kernel_rfl) (fun _ _ _ h => h) (Or.inl ⟨by rfl, ?_⟩) (by assumption) ?_
                  rotate_left
                  · (intro w hSw; (try dsimp only at hSw); go_simp; try with_reducible rfl)
                  try simp only [Act.put, List.setIfInBounds_toArray, List.set_cons_zero, List.set_cons_succ]
                  refine wpAnyH_done (by kernel_rfl) ?_ _
                  refine NoPanic.normal ?_
                  exact ⟨rfl, v40, _, _, _, _, _, _, _, _, _, _, _, rfl, Lib.hid ⟨Ov4.out, Bv4.out⟩⟩
                exact AllReadyH.nil
              exact AllReadyH.nil
            exact AllReadyH.nil
          exact AllReadyH.nil
        rintro e2 a2 w2 ⟨rfl, v8, u30, u31, u32, u33, u34, u35, u36, u37, u38, u39, u40, rfl, HP⟩
        have HW2 := Lib.hid (HR.out.bel.trans ((HB1.out.trans (HP.out.2.mono HB1.out.size)).mono HR.out.bel.size))
        have HRW2 := Lib.hid (HRW1.out.below HP.out.2)
        have HO2 : Hid (w2.ownsRow w.heap.size 9 1 v8 (W.take f ++ [x]).length ((W.take f ++ [x]).map encStr)) := Lib.hid (own_mono HP.out.1 ((HR.out.bel.trans (HB1.out.mono HR.out.bel.size)).size))
        have HPUT : Hid (W.take f ++ [x] ++ W.drop f = put1 W x) := Lib.hid (by unfold put1; rw [HF.out])
        have hin : ∀ v' w5, w5.ownsRow w.heap.size 9 1 v' (W.take f ++ [x] ++ W.drop f).length ((W.take f ++ [x] ++ W.drop f).map encStr) → w2.grownBy w5 v8.ownBlock → RBl w w5 l (put1 W x) (i + 1) v' := fun v' w5 ho hg => by
          rw [HPUT.out] at ho
          exact ⟨by rw [HTK.out]; exact wds_put HR.out.wds (by rw [HF.out]; exact HH.out), by rw [put1_len]; have := HR.out.len; omega, ho, HW2.out.grown hg HW2.out.size (fun q hq => (HO2.out.lt q hq).1)⟩
        have HIN := Lib.hid hin
        have hlen1 : Hid ((W.take f ++ [x]).length + (k - f) ≤ 200000) := Lib.hid (by have := HTF.out; rw [List.length_append]; simp only [List.length_cons, List.length_nil]; omega)
        clear hin
        by_cases hcf : c = f
        · have HD0 : Hid (W.drop f = []) := Lib.hid (List.drop_eq_nil_of_le (by rw [HK.out]; omega))
          have hkf : k = f := by omega
          subst hcf
          subst hkf
          go_wp2_with (refine wpList_wapp rfl (.tmp 41) (.tmp 44) rfl rfl w.heap.size _ (W.take k ++ [x]) (W.drop k) rfl HO2.out A 0 0 rfl (fun _ => rfl) (by rw [HD0.out]; exact fun j y h => by simp at h) (by rw [HD0.out]; rfl) (by have := hlen1.out; omega) HW2.out.size ?_)
          intro v' w5 ho hg
          have HN := Lib.hid (HIN.out v' w5 (by simpa using ho) hg)
          clear ho hg
          go_wp2_with fail
          exact ⟨⟨i + 1, put1 W x, by omega, rfl, HN⟩, by simp [intO]; omega⟩
        · cases A with
          | none => exact absurd (hA0 rfl) (by omega)
          | some Y =>
            have HRD := Lib.hid (HRW2.out.drop f)
            go_wp2_with (refine wpList_wapp rfl (.tmp 41) (.tmp 44) rfl rfl w.heap.size _ (W.take f ++ [x]) (W.drop f) rfl HO2.out (some (Y.add f)) (k - f) (c - f) rfl (fun h => by cases h) HRD.out HDF.out hlen1.out HW2.out.size ?_)
            intro v' w5 ho hg
            have HN := Lib.hid (HIN.out v' w5 (by simpa using ho) hg)
            clear ho hg
            go_wp2_with fail
            exact ⟨⟨i + 1, put1 W x, by omega, rfl, HN⟩, by simp [intO]; omega⟩
    · obtain rfl : i = n := by omega
      have d1 : decide ((i : Int) < i) = false := by simp
      have d1' : decide (i < i) = false := by simp
      obtain ⟨A, c, rfl, hrw, hkc, hcm, hA0⟩ := own_rw' HR.out.own
      obtain ⟨k, hk⟩ : ∃ k, W.length = k := ⟨_, rfl⟩
      have HK := Lib.hid hk
      have hki : k ≤ i := by rw [← hk]; exact HR.out.len
      have HRW := Lib.hid hrw
      have HWD : Hid (Wds l W) := Lib.hid (by have := HR.out.wds; rwa [List.take_of_length_le (by rw [HL.out]; exact Nat.le_refl _)] at this)
      have HBW := Lib.hid HR.out.bel
      have HP : Hid ((plc l W).length = i) := Lib.hid (by unfold plc; rw [List.length_map]; exact HL.out)
      clear hrw hk hkc hcm hA0
      rename World => w2
      go_wp2_with (rw [HK.out])
      go_loopw [9, 10] (fun t9 t10 wr => ∃ j : Nat, j ≤ i ∧ t10 = .int .i64 j ∧ Hid (wr.ownsRow w2.heap.size 39 1 t9 j (((plc l W).take j).map u64v)) ∧ Hid (Below w2.heap.size w2 wr)) (fun _ t10 _ => i - (intO t10).toNat)
      case atStart => exact ⟨0, Nat.zero_le _, rfl, Lib.hid (World.ownsRow_nil w2 _ 39 1), Lib.hid (Below.refl _ _)⟩
      case round =>
        obtain ⟨j, hj, rfl, HO, HV⟩ := hrel
        by_cases hlt2 : j < i
        · have d2 : decide ((j : Int) < i) = true := decide_eq_true (by omega)
          have d2' : decide (j < i) = true := decide_eq_true hlt2
          obtain ⟨x, hx⟩ : ∃ x, l[j]? = some x := ⟨_, List.getElem?_eq_getElem (by rw [HL.out]; exact hlt2)⟩
          obtain ⟨X, hX, k0⟩ := ((HA.out.below HBW.out).below HV.out) j x hx
          subst hX
          have hxW : x ∈ W := (HWD.out.mem x).2 (List.mem_of_getElem? hx)
          obtain ⟨p, hp⟩ : ∃ p, fnd W x = p := ⟨_, rfl⟩
          have hpp : (plc l W)[j]? = some p := by unfold plc; rw [List.getElem?_map, hx, ← hp, fnd_idx HWD.out.up hxW]; rfl
          have hpk : p ≤ k := by rw [← hp, ← HK.out]; exact fnd_le W x
          have HPP : Hid ((plc l W).take (j + 1) = (plc l W).take j ++ [p]) := Lib.hid (by rw [List.take_add_one, hpp]; rfl)
          have HF := Lib.hid hp
          have s1 : IntKind.u64.wrap (p : Int) = p := wrapu (by omega) (by omega)
          clear hx hxW hp hpp
          go_wp2_with fail
          refine (Try.find A k c wr W x HK.out (HRW.out.below HV.out) (by omega)).mono ?_
          rintro e3 w3 ⟨rfl, hb3⟩
          rw [HF.out]
          have HB3 := Lib.hid (HV.out.trans (hb3.mono HV.out.size))
          have HO3 := Lib.hid (own_below HO.out hb3)
          clear hb3
          have OA := Lib.hid (HO3.out.alloc (.cells #[.int .u64 (p : Int)] 39))
          have BA := Lib.hid (HB3.out.alloc HB3.out.size (.cells #[.int .u64 (p : Int)] 39))
          have CA : Hid (∀ j' u, ([p].map u64v)[j']? = some u → (w3.alloc (.cells #[.int .u64 (p : Int)] 39)).cell? ((⟨w3.heap.size, 0, none⟩ : Addr).add j') = some u) := Lib.hid (by
            intro j' u hu
            rw [add_none, Nat.zero_add, cell_of_row _ _ _ _ 39 (0, 0) (heap_alloc_new _ _)]
            have h2 : ([Value.int .u64 (p : Int)])[j']? = some u := hu
            simpa using h2)
          have H1 : Hid (∀ u ∈ [p].map u64v, u.oneCell' = true) := Lib.hid (by intro u hu; simp at hu; subst hu; rfl)
          go_wp2_with (at_builtin; refine wpList_append_own _ rfl (.tmp 61) (.tmp 64) 25 rfl w2.heap.size 39 i39 (.int .u64 0) 1 8 Try.underlying25 hi39 hz0 hz1 hz2 rfl (by decide) _ _ _ rfl (OA.out) _ _ _ ([p].map u64v) rfl rfl (CA.out) H1.out ?a1 ?a2 (BA.out).size ?a3)
          case a1 => unfold maxLen; omega
          case a2 => omega
          intro v' w5 ho5 hg5 _
          have H5 := Lib.hid (BA.out.grown hg5 (BA.out).size (fun q hq => (OA.out.lt q hq).1))
          have O5 : Hid (w5.ownsRow w2.heap.size 39 1 v' (j + 1) (((plc l W).take (j + 1)).map u64v)) := Lib.hid (by rw [HPP.out]; simpa [List.map_append, List.map_take] using ho5)
          clear ho5 hg5
          go_wp2_with fail
          exact ⟨⟨j + 1, by omega, rfl, O5, H5⟩, by simp [intO]; omega⟩
        · obtain rfl : j = i := by omega
          have d2 : decide ((j : Int) < j) = false := by simp
          have d2' : decide (j < j) = false := by simp
          have hO := HO.out
          rw [List.take_of_length_le (by rw [HP.out]; exact Nat.le_refl _)] at hO
          obtain ⟨B, c', rfl, hdu⟩ := own_du HP.out hO
          have HDU := Lib.hid hdu
          have HR9 := Lib.hid (HRW.out.below HV.out)
          have HB9 := Lib.hid (HBW.out.trans (HV.out.mono HBW.out.size))
          clear hO hdu
          go_wp2_with fail
          go_ret2
          exact ⟨W, A, B, k, c, c', rfl, HK.out, HWD.out, HR9.out, HDU.out, HB9.out⟩
end Go.Proofs
end

section
namespace Go.Proofs
open Go.RowKit NT Go.Shelf Go.Lib Go.Sort
set_option maxRecDepth 100000
theorem oper_ob_str {o : Oper} {a : Act} {w : World} {K : Act → World → Prop} {Q : Exit → Act → World → Prop} (sl x : Operand)
    (ho : o.op = .call { callee := .builtin .append, args := #[sl, x], argTypes := #[28, 9] }) (hty : o.type = 28)
    (w0 : World) (v : Value) (l l2 : List UInt8) (hs : a.eval sl = v) (hown : OB w w0.heap.size v l) (hx : a.eval x = encStr l2)
    (hsum : l.length + l2.length ≤ 16777216) (hb : Below w0.heap.size w0 w)
    (h : ∀ v' w', OB w' w0.heap.size v' (l ++ l2) → Below w0.heap.size w0 w' → K (a.put o.dst v') w') : o.wp Try.prog a w K Q := by
  obtain ⟨ii, hi0, hz0, hz1, hz2⟩ := info5
  have hown' : w.ownsRow w0.heap.size 5 1 v l.length (l.map u8v) := hown
  have hsz : (strOf l2).size = l2.length := strOf_size l2
  have hx' : a.eval x = .string (strOf l2) := hx
  obtain ⟨v', w', hr, h2, h3, h4⟩ := run_append_own_string (P := Try.prog) w w0.heap.size 28 9 o.type 5 ii Try.underlying28 Try.underlying9 hi0 hz0 hz1 hz2 v l.length (l.map u8v) hown' (strOf l2) (by rw [hsz]; unfold maxLen; omega) (by rw [hsz]; omega) hb.size
  unfold Oper.wp execOp
  simp only [ho, resolve, invoke, builtin, Sem.run_bind, Sem.run_pure, Result.andThen_ok, List.map_toArray, List.map_cons, List.map_nil, hs, hx', hr]
  refine h v' w' ?_ (hb.grown h3 hb.size (fun k hk => (hown'.lt k hk).1))
  unfold OB
  rw [List.length_append, List.map_append]
  rw [hsz, strCells_u8v] at h2
  exact h2
set_option maxHeartbeats 8000000 in
theorem Try.rputw (a : Option Addr) (n m : Nat) (w : World) (l S : List Str) (hl : l.length = n) (ha : RW w a l) (hS : Wds l S) (hn : n ≤ 100) (hs4 : ∀ x ∈ l, x.length ≤ 400) :
    Calls Try.prog 11 #[.slice a n m] w (DPut w l S) := by
  have HA := Lib.hid ha
  have HL := Lib.hid hl
  have HS := Lib.hid hS
  have HS4 := Lib.hid hs4
  have d1 : decide ((4096 : Int) < n) = false := decide_eq_false (by omega)
  have d1' : decide (4096 < n) = false := decide_eq_false (by omega)
  clear ha hl hS hs4
  go_enter Try.func11, Try.ntmps11
  go_wp2_with fail
  go_loopw [4] (fun t wr => ∃ i : Nat, i ≤ n ∧ t = .int .i64 i ∧ Hid (∀ x ∈ l.take i, x.length ≤ 255) ∧ Hid (Below w.heap.size w wr)) (fun t _ => n - (intO t).toNat)
  case atStart => exact ⟨0, Nat.zero_le _, rfl, Lib.hid (by simp), Lib.hid (Below.refl _ _)⟩
  case round =>
    obtain ⟨i, hi, rfl, HX, HW⟩ := hrel
    by_cases hlt : i < n
    · have d2 : decide ((i : Int) < n) = true := decide_eq_true (by omega)
      have d2' : decide (i < n) = true := decide_eq_true hlt
      obtain ⟨x, hx⟩ : ∃ x, l[i]? = some x := ⟨_, List.getElem?_eq_getElem (by rw [HL.out]; exact hlt)⟩
      obtain ⟨X, hX, k0⟩ := (HA.out.below HW.out) i x hx
      subst hX
      have HXX := Lib.hid hx
      clear hx
      by_cases h255 : 255 < x.length
      · have d3 : decide ((255 : Int) < x.length) = true := decide_eq_true (by omega)
        have d3' : decide (255 < x.length) = true := decide_eq_true h255
        have HN : Hid (¬ (l.length ≤ 4096 ∧ ∀ x ∈ S, x.length ≤ 255)) := Lib.hid fun q => by have := q.2 x ((HS.out.mem x).2 (List.mem_of_getElem? HXX.out)); omega
        clear h255
        go_wp2_with fail
        go_ret2
        exact ⟨HW.out, .inr ⟨HN.out, rfl⟩⟩
      · have d3 : decide ((255 : Int) < x.length) = false := decide_eq_false (by omega)
        have d3' : decide (255 < x.length) = false := decide_eq_false h255
        have HX2 : Hid (∀ y ∈ l.take (i + 1), y.length ≤ 255) := Lib.hid (by
          intro y hy
          rw [List.take_add_one, HXX.out, List.mem_append] at hy
          rcases hy with hy | hy
          · exact HX.out y hy
          · simp at hy; subst hy; omega)
        clear h255
        go_wp2_with fail
        exact ⟨⟨i + 1, by omega, rfl, HX2, HW⟩, by simp [intO]; omega⟩
    · obtain rfl : i = n := by omega
      have d2 : decide ((i : Int) < i) = false := by simp
      have d2' : decide (i < i) = false := by simp
      rename World => w0
      have HXS : Hid (∀ x ∈ S, x.length ≤ 255) := Lib.hid fun x hx => HX.out x (by rw [List.take_of_length_le (by rw [HL.out]; exact Nat.le_refl _)]; exact (HS.out.mem x).1 hx)
      go_wp2_with fail
      refine (Try.rbuild a i m w0 l HL.out (HA.out.below HW.out) (by omega)).mono ?_
      rintro e1 w1 ⟨W, A, B, k, c, c', rfl, hk, hW, hrw, hdu, hb1⟩
      have hWS : W = S := sup_unique hW.up HS.out.up fun x => (hW.mem x).trans (HS.out.mem x).symm
      subst hWS
      have hki : k ≤ i := by rw [← hk]; have := hW.len; have := HL.out; omega
      have HK := Lib.hid hk
      have HRW := Lib.hid hrw
      have HDU := Lib.hid hdu
      have HB1 := Lib.hid (HW.out.trans (hb1.mono HW.out.size))
      have s1 : IntKind.u64.wrap (k : Int) = k := wrapu (by omega) (by omega)
      clear hk hW hrw hdu hb1
      go_wp2_with fail
      refine (Try.rput w1 (DI.nil0 w1) (by omega) k (by omega)).mono ?_
      rintro e2 w2 ⟨v2, rfl, ho2, hb2⟩
      rw [List.nil_append] at ho2
      have HO2 := Lib.hid ho2
      have HB2 := Lib.hid hb2
      clear ho2 hb2
      go_wp2_with fail
      go_loopw [7, 8] (fun t7 t8 wr => ∃ i : Nat, i ≤ k ∧ t8 = .int .i64 i ∧ Hid (OB wr w1.heap.size t7 (encN k ++ encS (W.take i))) ∧ Hid (Below w1.heap.size w1 wr)) (fun _ t8 _ => k - (intO t8).toNat)
      case atStart => exact ⟨0, Nat.zero_le _, rfl, Lib.hid (by rw [List.take_zero, show encS [] = [] from rfl, List.append_nil]; exact HO2.out), HB2⟩
      case round =>
        obtain ⟨i, hi', rfl, HO, HW⟩ := hrel
        by_cases hlt2 : i < k
        · have d3 : decide ((i : Int) < k) = true := decide_eq_true (by omega)
          have d3' : decide (i < k) = true := decide_eq_true hlt2
          obtain ⟨x, hx⟩ : ∃ x, W[i]? = some x := ⟨_, List.getElem?_eq_getElem (by rw [HK.out]; exact hlt2)⟩
          obtain ⟨Y, hY, c1⟩ := HRW.out i x hx
          subst hY
          have c0 : wr.cell? (Y.add i) = some (encStr x) := (World.cell?_of_block (HW.out.block _ (block_lt_of_cell c1))).trans c1
          have HE := Lib.hid (encS_step hx)
          have hx255 := HXS.out x (List.mem_of_getElem? hx)
          clear hx
          obtain ⟨xl, hxl⟩ : ∃ xl, x.length = xl := ⟨_, rfl⟩
          have HXL := Lib.hid hxl
          rw [hxl] at hx255
          have s2 : IntKind.u64.wrap (xl : Int) = xl := wrapu (by omega) (by omega)
          have hxl' : ((List.length x : Nat) : Int) = (xl : Int) := by rw [hxl]
          obtain ⟨L, hL⟩ : ∃ L, encN k ++ encS (W.take i) = L := ⟨_, rfl⟩
          have hO := HO.out
          rw [hL] at hO
          have HE2 : Hid (encN k ++ encS (W.take (i + 1)) = L ++ encN x.length ++ x) := Lib.hid (by rw [HE.out, ← hL]; simp [List.append_assoc])
          have hLl : L.length ≤ 1200000 := by
            have h1 := encN_len k
            have h2 := encS_len (W.take i) fun y hy => HXS.out y (List.mem_of_mem_take hy)
            rw [List.length_take] at h2
            rw [← hL, List.length_append]
            omega
          have hL0 : 0 < L.length := by
            obtain ⟨y, r, he⟩ := encN_cons k
            rw [← hL, he]; simp
          obtain ⟨g, c9, rfl, hdi⟩ := hO.lit hL0
          obtain ⟨LL, hLL⟩ : ∃ LL, L.length = LL := ⟨_, rfl⟩
          have HLL := Lib.hid hLL
          rw [hLL] at hdi hLl
          have hL2 : LL ≤ 2000000 := by omega
          have HLEN : Hid (LL ≤ 1200000) := Lib.hid hLl
          clear hO hL0 hLl HO
          go_wp2_with (rw [HLL.out])
          go_upto_region 13 with fail
          refine wp_region_noPanic ?_
          refine wp_region_held_drew (S := (fun W => W.cell? (Y.add i) = some (encStr x))) (by kernel_rfl) ?_ (fun hHeld => ?_)
          · exact c0
          obtain ⟨wd, hwd⟩ : ∃ wd, wr.drew = wd := ⟨_, rfl⟩
          have hbd : Below wr.heap.size wr wd := by rw [← hwd]; exact (Below.refl _ wr).drew
          have HBd := Lib.hid (HW.out.trans (hbd.mono HW.out.size))
          have HOd := Lib.hid (hdi.below hbd)
          rw [hwd] at hHeld ⊢
          clear hwd hbd
          refine wpAnyH_take (i := 0) (oi := { dst := some 41, op := Op.move (Operand.tmp 7), type := 28, pos := "ref.go:673", after := #[], guard := none }) (v := ?_) rfl (by kernel_rfl) (by kernel_rfl) (by kernel_rfl) (fun _ _ _ h => h) (Or.inl ⟨by rfl, ?_⟩) (by assumption) ?_
          rotate_left
          · (intro w hSw; (try dsimp only at hSw); go_simp; try with_reducible rfl)
          try simp only [Act.put, List.setIfInBounds_toArray, List.set_cons_zero, List.set_cons_succ]
          refine wpAnyH_take (i := 1) (oi := { dst := some 42, op := Op.move (Operand.tmp 5), type := 22, pos := "ref.go:673", after := #[], guard := none }) (v := ?_) rfl (by kernel_rfl) (by kernel_rfl) (by kernel_rfl) (fun _ _ _ h => h) (Or.inl ⟨by rfl, ?_⟩) (by assumption) ?_
          rotate_left
          · (intro w hSw; (try dsimp only at hSw); go_simp; try with_reducible rfl)
          try simp only [Act.put, List.setIfInBounds_toArray, List.set_cons_zero, List.set_cons_succ]
          refine wpAnyH_take (i := 2) (oi := { dst := some 43, op := Op.move (Operand.tmp 8), type := 3, pos := "ref.go:673", after := #[], guard := none }) (v := ?_) rfl (by kernel_rfl) (by kernel_rfl) (by kernel_rfl) (fun _ _ _ h => h) (Or.inl ⟨by rfl, ?_⟩) (by assumption) ?_
          rotate_left
          · (intro w hSw; (try dsimp only at hSw); go_simp; try with_reducible rfl)
          try simp only [Act.put, List.setIfInBounds_toArray, List.set_cons_zero, List.set_cons_succ]
          refine wpAnyH_take (i := 3) (oi := { dst := some 44, op := Op.indexAddr 22 (Operand.tmp 42) (Operand.tmp 43), type := 0, pos := "ref.go:673", after := #[{ on := 1, ground := Ground.data }, { on := 2, ground := Ground.data }], guard := none }) (v := ?_) rfl (by kernel_rfl) (by kernel_rfl) (by kernel_rfl) (fun _ _ _ h => h) (Or.inl ⟨by rfl, ?_⟩) (by assumption) ?_
          rotate_left
          · (intro w hSw; (try dsimp only at hSw); go_simp; try with_reducible rfl)
          try simp only [Act.put, List.setIfInBounds_toArray, List.set_cons_zero, List.set_cons_succ]
          refine wpAnyH_take (i := 4) (oi := { dst := some 45, op := Op.load 9 (Operand.tmp 44), type := 9, pos := "ref.go:673", after := #[{ on := 3, ground := Ground.data }], guard := none }) (v := ?_) rfl (by kernel_rfl) (by kernel_rfl) (by kernel_rfl) (fun _ _ _ h => h) (Or.inl ⟨by rfl, ?_⟩) (by assumption) ?_
          rotate_left
          · (intro w hSw; (try dsimp only at hSw); go_simp; try with_reducible rfl)
          try simp only [Act.put, List.setIfInBounds_toArray, List.set_cons_zero, List.set_cons_succ]
          refine wpAnyH_take (i := 5) (oi := { dst := some 46, op := Op.call { callee := Callee.builtin Builtin.len, args := #[Operand.tmp 45], argTypes := #[9] }, type := 3, pos := "ref.go:673", after := #[{ on := 4, ground := Ground.data }], guard := none }) (v := ?_) rfl (by kernel_rfl) (by kernel_rfl) (by kernel_rfl) (fun _ _ _ h => h) (Or.inl ⟨by rfl, ?_⟩) (by assumption) ?_
          rotate_left
          · (intro w hSw; (try dsimp only at hSw); go_simp; try with_reducible rfl)
          try simp only [Act.put, List.setIfInBounds_toArray, List.set_cons_zero, List.set_cons_succ]
          refine wpAnyH_take (i := 6) (oi := { dst := some 47, op := Op.convert 3 39 (Operand.tmp 46), type := 39, pos := "ref.go:673", after := #[{ on := 5, ground := Ground.data }], guard := none }) (v := ?_) rfl (by kernel_rfl) (by kernel_rfl) (by kernel_rfl) (fun _ _ _ h => h) (Or.inl ⟨by rfl, ?_⟩) (by assumption) ?_
          rotate_left
          · (intro w hSw; (try dsimp only at hSw); go_simp; try with_reducible rfl)
          try simp only [Act.put, List.setIfInBounds_toArray, List.set_cons_zero, List.set_cons_succ]
          refine wpAnyH_take (i := 8) (oi := { dst := some 49, op := Op.move (Operand.tmp 5), type := 22, pos := "ref.go:673", after := #[], guard := none }) (v := ?_) rfl (by kernel_rfl) (by kernel_rfl) (by kernel_rfl) (fun _ _ _ h => h) (Or.inl ⟨by rfl, ?_⟩) (by assumption) ?_
          rotate_left
          · (intro w hSw; (try dsimp only at hSw); go_simp; try with_reducible rfl)
          try simp only [Act.put, List.setIfInBounds_toArray, List.set_cons_zero, List.set_cons_succ]
          refine wpAnyH_take (i := 9) (oi := { dst := some 50, op := Op.move (Operand.tmp 8), type := 3, pos := "ref.go:673", after := #[], guard := none }) (v := ?_) rfl (by kernel_rfl) (by kernel_rfl) (by kernel_rfl) (fun _ _ _ h => h) (Or.inl ⟨by rfl, ?_⟩) (by assumption) ?_
          rotate_left
          · (intro w hSw; (try dsimp only at hSw); go_simp; try with_reducible rfl)
          try simp only [Act.put, List.setIfInBounds_toArray, List.set_cons_zero, List.set_cons_succ]
          refine wpAnyH_take (i := 10) (oi := { dst := some 51, op := Op.indexAddr 22 (Operand.tmp 49) (Operand.tmp 50), type := 0, pos := "ref.go:673", after := #[{ on := 8, ground := Ground.data }, { on := 9, ground := Ground.data }], guard := none }) (v := ?_) rfl (by kernel_rfl) (by kernel_rfl) (by kernel_rfl) (fun _ _ _ h => h) (Or.inl ⟨by rfl, ?_⟩) (by assumption) ?_
          rotate_left
          · (intro w hSw; (try dsimp only at hSw); go_simp; try with_reducible rfl)
          try simp only [Act.put, List.setIfInBounds_toArray, List.set_cons_zero, List.set_cons_succ]
          refine wpAnyH_take (i := 11) (oi := { dst := some 52, op := Op.load 9 (Operand.tmp 51), type := 9, pos := "ref.go:673", after := #[{ on := 10, ground := Ground.data }], guard := none }) (v := ?_) rfl (by kernel_rfl) (by kernel_rfl) (by kernel_rfl) (fun _ _ _ h => h) (Or.inl ⟨by rfl, ?_⟩) (by assumption) ?_
          rotate_left
          · (intro w hSw; (try dsimp only at hSw); go_simp; try with_reducible rfl)
          try simp only [Act.put, List.setIfInBounds_toArray, List.set_cons_zero, List.set_cons_succ]
          refine wpAnyH_ready (rs := [7]) (by kernel_rfl) (by simp) ?_
          refine AllReadyH.cons (o := { dst := some 48, op := Op.call { callee := Callee.value (Operand.func 23), args := #[Operand.tmp 41, Operand.tmp 47], argTypes := #[28, 39] }, type := 28, pos := "ref.go:673", after := #[{ on := 0, ground := Ground.data }, { on := 6, ground := Ground.data }], guard := none }) rfl (fun K hK => ?_) AllReadyH.nil
          go_simp
          refine (Try.rput wd HOd.out hL2 xl (by omega)).mono ?_
          rintro e3 w3 ⟨v3, rfl, ho3, hb3⟩
          have HB3 := Lib.hid (HBd.out.trans (hb3.mono HBd.out.size))
          have HO3 := Lib.hid (ho3.mono HBd.out.size)
          clear ho3 hb3
          refine hK.out _ _ ?_ (fun hHeld => ?_)
          · exact (World.cell?_of_block (HB3.out.block _ (block_lt_of_cell c1))).trans c1
          clear hK K
          try simp only [Act.put, List.setIfInBounds_toArray, List.set_cons_zero, List.set_cons_succ]
          refine wpAnyH_ready (rs := [12]) (by kernel_rfl) (by simp) ?_
          refine AllReadyH.cons (o := { dst := some 53, op := Op.call { callee := Callee.builtin Builtin.append, args := #[Operand.tmp 48, Operand.tmp 52], argTypes := #[28, 9] }, type := 28, pos := "ref.go:673", after := #[{ on := 7, ground := Ground.data }, { on := 11, ground := Ground.data }, { on := 7, ground := Ground.chain }], guard := none }) rfl (fun K hK => ?_) AllReadyH.nil
          refine oper_ob_str (.tmp 48) (.tmp 52) rfl rfl w1 _ _ _ rfl HO3.out rfl ?d1 HB3.out ?_
          case d1 =>
            have h1 := HLEN.out; have h2 := encN_len xl; have h3 := HXL.out; have h4 := HLL.out
            rw [List.length_append]
            omega
          intro v5 w5 ho5 hb5
          have HO5 : Hid (OB w5 w1.heap.size v5 (encN k ++ encS (W.take (i + 1)))) := Lib.hid (by rw [HE2.out, HXL.out]; simpa [List.append_assoc] using ho5)
          have HB5 := Lib.hid hb5
          clear ho5 hb5
          refine hK.out _ _ ?_ (fun hHeld => ?_)
          · exact (World.cell?_of_block (HB5.out.block _ (block_lt_of_cell c1))).trans c1
          clear hK K
          try simp only [Act.put, List.setIfInBounds_toArray, List.set_cons_zero, List.set_cons_succ]
          refine wpAnyH_take (i := 13) (oi := { dst := some 7, op := Op.assign (Operand.tmp 53), type := 28, pos := "ref.go:673", after := #[{ on := 12, ground := Ground.data }, { on := 12, ground := Ground.chain }, { on := 0, ground := Ground.phase }, { on := 1, ground := Ground.phase }, { on := 2, ground := Ground.phase }, { on := 3, ground := Ground.phase }, { on := 4, ground := Ground.phase }, { on := 5, ground := Ground.phase }, { on := 6, ground := Ground.phase }, { on := 7, ground := Ground.phase }, { on := 8, ground := Ground.phase }, { on := 9, ground := Ground.phase }, { on := 10, ground := Ground.phase }, { on := 11, ground := Ground.phase }, { on := 12, ground := Ground.phase }], guard := none }) (v := ?_) rfl (by kernel_rfl) (by kernel_rfl) (by kernel_rfl) (fun _ _ _ h => h) (Or.inl ⟨by rfl, ?_⟩) (by assumption) ?_
          rotate_left
          · (intro w hSw; (try dsimp only at hSw); go_simp; try with_reducible rfl)
          try simp only [Act.put, List.setIfInBounds_toArray, List.set_cons_zero, List.set_cons_succ]
          refine wpAnyH_done (by kernel_rfl) ?_ _
          refine NoPanic.normal ?_
          go_wp2_with fail
          exact ⟨⟨i + 1, by omega, rfl, HO5, HB5⟩, by simp [intO]; omega⟩
        · obtain rfl : i = k := by omega
          have d3 : decide ((i : Int) < i) = false := by simp
          have d3' : decide (i < i) = false := by simp
          have HTK : Hid (W.take i = W) := Lib.hid (List.take_of_length_le (by rw [HK.out]; exact Nat.le_refl _))
          rw [HTK.out] at HO
          have HDU2 := Lib.hid (HDU.out.below HW.out)
          have hU : U64 (plc l W) := plc_u64 (by rw [HK.out]; omega)
          have HU := Lib.hid hU
          have hw64 := pkw_le hU
          have hpl := pkd_len (plc l W)
          obtain ⟨wd, hwd⟩ : ∃ wd, pkw (plc l W) = wd := ⟨_, rfl⟩
          have HWD := Lib.hid hwd
          have hw64' : wd ≤ 64 := by rw [← hwd]; exact hw64
          clear hU hw64 hwd
          go_wp2_with fail
          refine (Try.rwidth _ B _ c' _ HDU2.out HU.out (by omega)).mono ?_
          rintro e3 w3 ⟨rfl, hb3⟩
          have HDU3 := Lib.hid (HDU2.out.below hb3)
          have HO3 := Lib.hid (HO.out.below hb3)
          have HW3 := Lib.hid (HW.out.trans (hb3.mono HW.out.size))
          rw [show (pkw (plc l W) : Int) = (wd : Int) by rw [← HWD.out]]
          clear hb3 HDU2 HO HW
          go_wp2_with fail
          refine (show Calls Try.prog 24 #[.slice B _ c', .int .i64 wd] w3 (PkP w3 (plc l W)) by rw [← HWD.out]; exact Try.rpput w3 B _ c' _ HDU3.out HU.out (by omega)).mono ?_
          rintro e4 w4 ⟨b4, c4, rfl, hb4, hd4, hbl4⟩
          have HO4 := Lib.hid (HO3.out.below hbl4)
          have HW4 := Lib.hid (HW3.out.trans (hbl4.mono HW3.out.size))
          have HDU4 := Lib.hid (HDU3.out.below hbl4)
          have HG4 : Hid (∀ k, Value.ownBlock u7 = some k → k ≠ b4) := Lib.hid fun k hk => by have := ((show w3.ownsRow w1.heap.size 5 1 _ _ _ from HO3.out).lt k hk).2; omega
          obtain ⟨pl, hpl'⟩ : ∃ pl, (pkd (plc l W)).length = pl := ⟨_, rfl⟩
          have HPL := Lib.hid hpl'
          have HD4 := Lib.hid hd4
          rw [hpl'] at HD4 hpl
          rw [hpl']
          clear hb4 hd4 hbl4 HO3 HW3 HDU3 hpl'
          go_wp2_with fail
          refine (Try.rwidth _ B _ c' _ HDU4.out HU.out (by omega)).mono ?_
          rintro e5 w5 ⟨rfl, hb5⟩
          have HO5 := Lib.hid (HO4.out.below hb5)
          have HW5 := Lib.hid (HW4.out.trans (hb5.mono HW4.out.size))
          have HD5 := Lib.hid (HD4.out.below hb5)
          rw [show (pkw (plc l W) : Int) = (wd : Int) by rw [← HWD.out]]
          have s3 : IntKind.u8.wrap (wd : Int) = wd := by rw [IntKind.wrap_u8]; omega
          clear hb5 HO4 HW4 HD4 HDU4
          have OA := Lib.hid (HO5.out.alloc (.cells #[.int .u8 (wd : Int)] 5))
          have BA := Lib.hid (HW5.out.alloc HW5.out.size (.cells #[.int .u8 (wd : Int)] 5))
          have DW : Hid (DI (w5.alloc (.cells #[.int .u8 (wd : Int)] 5)) (some ⟨w5.heap.size, 0, none⟩) 1 1 [UInt8.ofNat wd]) := Lib.hid ⟨rfl, Nat.le_refl _, by unfold maxLen; omega, fun j x hx => ⟨_, rfl, built_byte w5 wd (by omega) j (u8v x) (by rw [List.getElem?_map, hx]; rfl)⟩⟩
          have HLEN : Hid ((encN i ++ encS W).length ≤ 1200000) := Lib.hid (by
            have h1 := encN_len i
            have h2 := encS_len _ HXS.out
            have h3 := HK.out
            rw [List.length_append]
            omega)
          go_wp2_with (refine wpList_ob_app rfl (.tmp 61) (.tmp 65) rfl rfl w1 _ _ _ rfl OA.out _ _ _ rfl DW.out ?e1 BA.out ?e2)
          case e1 => have := HLEN.out; simp only [List.length_cons, List.length_nil]; omega
          intro v6 w6 ho6 hb6 hg6
          have HO6 := Lib.hid ho6
          have HB6 := Lib.hid hb6
          have HD6 := Lib.hid ((HD5.out.below ((Below.refl _ w5).alloc (Nat.le_refl _) (.cells #[.int .u8 (wd : Int)] 5))).grown hg6 (fun q => HG4.out _ q rfl))
          clear ho6 hb6 hg6
          go_wp2_with (refine wpList_ob_app rfl (.tmp 66) (.tmp 67) rfl rfl w1 _ _ _ rfl HO6.out _ _ _ rfl HD6.out ?f1 HB6.out ?f2)
          case f1 =>
            have h1 := HLEN.out
            have h2 := HPL.out
            rw [List.length_append] at h1 ⊢
            rw [List.length_append]
            simp only [List.length_cons, List.length_nil]
            omega
          intro v7 w7 ho7 hb7 _
          have HO7 : Hid (OB w7 w.heap.size v7 (dk l W)) := Lib.hid (by
            have h1 := ho7.mono HB1.out.size
            have h2 := HK.out
            unfold dk
            rw [h2, HWD.out]
            simpa [List.append_assoc] using h1)
          have HB7 := Lib.hid hb7
          clear ho7 hb7
          go_wp2_with fail
          go_ret2
          exact ⟨HB1.out.trans (HB7.out.mono HB1.out.size), .inl ⟨by have := HL.out; omega, HXS.out, _, rfl, HO7.out⟩⟩
end Go.Proofs
end
