/-
  Texts of a proof over the translated program: proved evaluators and walks, part 12 of 13.
-/
import Derived.Test.YtkogknhnlilllaaGreatPart11
import Derived.Below
import Derived.Deep.Cut
import Derived.Deep.RegionHeld3
import Derived.Deep.RegionWith
import Derived.Handy
import Derived.IntWalk
import Derived.Laws.AppendOwnNone
import Derived.Laws.BitsLemmas
import Derived.Laws.BytesArg
import Derived.Laws.BytesString
import Derived.Laws.Closers25b
import Derived.Laws.CopyOwn
import Derived.Laws.MakeOwn
import Derived.Lib.Hide
import Derived.Lib.SlBytesRow
import Derived.LoopTactic
import Derived.Outline
import Derived.OwnWalk
import Derived.Scope
import Derived.ScopeJumps
import Derived.Test.YtkogknhnlilllaaGreatProg
import Derived.WalkKit
import Derived.WalkMore
import Derived.WalkSpells
import Derived.Great.BuildSlice
import Derived.Laws.CopyRow
import Derived.Laws.IdiomStrings
import Derived.MapKept
import Derived.Orders
set_option linter.unusedVariables false
set_option linter.unusedSimpArgs false
set_option linter.unusedSectionVars false
set_option linter.unnecessarySimpa false
section
namespace Go.Proofs
open Go.RowKit
set_option maxRecDepth 100000
def le4 (s : Nat) : List UInt8 := [UInt8.ofNat (s % 256), UInt8.ofNat (s / 256 % 256), UInt8.ofNat (s / 65536 % 256), UInt8.ofNat (s / 16777216 % 256)]
def le4c (s : Nat) : Array Value := #[.int .u8 ((s : Int) % 256), .int .u8 ((s : Int) / 256 % 256), .int .u8 ((s : Int) / 65536 % 256), .int .u8 ((s : Int) / 16777216 % 256)]
theorem le4_cells (s : Nat) : (le4 s).map u8v = (le4c s).toList := by
  unfold le4 le4c
  simp only [List.map_cons, List.map_nil]
  rw [u8v_ofNat _ (Nat.mod_lt _ (by decide)), u8v_ofNat _ (Nat.mod_lt _ (by decide)), u8v_ofNat _ (Nat.mod_lt _ (by decide)), u8v_ofNat _ (Nat.mod_lt _ (by decide))]
  rfl
theorem built_le4 (w : World) (s : Nat) : ∀ j u, ((le4 s).map u8v)[j]? = some u → (w.alloc (.cells #[.int .u8 ((s : Int) % 256), .int .u8 ((s : Int) / 256 % 256), .int .u8 ((s : Int) / 65536 % 256), .int .u8 ((s : Int) / 16777216 % 256)] 5)).cell? ((⟨w.heap.size, 0, none⟩ : Addr).add j) = some u := by
  intro j u hj
  rw [le4_cells] at hj
  show (w.alloc (.cells (le4c s) 5)).cell? _ = _
  rw [Addr.add_lit, Nat.zero_add, cell_of_row _ _ j _ 5 _ (heap_alloc_new w _), ← hj]
  simp
def Put4P (w : World) (l : List UInt8) (s : Nat) (x : Ending) (w' : World) : Prop := ∃ v, x = .returned v ∧ OB w' w.heap.size v (l ++ le4 s) ∧ Below w.heap.size w w'
set_option maxHeartbeats 4000000 in
theorem Tryz.put4 (w : World) {A : Option Addr} {n c : Nat} {l : List UInt8} (hD : DI w A n c l) (hn : n ≤ 400) (s : Nat) (hs : s < 4294967296) :
    Calls Tryz.prog 21 #[.slice A n c, .int .u32 s] w (Put4P w l s) := by
  have hln := hD.len
  obtain ⟨ii, hi0, hz0, hz1, hz2⟩ := info5
  have s1 : IntKind.i64.wrap ((n : Int) + 4) = ((n + 4 : Nat) : Int) := by rw [wrapi (by omega) (by omega)]; omega
  have b0 : IntKind.u8.wrap (s : Int) = (s : Int) % 256 := by rw [IntKind.wrap_u8]
  have b1 : IntKind.u8.wrap ((s : Int) / 256) = (s : Int) / 256 % 256 := by rw [IntKind.wrap_u8]
  have b2 : IntKind.u8.wrap ((s : Int) / 65536) = (s : Int) / 65536 % 256 := by rw [IntKind.wrap_u8]
  have b3 : IntKind.u8.wrap ((s : Int) / 16777216) = (s : Int) / 16777216 % 256 := by rw [IntKind.wrap_u8]
  have HP := Lib.hid (hD.src ((Below.refl _ w).alloc (Nat.le_refl _) (.cells (List.replicate (n + 4) (.int .u8 0)).toArray 5)))
  have HL1 : Hid ((l.map u8v).length = Nat.min n n) := Lib.hid (by rw [List.length_map, hln]; exact (Nat.min_self n).symm)
  have HL2 : Hid (0 + (l.map u8v).length ≤ (List.replicate (n + 4) (Value.int .u8 0)).length) := Lib.hid (by rw [List.length_map, List.length_replicate]; omega)
  obtain ⟨cs, hcs⟩ : ∃ cs, l.map u8v = cs := ⟨_, rfl⟩
  have HCS := Lib.hid hcs
  have HONE : Hid (∀ u ∈ cs, u.oneCell' = true) := Lib.hid (by rw [← hcs]; exact u8v_one l)
  rw [hcs] at HP HL1 HL2
  have HLN := Lib.hid hln
  clear hD hcs hln
  go_enter Tryz.func21, Tryz.ntmps21
  go_wp2_with (first
    | (at_make; refine wpList_make_lc _ rfl _ _ 27 rfl 5 ii (.int .u8 0) Tryz.underlying27 hi0 hz0 hz1 hz2 rfl _ _ _ _ n (n + 4) rfl rfl (by omega) (by omega) (by omega) (by omega) ?_)
    | (refine wpList_copy_splice rfl (.tmp 12) (.tmp 13) 27 27 rfl 5 Tryz.underlying27 size5 _ _ n (n + 4) n c rfl rfl w.heap.size 0 (List.replicate (n + 4) (.int .u8 0)) 5 (heap_alloc_new w _) cs HL1.out (fun h => ⟨rfl, HP.out h⟩) HL2.out HONE.out w.heap.size w ((Below.refl _ w).alloc (Nat.le_refl _) _) (Nat.le_refl _) ?_))
  intro w2 hg2 hb2
  rw [← HCS.out] at hg2
  have ho2 := splice_ob hg2.out (Nat.le_refl _) (by rw [HLN.out]; omega) (by omega)
  rw [HLN.out] at ho2
  unfold OB at ho2
  rw [HLN.out, HCS.out] at ho2
  have OA := Lib.hid (ho2.alloc (.cells #[.int .u8 ((s : Int) % 256), .int .u8 ((s : Int) / 256 % 256), .int .u8 ((s : Int) / 65536 % 256), .int .u8 ((s : Int) / 16777216 % 256)] 5))
  have CA := Lib.hid (built_le4 w2 s)
  have BA := Lib.hid (hb2.alloc hb2.size (.cells #[.int .u8 ((s : Int) % 256), .int .u8 ((s : Int) / 256 % 256), .int .u8 ((s : Int) / 65536 % 256), .int .u8 ((s : Int) / 16777216 % 256)] 5))
  have hsz := hb2.size
  obtain ⟨c4, hc4⟩ : ∃ c4, (le4 s).map u8v = c4 := ⟨_, rfl⟩
  have HC4 := Lib.hid hc4
  have H41 : Hid (∀ u ∈ c4, u.oneCell' = true) := Lib.hid (by rw [← hc4]; exact u8v_one _)
  have H4L : Hid (c4.length = 4 * 1) := Lib.hid (by rw [← hc4]; rfl)
  rw [hc4] at CA
  clear hg2 hb2 ho2 HP HL1 HL2 hc4
  go_wp2_with (at_builtin; refine wpList_append_own _ rfl (.tmp 15) (.tmp 27) 27 rfl w.heap.size 5 ii (.int .u8 0) 1 1 Tryz.underlying27 hi0 hz0 hz1 hz2 rfl (by decide) _ _ _ rfl (OA.out) _ _ _ c4 rfl H4L.out (CA.out) H41.out (by unfold maxLen; omega) (by omega) (BA.out).size ?_)
  intro v' w5 hown1 hg5 hne
  have B5 := Lib.hid ((BA.out).grown hg5 (BA.out).size (fun k hk => ((OA.out).lt k hk).1))
  have O5 : Hid (OB w5 w.heap.size v' (l ++ le4 s)) := Lib.hid (by
    have e : (l ++ le4 s).length = n + 4 := by rw [List.length_append, HLN.out]; rfl
    unfold OB
    rw [e, List.map_append, HCS.out, HC4.out]
    exact hown1)
  clear hown1 hg5 hne
  go_wp2_with fail
  go_ret
  exact ⟨_, rfl, O5.out, B5.out⟩
end Go.Proofs
end

section
namespace Go.Proofs
open Go.RowKit
set_option maxRecDepth 100000
theorem DI.srcX {w w' : World} {X : Addr} {n c : Nat} {l : List UInt8} (h : DI w (some X) n c l) (hb : Below w.heap.size w w') : ∀ j v, (l.map u8v)[j]? = some v → w'.cell? (X.add j) = some v := by
  intro j v hv
  rw [List.getElem?_map] at hv
  obtain ⟨x, hx, rfl⟩ := Option.map_eq_some_iff.1 hv
  obtain ⟨Y, hY, hc⟩ := (h.below hb).at' j x hx
  cases hY
  exact hc
theorem ob_empty (w : World) : (w.alloc (.cells #[] 5)).ownsRow w.heap.size 5 1 (.slice (some ⟨w.heap.size, 0, none⟩) 0 0) 0 [] :=
  World.ownsRow_made (base := w.heap.size) (e := 5) (size := 1) w #[] 0 (Nat.le_refl _) (Nat.zero_le _) rfl
theorem DI.nil {w : World} {n c : Nat} {l : List UInt8} (h : DI w none n c l) : l = [] := by
  cases l with
  | nil => rfl
  | cons x l => obtain ⟨X, hX, _⟩ := h.at' 0 x rfl; cases hX
set_option maxHeartbeats 4000000 in
theorem Tryz.rputX (w : World) {X : Addr} {n c : Nat} {l : List UInt8} (hD : DI w (some X) n c l) (hn : n ≤ 400) (u0 : Nat) (hu0 : u0 < 18446744073709551616) :
    Calls Tryz.prog 23 #[.slice (some X) n c, .int .u64 u0] w (PutP w l u0) := by
  have hln := hD.len
  obtain ⟨ii, hi0, hz0, hz1, hz2⟩ := info5
  have HS := Lib.hid (hD.srcX ((Below.refl _ w).alloc (Nat.le_refl _) (.cells #[] 5)))
  have HLN2 : Hid ((l.map u8v).length = n * 1) := Lib.hid (by rw [List.length_map, hln, Nat.mul_one])
  obtain ⟨cs, hcs⟩ : ∃ cs, l.map u8v = cs := ⟨_, rfl⟩
  have HCS := Lib.hid hcs
  have HONE : Hid (∀ u ∈ cs, u.oneCell' = true) := Lib.hid (by rw [← hcs]; exact u8v_one l)
  rw [hcs] at HS HLN2
  have HLN := Lib.hid hln
  have HU := Lib.hid hu0
  clear hD hln hu0 hcs
  go_enter Tryz.func23, Tryz.ntmps23
  go_wp2_with (at_builtin; refine wpList_append_own _ rfl (.tmp 6) (.tmp 7) 27 rfl w.heap.size 5 ii (.int .u8 0) 1 1 Tryz.underlying27 hi0 hz0 hz1 hz2 rfl (by decide) _ _ _ rfl (ob_empty w) X n c cs rfl HLN2.out HS.out HONE.out (by unfold maxLen; omega) (by omega) (by simp) ?_)
  intro v1 w1 hown1 hg1 hne1
  have B1 : Below w.heap.size w w1 := ((Below.refl _ w).alloc (Nat.le_refl _) (.cells #[] 5)).grown hg1 (by simp) (fun k hk => by simp [Value.ownBlock] at hk; omega)
  have O1 : OB w1 w.heap.size v1 l := by
    unfold OB
    rw [HCS.out, HLN.out]
    have := hown1
    simpa using this
  have H0 : Hid (PutR w l u0 0 u0 v1 w1) := Lib.hid ⟨⟨l, O1, rfl, rfl⟩, B1, by simpa using HU.out⟩
  clear hown1 hg1 hne1 B1 O1
  go_wp2_with fail
  go_loopw [1, 5] (fun t v wr => ∃ (k u : Nat), k ≤ 9 ∧ t = .int .u64 u ∧ PutR w l u0 k u v wr) (fun t _ _ => (intOf t).toNat)
  case atStart => exact ⟨0, u0, by omega, rfl, H0.out⟩
  case round =>
    obtain ⟨k, u, hk, rfl, hr⟩ := hrel
    have HR := Lib.hid hr
    obtain ⟨L, ho, hL1, hL2⟩ := hr.o
    have HO := Lib.hid ho
    have HL := Lib.hid (And.intro hL1 hL2)
    have hus := hr.s
    have hu64 : u < 18446744073709551616 := Nat.lt_of_le_of_lt (Nat.le_mul_of_pos_right _ (Nat.pow_pos (by omega))) hus
    have hLl : L.length ≤ 410 := by rw [hL1, HLN.out]; omega
    clear hr ho hL1 hL2 hus H0
    by_cases hu : u < 128
    · have d1 : decide ((128 : Int) ≤ (u : Int)) = false := decide_eq_false (by omega)
      have d1' : decide (128 ≤ u) = false := decide_eq_false (by omega)
      have s2 : IntKind.u8.wrap (u : Int) = (u : Int) := by rw [IntKind.wrap_u8]; omega
      have OA := Lib.hid (((show wr.ownsRow w.heap.size 5 1 _ L.length (L.map u8v) from HO.out)).alloc (.cells #[.int .u8 (u : Int)] 5))
      have CA := Lib.hid (built_byte wr u (by omega))
      have BA := Lib.hid ((HR.out).b.alloc (HR.out).b.size (.cells #[.int .u8 (u : Int)] 5))
      have HE : Hid (L ++ [UInt8.ofNat u] = l ++ encN u0) := Lib.hid (by rw [← (HL.out).2, show 10 - k = (9 - k) + 1 by omega, encF_last _ _ hu])
      obtain ⟨lv, hlv⟩ : ∃ lv, L.map u8v = lv := ⟨_, rfl⟩
      obtain ⟨ll, hll⟩ : ∃ ll, L.length = ll := ⟨_, rfl⟩
      rw [hlv, hll] at OA
      have HLV := Lib.hid hlv
      have HLL := Lib.hid hll
      rw [hll] at hLl
      clear hu hlv hll
      go_wp2_with (at_builtin; refine wpList_append_own _ rfl (.tmp 19) (.tmp 22) 27 rfl w.heap.size 5 ii (.int .u8 0) 1 1 Tryz.underlying27 hi0 hz0 hz1 hz2 rfl (by decide) _ _ _ rfl (OA.out) _ _ _ ([UInt8.ofNat u].map u8v) rfl rfl (CA.out) (u8v_one _) ?a1 ?a2 ?a3 ?a4)
      case a1 => unfold maxLen; omega
      case a2 => omega
      case a3 => have := (HR.out).b.size; simp; omega
      case a4 =>
        intro v' w5 hown1 hg5 hne
        have B5 := Lib.hid ((BA.out).grown hg5 (BA.out).size (fun k hk => ((OA.out).lt k hk).1))
        have O5 : Hid (OB w5 w.heap.size v' (l ++ encN u0)) := Lib.hid (by
          rw [← HE.out]
          have h : w5.ownsRow w.heap.size 5 1 v' (L.length + 1) (L.map u8v ++ [u8v (UInt8.ofNat u)]) := by rw [HLV.out, HLL.out]; exact hown1
          have e : (L ++ [UInt8.ofNat u]).length = L.length + 1 := by simp
          have e2 : (L ++ [UInt8.ofNat u]).map u8v = L.map u8v ++ [u8v (UInt8.ofNat u)] := by simp
          unfold OB
          rw [e, e2]
          exact h)
        clear hown1 hg5 hne
        go_wp2_with fail
        go_ret
        exact ⟨_, rfl, O5.out, B5.out⟩
    · have hk8 := (HR.out).k9 hk hu
      have d1 : decide ((128 : Int) ≤ (u : Int)) = true := decide_eq_true (by omega)
      have d1' : decide (128 ≤ u) = true := decide_eq_true (by omega)
      have s2 : IntKind.u8.wrap (u : Int) = (u : Int) % 256 := by rw [IntKind.wrap_u8]
      have ho1 : bits .or .u8 ((u : Int) % 256) 128 = ((u % 256 % 128 + 128 : Nat) : Int) := by
        have e : (u : Int) % 256 = ((u % 256 : Nat) : Int) := by omega
        rw [e]; exact or128 (u % 256) (Nat.mod_lt _ (by decide))
      obtain ⟨y, hy⟩ : ∃ y, u % 256 % 128 + 128 = y := ⟨_, rfl⟩
      have hy2 : y < 256 := by omega
      have HY : Hid (u % 128 + 128 = y) := Lib.hid (by omega)
      rw [hy] at ho1
      have OA := Lib.hid (((show wr.ownsRow w.heap.size 5 1 _ L.length (L.map u8v) from HO.out)).alloc (.cells #[.int .u8 (y : Int)] 5))
      have CA := Lib.hid (built_byte wr y hy2)
      have BA := Lib.hid ((HR.out).b.alloc (HR.out).b.size (.cells #[.int .u8 (y : Int)] 5))
      obtain ⟨lv, hlv⟩ : ∃ lv, L.map u8v = lv := ⟨_, rfl⟩
      obtain ⟨ll, hll⟩ : ∃ ll, L.length = ll := ⟨_, rfl⟩
      rw [hlv, hll] at OA
      have HLV := Lib.hid hlv
      have HLL := Lib.hid hll
      rw [hll] at hLl
      have HNU := Lib.hid hu
      have hdl : u / 128 < u := by omega
      clear hu hlv hll hy
      go_wp2_with (at_builtin; refine wpList_append_own _ rfl (.tmp 11) (.tmp 15) 27 rfl w.heap.size 5 ii (.int .u8 0) 1 1 Tryz.underlying27 hi0 hz0 hz1 hz2 rfl (by decide) _ _ _ rfl (OA.out) _ _ _ ([UInt8.ofNat y].map u8v) rfl rfl (CA.out) (u8v_one _) ?b1 ?b2 ?b3 ?b4)
      case b1 => unfold maxLen; omega
      case b2 => omega
      case b3 => have := (HR.out).b.size; simp; omega
      case b4 =>
        intro v' w5 hown1 hg5 hne
        have B5 := Lib.hid ((BA.out).grown hg5 (BA.out).size (fun k hk => ((OA.out).lt k hk).1))
        have HN : Hid (PutR w l u0 (k + 1) (u / 128) v' w5) := Lib.hid ((HR.out).step hk8 HNU.out HL.out (by
          rw [HY.out]
          have h : w5.ownsRow w.heap.size 5 1 v' (L.length + 1) (L.map u8v ++ [u8v (UInt8.ofNat y)]) := by rw [HLV.out, HLL.out]; exact hown1
          have e : (L ++ [UInt8.ofNat y]).length = L.length + 1 := by simp
          have e2 : (L ++ [UInt8.ofNat y]).map u8v = L.map u8v ++ [u8v (UInt8.ofNat y)] := by simp
          unfold OB
          rw [e, e2]
          exact h) B5.out)
        clear hown1 hg5 hne
        go_wp2_with fail
        exact ⟨⟨k + 1, u / 128, by omega, rfl, HN.out⟩, by simp [intOf]; omega⟩
set_option maxHeartbeats 4000000 in
theorem Tryz.rput0 (w : World) {n c : Nat} {l : List UInt8} (hD : DI w none n c l) (hn : n ≤ 400) (u0 : Nat) (hu0 : u0 < 18446744073709551616) :
    Calls Tryz.prog 23 #[.slice none n c, .int .u64 u0] w (PutP w l u0) := by
  have hln := hD.len
  obtain ⟨ii, hi0, hz0, hz1, hz2⟩ := info5
  have hl0 := hD.nil
  subst hl0
  have hn0 : n = 0 := by simpa using hln.symm
  subst hn0
  have hc0 := hD.le
  have HLN := Lib.hid hln
  have HU := Lib.hid hu0
  clear hD hln hu0
  go_enter Tryz.func23, Tryz.ntmps23
  go_wp2_with (at_builtin; refine wpList_append_own_none rfl (.tmp 6) (.tmp 7) 27 rfl w.heap.size 5 ii 1 Tryz.underlying27 hi0 _ _ _ rfl (ob_empty w) rfl ?_)
  have H0 : Hid (PutR w [] u0 0 u0 (.slice (some ⟨w.heap.size, 0, none⟩) 0 0) (w.alloc (.cells #[] 5))) := Lib.hid ⟨⟨[], ob_empty w, rfl, rfl⟩, (Below.refl _ w).alloc (Nat.le_refl _) _, by simpa using HU.out⟩
  go_loopw [1, 5] (fun t v wr => ∃ (k u : Nat), k ≤ 9 ∧ t = .int .u64 u ∧ PutR w [] u0 k u v wr) (fun t _ _ => (intOf t).toNat)
  case atStart => exact ⟨0, u0, by omega, rfl, H0.out⟩
  case round =>
    obtain ⟨k, u, hk, rfl, hr⟩ := hrel
    have HR := Lib.hid hr
    obtain ⟨L, ho, hL1, hL2⟩ := hr.o
    have HO := Lib.hid ho
    have HL := Lib.hid (And.intro hL1 hL2)
    have hus := hr.s
    have hu64 : u < 18446744073709551616 := Nat.lt_of_le_of_lt (Nat.le_mul_of_pos_right _ (Nat.pow_pos (by omega))) hus
    have hLl : L.length ≤ 410 := by rw [hL1, HLN.out]; omega
    clear hr ho hL1 hL2 hus H0
    by_cases hu : u < 128
    · have d1 : decide ((128 : Int) ≤ (u : Int)) = false := decide_eq_false (by omega)
      have d1' : decide (128 ≤ u) = false := decide_eq_false (by omega)
      have s2 : IntKind.u8.wrap (u : Int) = (u : Int) := by rw [IntKind.wrap_u8]; omega
      have OA := Lib.hid (((show wr.ownsRow w.heap.size 5 1 _ L.length (L.map u8v) from HO.out)).alloc (.cells #[.int .u8 (u : Int)] 5))
      have CA := Lib.hid (built_byte wr u (by omega))
      have BA := Lib.hid ((HR.out).b.alloc (HR.out).b.size (.cells #[.int .u8 (u : Int)] 5))
      have HE : Hid (L ++ [UInt8.ofNat u] = [] ++ encN u0) := Lib.hid (by rw [← (HL.out).2, show 10 - k = (9 - k) + 1 by omega, encF_last _ _ hu])
      obtain ⟨lv, hlv⟩ : ∃ lv, L.map u8v = lv := ⟨_, rfl⟩
      obtain ⟨ll, hll⟩ : ∃ ll, L.length = ll := ⟨_, rfl⟩
      rw [hlv, hll] at OA
      have HLV := Lib.hid hlv
      have HLL := Lib.hid hll
      rw [hll] at hLl
      clear hu hlv hll
      go_wp2_with (at_builtin; refine wpList_append_own _ rfl (.tmp 19) (.tmp 22) 27 rfl w.heap.size 5 ii (.int .u8 0) 1 1 Tryz.underlying27 hi0 hz0 hz1 hz2 rfl (by decide) _ _ _ rfl (OA.out) _ _ _ ([UInt8.ofNat u].map u8v) rfl rfl (CA.out) (u8v_one _) ?a1 ?a2 ?a3 ?a4)
      case a1 => unfold maxLen; omega
      case a2 => omega
      case a3 => have := (HR.out).b.size; simp; omega
      case a4 =>
        intro v' w5 hown1 hg5 hne
        have B5 := Lib.hid ((BA.out).grown hg5 (BA.out).size (fun k hk => ((OA.out).lt k hk).1))
        have O5 : Hid (OB w5 w.heap.size v' ([] ++ encN u0)) := Lib.hid (by
          rw [← HE.out]
          have h : w5.ownsRow w.heap.size 5 1 v' (L.length + 1) (L.map u8v ++ [u8v (UInt8.ofNat u)]) := by rw [HLV.out, HLL.out]; exact hown1
          have e : (L ++ [UInt8.ofNat u]).length = L.length + 1 := by simp
          have e2 : (L ++ [UInt8.ofNat u]).map u8v = L.map u8v ++ [u8v (UInt8.ofNat u)] := by simp
          unfold OB
          rw [e, e2]
          exact h)
        clear hown1 hg5 hne
        go_wp2_with fail
        go_ret
        exact ⟨_, rfl, O5.out, B5.out⟩
    · have hk8 := (HR.out).k9 hk hu
      have d1 : decide ((128 : Int) ≤ (u : Int)) = true := decide_eq_true (by omega)
      have d1' : decide (128 ≤ u) = true := decide_eq_true (by omega)
      have s2 : IntKind.u8.wrap (u : Int) = (u : Int) % 256 := by rw [IntKind.wrap_u8]
      have ho1 : bits .or .u8 ((u : Int) % 256) 128 = ((u % 256 % 128 + 128 : Nat) : Int) := by
        have e : (u : Int) % 256 = ((u % 256 : Nat) : Int) := by omega
        rw [e]; exact or128 (u % 256) (Nat.mod_lt _ (by decide))
      obtain ⟨y, hy⟩ : ∃ y, u % 256 % 128 + 128 = y := ⟨_, rfl⟩
      have hy2 : y < 256 := by omega
      have HY : Hid (u % 128 + 128 = y) := Lib.hid (by omega)
      rw [hy] at ho1
      have OA := Lib.hid (((show wr.ownsRow w.heap.size 5 1 _ L.length (L.map u8v) from HO.out)).alloc (.cells #[.int .u8 (y : Int)] 5))
      have CA := Lib.hid (built_byte wr y hy2)
      have BA := Lib.hid ((HR.out).b.alloc (HR.out).b.size (.cells #[.int .u8 (y : Int)] 5))
      obtain ⟨lv, hlv⟩ : ∃ lv, L.map u8v = lv := ⟨_, rfl⟩
      obtain ⟨ll, hll⟩ : ∃ ll, L.length = ll := ⟨_, rfl⟩
      rw [hlv, hll] at OA
      have HLV := Lib.hid hlv
      have HLL := Lib.hid hll
      rw [hll] at hLl
      have HNU := Lib.hid hu
      have hdl : u / 128 < u := by omega
      clear hu hlv hll hy
      go_wp2_with (at_builtin; refine wpList_append_own _ rfl (.tmp 11) (.tmp 15) 27 rfl w.heap.size 5 ii (.int .u8 0) 1 1 Tryz.underlying27 hi0 hz0 hz1 hz2 rfl (by decide) _ _ _ rfl (OA.out) _ _ _ ([UInt8.ofNat y].map u8v) rfl rfl (CA.out) (u8v_one _) ?b1 ?b2 ?b3 ?b4)
      case b1 => unfold maxLen; omega
      case b2 => omega
      case b3 => have := (HR.out).b.size; simp; omega
      case b4 =>
        intro v' w5 hown1 hg5 hne
        have B5 := Lib.hid ((BA.out).grown hg5 (BA.out).size (fun k hk => ((OA.out).lt k hk).1))
        have HN : Hid (PutR w [] u0 (k + 1) (u / 128) v' w5) := Lib.hid ((HR.out).step hk8 HNU.out HL.out (by
          rw [HY.out]
          have h : w5.ownsRow w.heap.size 5 1 v' (L.length + 1) (L.map u8v ++ [u8v (UInt8.ofNat y)]) := by rw [HLV.out, HLL.out]; exact hown1
          have e : (L ++ [UInt8.ofNat y]).length = L.length + 1 := by simp
          have e2 : (L ++ [UInt8.ofNat y]).map u8v = L.map u8v ++ [u8v (UInt8.ofNat y)] := by simp
          unfold OB
          rw [e, e2]
          exact h) B5.out)
        clear hown1 hg5 hne
        go_wp2_with fail
        exact ⟨⟨k + 1, u / 128, by omega, rfl, HN.out⟩, by simp [intOf]; omega⟩
theorem Tryz.rput (w : World) {A : Option Addr} {n c : Nat} {l : List UInt8} (hD : DI w A n c l) (hn : n ≤ 400) (u0 : Nat) (hu0 : u0 < 18446744073709551616) :
    Calls Tryz.prog 23 #[.slice A n c, .int .u64 u0] w (PutP w l u0) := by
  cases A with
  | none => exact Tryz.rput0 w hD hn u0 hu0
  | some X => exact Tryz.rputX w hD hn u0 hu0
end Go.Proofs
end

section
namespace Go.Proofs
open Go.RowKit
set_option maxRecDepth 100000
set_option maxHeartbeats 4000000 in
theorem Tryz.rput4 (w : World) (s : Nat) (hs : s < 4294967296) :
    Calls Tryz.prog 24 #[.slice none 0 0, .int .u32 s] w (Put4P w [] s) := by
  obtain ⟨ii, hi0, hz0, hz1, hz2⟩ := info5
  have b0 : IntKind.u8.wrap (s : Int) = (s : Int) % 256 := by rw [IntKind.wrap_u8]
  have b1 : IntKind.u8.wrap ((s : Int) / 256) = (s : Int) / 256 % 256 := by rw [IntKind.wrap_u8]
  have b2 : IntKind.u8.wrap ((s : Int) / 65536) = (s : Int) / 65536 % 256 := by rw [IntKind.wrap_u8]
  have b3 : IntKind.u8.wrap ((s : Int) / 16777216) = (s : Int) / 16777216 % 256 := by rw [IntKind.wrap_u8]
  obtain ⟨w2, hw2⟩ : ∃ w2, w.alloc (.cells #[] 5) = w2 := ⟨_, rfl⟩
  have HW2 := Lib.hid hw2
  have ho2 := ob_empty w
  have hb2 := (Below.refl _ w).alloc (Nat.le_refl _) (.cells #[] 5)
  rw [hw2] at ho2 hb2
  have OA := Lib.hid (ho2.alloc (.cells #[.int .u8 ((s : Int) % 256), .int .u8 ((s : Int) / 256 % 256), .int .u8 ((s : Int) / 65536 % 256), .int .u8 ((s : Int) / 16777216 % 256)] 5))
  have CA := Lib.hid (built_le4 w2 s)
  have BA := Lib.hid (hb2.alloc hb2.size (.cells #[.int .u8 ((s : Int) % 256), .int .u8 ((s : Int) / 256 % 256), .int .u8 ((s : Int) / 65536 % 256), .int .u8 ((s : Int) / 16777216 % 256)] 5))
  obtain ⟨c4, hc4⟩ : ∃ c4, (le4 s).map u8v = c4 := ⟨_, rfl⟩
  have HC4 := Lib.hid hc4
  have H41 : Hid (∀ u ∈ c4, u.oneCell' = true) := Lib.hid (by rw [← hc4]; exact u8v_one _)
  have H4L : Hid (c4.length = 4 * 1) := Lib.hid (by rw [← hc4]; rfl)
  rw [hc4] at CA
  clear hb2 ho2 hc4
  go_enter Tryz.func24, Tryz.ntmps24
  go_wp2_with (at_builtin; first | (refine wpList_append_own_none rfl (.tmp 5) (.tmp 6) 27 rfl w.heap.size 5 ii 1 Tryz.underlying27 hi0 _ _ _ rfl (ob_empty w) rfl ?_; rw [hw2]) | (refine wpList_append_own _ rfl (.tmp 7) (.tmp 19) 27 rfl w.heap.size 5 ii (.int .u8 0) 1 1 Tryz.underlying27 hi0 hz0 hz1 hz2 rfl (by decide) _ _ _ rfl (OA.out) _ _ _ c4 rfl H4L.out (CA.out) H41.out (by unfold maxLen; omega) (by omega) (BA.out).size ?_))
  intro v' w5 hown1 hg5 hne
  have B5 := Lib.hid ((BA.out).grown hg5 (BA.out).size (fun k hk => ((OA.out).lt k hk).1))
  have O5 : Hid (OB w5 w.heap.size v' ([] ++ le4 s)) := Lib.hid (by
    have e : ([] ++ le4 s).length = 0 + 4 := rfl
    unfold OB
    rw [e, List.nil_append, HC4.out]
    exact hown1)
  clear hown1 hg5 hne
  go_wp2_with fail
  go_ret
  exact ⟨_, rfl, O5.out, B5.out⟩
end Go.Proofs
end

section
namespace Go.Proofs
open Go.RowKit Go.FM
def vInt : Value → Int
  | .int _ q => q
  | _ => 0
theorem bitsU (a b : Nat) (ha : a < 4294967296) (hb : b < 4294967296) : bits .and .u32 (a : Int) (b : Int) = ((a &&& b : Nat) : Int) ∧ bits .or .u32 (a : Int) (b : Int) = ((a ||| b : Nat) : Int) ∧ bits .xor .u32 (a : Int) (b : Int) = ((a ^^^ b : Nat) : Int) := by
  have ha' : a % 2 ^ IntKind.u32.bits = a := Nat.mod_eq_of_lt ha
  have hb' : b % 2 ^ IntKind.u32.bits = b := Nat.mod_eq_of_lt hb
  have hk : ∀ n : Nat, n < 4294967296 → IntKind.u32.wrap (n : Int) = n := fun n h => by rw [IntKind.wrap_u32]; omega
  have h1 : a &&& b < 2 ^ 32 := Nat.and_lt_two_pow _ hb
  have h2 : a ||| b < 2 ^ 32 := Nat.or_lt_two_pow ha hb
  have h3 : a ^^^ b < 2 ^ 32 := Nat.xor_lt_two_pow ha hb
  refine ⟨?_, ?_, ?_⟩
  · simp only [bits, BitVec.ofInt_natCast, BitVec.toNat_and, BitVec.toNat_ofNat, ha', hb']
    exact hk _ h1
  · simp only [bits, BitVec.ofInt_natCast, BitVec.toNat_or, BitVec.toNat_ofNat, ha', hb']
    exact hk _ h2
  · simp only [bits, BitVec.ofInt_natCast, BitVec.toNat_xor, BitVec.toNat_ofNat, ha', hb']
    exact hk _ h3
theorem step_bits (x : Nat) (h : x < 4294967296) : bits .xor .u32 ((x : Int) / 2) (bits .and .u32 3988292384 (-bits .and .u32 (x : Int) 1 % 4294967296)) = (cstepN x : Nat) := by
  have e1 : bits .and .u32 (x : Int) 1 = ((x % 2 : Nat) : Int) := by
    have := (bitsU x 1 h (by decide)).1
    rw [Nat.and_one_is_mod] at this
    exact this
  rw [e1]
  have e2 : (x : Int) / 2 = ((x / 2 : Nat) : Int) := by omega
  rw [e2]
  unfold cstepN
  by_cases hx : x % 2 = 1
  · rw [hx, if_pos rfl]
    have e3 : -((1 : Nat) : Int) % 4294967296 = ((4294967295 : Nat) : Int) := by decide
    have e4 : (3988292384 : Int) = ((3988292384 : Nat) : Int) := rfl
    rw [e3, e4, (bitsU 3988292384 4294967295 (by decide) (by decide)).1]
    have e5 : (3988292384 &&& 4294967295 : Nat) = 3988292384 := by decide
    rw [e5, (bitsU (x / 2) 3988292384 (by omega) (by decide)).2.2]
    rfl
  · have h0 : x % 2 = 0 := by omega
    rw [h0, if_neg (by decide)]
    have e3 : -((0 : Nat) : Int) % 4294967296 = ((0 : Nat) : Int) := by decide
    have e4 : (3988292384 : Int) = ((3988292384 : Nat) : Int) := rfl
    rw [e3, e4, (bitsU 3988292384 0 (by decide) (by decide)).1]
    have e5 : (3988292384 &&& 0 : Nat) = 0 := by decide
    rw [e5, (bitsU (x / 2) 0 (by omega) (by decide)).2.2, Nat.xor_zero]
set_option maxHeartbeats 1000000 in
theorem Tryz.eight (s : Nat) (hs : s < 4294967296) (w : World) :
    Calls Tryz.prog 43 #[.int .u32 (s : Nat)] w fun e w' => e = .returned (.int .u32 (citerN 8 s : Nat)) ∧ w' = w := by
  go_enter Tryz.func43, Tryz.ntmps43
  go_wp2
  go_loop [0, 3] (fun t0 t3 => ∃ k : Nat, k ≤ 8 ∧ t3 = .int .i64 k ∧ t0 = .int .u32 (citerN k s : Nat)) (fun _ t3 => 8 - (vInt t3).toNat)
  case atStart => exact ⟨0, by omega, rfl, rfl⟩
  case round =>
    obtain ⟨k, hk, rfl, rfl⟩ := hrel
    have hlt := citerN_lt k s hs
    have hst := step_bits _ hlt
    by_cases h8 : k < 8
    · have HS : Hid (bits .xor .u32 ((citerN k s : Nat) / 2 : Int) (bits .and .u32 3988292384 (-bits .and .u32 ((citerN k s : Nat) : Int) 1 % 4294967296)) = (citerN (k + 1) s : Nat)) := Lib.hid (by rw [citer_succ]; exact hst)
      clear hst
      go_wp2
      go_round
      case rel => exact ⟨k + 1, by omega, by go_num, by rw [HS.out]⟩
      case measure => simp [vInt]; omega
    · obtain rfl : k = 8 := by omega
      clear hst
      go_wp2
      go_ret
      exact ⟨rfl, rfl⟩
theorem Tryz.eightZ (z : Int) (s : Nat) (hz : Hid (z = (s : Nat))) (hs : s < 4294967296) (w : World) :
    Calls Tryz.prog 43 #[.int .u32 z] w fun e w' => e = .returned (.int .u32 (citerN 8 s : Nat)) ∧ w' = w := by
  rw [hz.out]; exact Tryz.eight s hs w
theorem inv32 (s : Nat) (h : s < 4294967296) : bits .xor .u32 IntKind.u32.max (s : Int) = 4294967295 - (s : Int) := by
  have e : IntKind.u32.max = ((4294967295 : Nat) : Int) := rfl
  rw [e, (bitsU 4294967295 s (by decide) h).2.2]
  have key : 4294967295 ^^^ s = 4294967295 - s := by
    have e := congrArg BitVec.toNat (BitVec.allOnes_xor (x := BitVec.ofNat 32 s))
    rw [BitVec.toNat_xor, BitVec.toNat_not] at e
    simp only [BitVec.toNat_allOnes, BitVec.toNat_ofNat] at e
    rw [Nat.mod_eq_of_lt (show s < 2 ^ 32 from h)] at e
    exact e
  rw [key]; omega
set_option maxHeartbeats 2000000 in
theorem Tryz.sum : SumSpec Tryz.prog 22 := by
  intro A n m l hl hb hn w hc
  go_enter Tryz.func22, Tryz.ntmps22
  go_wp2
  refine wp_scope_jumps 0 (fun a' w' => w' = w ∧ ∃ (i : Nat) (u5 u6 u7 u8 u9 u10 u11 u12 u13 u14 u15 u16 u17 u18 u19 u20 : Value), a' = { tmps := #[.slice (some A) n m, undef, .int .u32 0, .int .u32 (sumAt l i : Nat), .int .i64 i, u5, u6, u7, u8, u9, u10, u11, u12, u13, u14, u15, u16, u17, u18, u19, u20], defers := [] } ∧ i ≤ n) (fun a' _ => n - (vInt (a'.tmps.getD 4 undef)).toNat) rfl ?_ ?_
  · go_wp2
    go_step3
    have hs0 : sumAt l 0 = 4294967295 := rfl
    by_cases hin : 0 < n
    · have hx := hc 0 hin
      have hA : A.add 0 = A := by cases A; rfl
      rw [hA] at hx
      clear hA
      have hxb := hb (l.getD 0 0) (by rw [List.getD_eq_getElem?_getD, List.getElem?_eq_getElem (by omega)]; exact List.getElem_mem _)
      have hsl := sumAt_lt hb 0
      have hss := sumAt_succ l 0 (by omega)
      have hz := (bitsU (sumAt l 0) (l.getD 0 0).toNat hsl (by omega)).2.2
      rw [Int.toNat_of_nonneg hxb.1, hs0] at hz
      rw [hs0] at hss
      have HZ : Hid (bits .xor .u32 4294967295 (l.getD 0 0) = ((4294967295 ^^^ (l.getD 0 0).toNat : Nat) : Int)) := Lib.hid hz
      have hlt : 4294967295 ^^^ (l.getD 0 0).toNat < 4294967296 := Nat.xor_lt_two_pow (n := 32) (by decide) (by omega)
      have HS : Hid (citerN 8 (4294967295 ^^^ (l.getD 0 0).toNat) = sumAt l 1) := Lib.hid hss.symm
      have hD : decide ((0 : Int) = n) = false := by simp; omega
      have hD2 : ((0 : Int) == n) = false := by simp; omega
      clear hc hss hz hs0 hsl
      generalize l.getD 0 0 = x at hx hxb HZ hlt HS
      go_wp2_with (go_at_call 43; refine (Tryz.eightZ _ _ HZ hlt _).mono ?_; rintro e w' ⟨rfl, rfl⟩)
      go_step3
      rw [HS.out]
      exact ⟨rfl, rfl, 1, _, _, _, _, _, _, _, _, _, _, _, _, _, _, _, _, ⟨rfl, by omega⟩⟩
    · obtain rfl : n = 0 := by omega
      obtain rfl : l = [] := List.eq_nil_of_length_eq_zero hl
      clear hc hs0
      go_wp2
      simp only [Exit.jump]
      go_ret
      exact ⟨rfl, rfl⟩
  · rintro a' w' ⟨rfl, i, u5, u6, u7, u8, u9, u10, u11, u12, u13, u14, u15, u16, u17, u18, u19, u20, rfl, hi⟩
    by_cases hin : i < n
    · have hx := hc i hin
      have hxb := hb (l.getD i 0) (by rw [List.getD_eq_getElem?_getD, List.getElem?_eq_getElem (by omega)]; exact List.getElem_mem _)
      have hsl := sumAt_lt hb i
      have hss := sumAt_succ l i (by omega)
      have hz := (bitsU (sumAt l i) (l.getD i 0).toNat hsl (by omega)).2.2
      rw [Int.toNat_of_nonneg hxb.1] at hz
      have HZ : Hid (bits .xor .u32 ((sumAt l i : Nat) : Int) (l.getD i 0) = ((sumAt l i ^^^ (l.getD i 0).toNat : Nat) : Int)) := Lib.hid hz
      have hlt : sumAt l i ^^^ (l.getD i 0).toNat < 4294967296 := Nat.xor_lt_two_pow (n := 32) hsl (by omega)
      have HS : Hid (citerN 8 (sumAt l i ^^^ (l.getD i 0).toNat) = sumAt l (i + 1)) := Lib.hid hss.symm
      have hD : decide ((i : Int) = n) = false := by simp; omega
      clear hc hss hz
      generalize l.getD i 0 = x at hx hxb HZ hlt HS
      go_wp2_with (go_at_call 43; refine (Tryz.eightZ _ _ HZ hlt _).mono ?_; rintro e w' ⟨rfl, rfl⟩)
      go_step3
      rw [HS.out]
      refine ⟨rfl, ⟨rfl, i + 1, _, _, _, _, _, _, _, _, _, _, _, _, _, _, _, _, ⟨rfl, by omega⟩⟩, ?_⟩
      simp [vInt]; omega
    · obtain rfl : i = n := by omega
      have hD : decide ((i : Int) = i) = true := by simp
      clear hc
      go_wp2
      simp only [Exit.jump]
      go_ret
      refine ⟨?_, rfl⟩
      have hs2 : sumAt l i = crcN 4294967295 l := by unfold sumAt; rw [← hl, List.take_length]
      show Ending.returned (Value.int .u32 (bits .xor .u32 IntKind.u32.max ((sumAt l i : Nat) : Int))) = _
      rw [inv32 _ (sumAt_lt hb i), hs2]
      rfl
end Go.Proofs
end

section
namespace Go.Proofs
open Go.RowKit Go.FM
set_option maxRecDepth 100000
theorem rstep (x : Nat) (h : x < 4294967296) : (x % 2 = 1 → bits .xor .u32 ((x : Int) / 2) 3988292384 = (cstepN x : Nat)) ∧ (¬ x % 2 = 1 → (x : Int) / 2 = (cstepN x : Nat)) := by
  have e2 : (x : Int) / 2 = ((x / 2 : Nat) : Int) := by omega
  constructor
  · intro hx
    have e4 : (3988292384 : Int) = ((3988292384 : Nat) : Int) := rfl
    rw [e2, e4, (bitsU (x / 2) 3988292384 (by omega) (by decide)).2.2]
    unfold cstepN
    rw [if_pos hx]
    rfl
  · intro hx
    rw [e2]
    unfold cstepN
    rw [if_neg hx]
theorem and1 (x : Nat) (h : x < 4294967296) : bits .and .u32 (x : Int) 1 = ((x % 2 : Nat) : Int) := by
  have := (bitsU x 1 h (by decide)).1
  rw [Nat.and_one_is_mod] at this
  exact this
set_option maxHeartbeats 4000000 in
theorem Tryz.rsum : SumSpec Tryz.prog 25 := by
  intro A n m l hl hb hn w hc
  have HC := Lib.hid hc
  have HB := Lib.hid hb
  have HL := Lib.hid hl
  clear hc hb hl
  go_enter Tryz.func25, Tryz.ntmps25
  go_wp2_with fail
  go_loop [3, 4, 5] (fun t3 t t5 => ∃ i : Nat, i ≤ n ∧ t = .int .i64 i ∧ t3 = .int .u32 (sumAt l i : Nat)) (fun _ t _ => n - (intOf t).toNat)
  case atStart => exact ⟨0, Nat.zero_le _, rfl, rfl⟩
  case round =>
    obtain ⟨i, hi, rfl, rfl⟩ := hrel
    by_cases hlt : i < n
    · have hD : decide ((i : Int) < n) = true := decide_eq_true (by omega)
      have hD' : decide (i < n) = true := decide_eq_true hlt
      have hx := (HC.out) i hlt
      have hxb := (HB.out) (l.getD i 0) (by rw [List.getD_eq_getElem?_getD, List.getElem?_eq_getElem (by rw [HL.out]; exact hlt)]; exact List.getElem_mem _)
      have hsl := sumAt_lt HB.out i
      have hss := sumAt_succ l i (by rw [HL.out]; exact hlt)
      have hz := (bitsU (sumAt l i) (l.getD i 0).toNat hsl (by omega)).2.2
      rw [Int.toNat_of_nonneg hxb.1] at hz
      have HS : Hid (citerN 8 (sumAt l i ^^^ (l.getD i 0).toNat) = sumAt l (i + 1)) := Lib.hid hss.symm
      have hlt32 : sumAt l i ^^^ (l.getD i 0).toNat < 4294967296 := Nat.xor_lt_two_pow (n := 32) hsl (by omega)
      obtain ⟨x, hxx⟩ : ∃ x, l.getD i 0 = x := ⟨_, rfl⟩
      obtain ⟨s, hs⟩ : ∃ s, sumAt l i = s := ⟨_, rfl⟩
      rw [hxx, hs] at hz HS hlt32
      rw [hxx] at hx hxb
      obtain ⟨z, hzz⟩ : ∃ z, s ^^^ x.toNat = z := ⟨_, rfl⟩
      rw [hzz] at hz HS hlt32
      rw [hs]
      clear hss hsl hs hxx hzz
      go_wp2_with fail
      go_loop [3, 5] (fun t3 t => ∃ k : Nat, k ≤ 8 ∧ t = .int .i64 k ∧ t3 = .int .u32 (citerN k z : Nat)) (fun _ t => 8 - (intOf t).toNat)
      case atStart => exact ⟨0, by omega, rfl, rfl⟩
      case round =>
        obtain ⟨k, hk, rfl, rfl⟩ := hrel
        have hcl := citerN_lt k z hlt32
        have hr := rstep (citerN k z) hcl
        have ha := and1 (citerN k z) hcl
        rw [← citer_succ] at hr
        obtain ⟨q, hq⟩ : ∃ q, citerN k z = q := ⟨_, rfl⟩
        obtain ⟨q2, hq2⟩ : ∃ q2, citerN (k + 1) z = q2 := ⟨_, rfl⟩
        rw [hq, hq2] at hr
        rw [hq] at ha hcl ⊢
        have HQ2 := Lib.hid hq2
        have HQ := Lib.hid hq
        clear hq hq2
        by_cases h8 : k < 8
        · have hE : decide ((k : Int) < 8) = true := decide_eq_true (by omega)
          have hE' : decide (k < 8) = true := decide_eq_true h8
          by_cases ho : q % 2 = 1
          · have h1 := hr.1 ho
            rw [ho] at ha
            have HA : bits .and .u32 (q : Int) 1 = 1 := ha
            clear hr ho ha
            go_wp2_with fail
            exact ⟨⟨k + 1, by omega, rfl, by rw [HQ2.out]⟩, by simp [intOf]; omega⟩
          · have h1 := hr.2 ho
            have h0 : q % 2 = 0 := by omega
            rw [h0] at ha
            have HA : bits .and .u32 (q : Int) 1 = 0 := ha
            clear hr ho h0 ha
            go_wp2_with fail
            exact ⟨⟨k + 1, by omega, rfl, by rw [HQ2.out]⟩, by simp [intOf]; omega⟩
        · obtain rfl : k = 8 := by omega
          have hF : Hid (q = sumAt l (i + 1)) := Lib.hid (by rw [← HQ.out, HS.out])
          clear hr ha
          go_wp2_with fail
          exact ⟨⟨i + 1, by omega, rfl, by rw [hF.out]⟩, by simp [intOf]; omega⟩
    · obtain rfl : i = n := by omega
      have hD : decide ((i : Int) < i) = false := by simp
      have hD' : decide (i < i) = false := by simp
      have hs2 : sumAt l i = crcN 4294967295 l := by unfold sumAt; rw [← HL.out, List.take_length]
      have hs3 := inv32 _ (sumAt_lt HB.out i)
      rw [hs2] at hs3 ⊢
      have HS3 := Lib.hid hs3
      clear hs2 hs3
      go_wp2_with fail
      go_ret
      refine ⟨?_, rfl⟩
      show Ending.returned (Value.int IntKind.u32 (bits .xor .u32 IntKind.u32.max ((crcN 4294967295 l : Nat) : Int))) = _
      rw [HS3.out]
      rfl
end Go.Proofs
end

section
namespace Go.Proofs
open Go.RowKit
set_option maxRecDepth 100000
theorem Tryz.get4_no (w : World) (A : Option Addr) (n c : Nat) (h : n < 4) :
    Calls Tryz.prog 29 #[.slice A n c, .int .i64 0] w fun e w' => e = .returned (.tuple #[.int .u32 0, .int .i64 0, .int .i64 5]) ∧ w' = w := by
  have g2 : decide ((n : Int) < 0) = false := by simp
  have g3 : decide ((n : Int) < 4) = true := decide_eq_true (by omega)
  have g3' : decide (n < 4) = true := decide_eq_true h
  have s1 : IntKind.i64.wrap (n : Int) = (n : Int) := wrapi (by omega) (by omega)
  have s2 : IntKind.i64.wrap ((n : Int) - 0) = (n : Int) := by rw [wrapi (by omega) (by omega)]; omega
  go_enter Tryz.func29, Tryz.ntmps29
  go_wp2_with fail
  go_ret3
  exact ⟨rfl, rfl⟩
set_option maxHeartbeats 4000000 in
theorem Tryz.get4 (w : World) {A : Option Addr} {n c : Nat} {l : List UInt8} (hD : DI w A n c l) (hn : n ≤ 400) (h : 4 ≤ n) :
    Calls Tryz.prog 29 #[.slice A n c, .int .i64 0] w fun e w' => (∃ v : Int, e = .returned (.tuple #[.int .u32 v, .int .i64 4, .int .i64 0])) ∧ w'.heap = w.heap ∧ Below w.heap.size w w' := by
  have hln := hD.len
  have hlc := hD.le
  obtain ⟨x0, h0⟩ : ∃ x, l[0]? = some x := ⟨_, List.getElem?_eq_getElem (by omega)⟩
  obtain ⟨x1, h1⟩ : ∃ x, l[1]? = some x := ⟨_, List.getElem?_eq_getElem (by omega)⟩
  obtain ⟨x2, h2⟩ : ∃ x, l[2]? = some x := ⟨_, List.getElem?_eq_getElem (by omega)⟩
  obtain ⟨x3, h3⟩ : ∃ x, l[3]? = some x := ⟨_, List.getElem?_eq_getElem (by omega)⟩
  obtain ⟨X, hX, c0⟩ := hD.at' 0 x0 h0
  subst hX
  obtain ⟨Y, hY, c1⟩ := hD.at' 1 x1 h1
  cases hY
  obtain ⟨Y, hY, c2⟩ := hD.at' 2 x2 h2
  cases hY
  obtain ⟨Y, hY, c3⟩ := hD.at' 3 x3 h3
  cases hY
  have hs := World.cell?_spot c0
  obtain ⟨b, o, sp⟩ := X
  have hsp : sp = none := by
    cases sp with
    | none => rfl
    | some q => simp [Addr.add] at hs
  subst hsp
  rw [Addr.add_lit] at c0 c1 c2 c3
  rw [Nat.add_zero] at c0
  unfold u8v at c0 c1 c2 c3
  obtain ⟨y0, hy0⟩ : ∃ y, x0.toNat = y := ⟨_, rfl⟩
  obtain ⟨y1, hy1⟩ : ∃ y, x1.toNat = y := ⟨_, rfl⟩
  obtain ⟨y2, hy2⟩ : ∃ y, x2.toNat = y := ⟨_, rfl⟩
  obtain ⟨y3, hy3⟩ : ∃ y, x3.toNat = y := ⟨_, rfl⟩
  rw [hy0] at c0
  rw [hy1] at c1
  rw [hy2] at c2
  rw [hy3] at c3
  have g2 : decide ((n : Int) < 0) = false := by simp
  have g3 : decide ((n : Int) < 4) = false := decide_eq_false (by omega)
  have g3' : decide (n < 4) = false := decide_eq_false (by omega)
  have s1 : IntKind.i64.wrap (n : Int) = (n : Int) := wrapi (by omega) (by omega)
  have k1 : IntKind.i64.wrap 1 = 1 := by decide
  have k2 : IntKind.i64.wrap 2 = 2 := by decide
  have k3 : IntKind.i64.wrap 3 = 3 := by decide
  have i0 : 0 < n := by omega
  have j1 : (1 : Int) < (n : Int) := by omega
  have j2 : (2 : Int) < (n : Int) := by omega
  have j3 : (3 : Int) < (n : Int) := by omega
  have i1 : 1 < n := by omega
  have i2 : 2 < n := by omega
  have i3 : 3 < n := by omega
  clear hD hs h0 h1 h2 h3 hy0 hy1 hy2 hy3
  go_enter Tryz.func29, Tryz.ntmps29
  go_wp2_with fail
  refine wp_region_noPanic ?_
  refine wp_region_held_drew (S := (fun W => W.cell? ⟨b, o, none⟩ = some (.int .u8 y0) ∧ W.cell? ⟨b, o + 1, none⟩ = some (.int .u8 y1) ∧ W.cell? ⟨b, o + 2, none⟩ = some (.int .u8 y2) ∧ W.cell? ⟨b, o + 3, none⟩ = some (.int .u8 y3))) (by kernel_rfl) ?_ (fun hHeld => ?_)
  · exact ⟨c0, c1, c2, c3⟩
  refine wpAnyH_take (i := 0) (oi := { dst := some 20, op := Op.move (Operand.tmp 0), type := 27, pos := "num.go:90", after := #[], guard := none }) (v := ?_) rfl (by kernel_rfl) (by kernel_rfl) (by kernel_rfl) (fun _ _ _ h => h) (Or.inl ⟨by rfl, ?_⟩) (by assumption) ?_
  rotate_left
  · (intro w hSw; (try dsimp only at hSw); go_simp; try with_reducible rfl)
  try simp only [Act.put, List.setIfInBounds_toArray, List.set_cons_zero, List.set_cons_succ]
  refine wpAnyH_take (i := 1) (oi := { dst := some 21, op := Op.move (Operand.tmp 1), type := 3, pos := "num.go:90", after := #[], guard := none }) (v := ?_) rfl (by kernel_rfl) (by kernel_rfl) (by kernel_rfl) (fun _ _ _ h => h) (Or.inl ⟨by rfl, ?_⟩) (by assumption) ?_
  rotate_left
  · (intro w hSw; (try dsimp only at hSw); go_simp; try with_reducible rfl)
  try simp only [Act.put, List.setIfInBounds_toArray, List.set_cons_zero, List.set_cons_succ]
  refine wpAnyH_take (i := 2) (oi := { dst := some 22, op := Op.indexAddr 27 (Operand.tmp 20) (Operand.tmp 21), type := 0, pos := "num.go:90", after := #[{ on := 0, ground := Ground.data }, { on := 1, ground := Ground.data }], guard := none }) (v := ?_) rfl (by kernel_rfl) (by kernel_rfl) (by kernel_rfl) (fun _ _ _ h => h) (Or.inl ⟨by rfl, ?_⟩) (by assumption) ?_
  rotate_left
  · (intro w hSw; (try dsimp only at hSw); go_simp; try with_reducible rfl)
  try simp only [Act.put, List.setIfInBounds_toArray, List.set_cons_zero, List.set_cons_succ]
  refine wpAnyH_take (i := 3) (oi := { dst := some 23, op := Op.load 5 (Operand.tmp 22), type := 5, pos := "num.go:90", after := #[{ on := 2, ground := Ground.data }], guard := none }) (v := ?_) rfl (by kernel_rfl) (by kernel_rfl) (by kernel_rfl) (fun _ _ _ h => h) (Or.inl ⟨by rfl, ?_⟩) (by assumption) ?_
  rotate_left
  · (intro w hSw; (try dsimp only at hSw); go_simp; try with_reducible rfl)
  try simp only [Act.put, List.setIfInBounds_toArray, List.set_cons_zero, List.set_cons_succ]
  refine wpAnyH_take (i := 4) (oi := { dst := some 24, op := Op.convert 5 62 (Operand.tmp 23), type := 62, pos := "num.go:90", after := #[{ on := 3, ground := Ground.data }], guard := none }) (v := ?_) rfl (by kernel_rfl) (by kernel_rfl) (by kernel_rfl) (fun _ _ _ h => h) (Or.inl ⟨by rfl, ?_⟩) (by assumption) ?_
  rotate_left
  · (intro w hSw; (try dsimp only at hSw); go_simp; try with_reducible rfl)
  try simp only [Act.put, List.setIfInBounds_toArray, List.set_cons_zero, List.set_cons_succ]
  refine wpAnyH_take (i := 5) (oi := { dst := some 25, op := Op.move (Operand.tmp 0), type := 27, pos := "num.go:90", after := #[], guard := none }) (v := ?_) rfl (by kernel_rfl) (by kernel_rfl) (by kernel_rfl) (fun _ _ _ h => h) (Or.inl ⟨by rfl, ?_⟩) (by assumption) ?_
  rotate_left
  · (intro w hSw; (try dsimp only at hSw); go_simp; try with_reducible rfl)
  try simp only [Act.put, List.setIfInBounds_toArray, List.set_cons_zero, List.set_cons_succ]
  refine wpAnyH_take (i := 6) (oi := { dst := some 26, op := Op.move (Operand.tmp 1), type := 3, pos := "num.go:90", after := #[], guard := none }) (v := ?_) rfl (by kernel_rfl) (by kernel_rfl) (by kernel_rfl) (fun _ _ _ h => h) (Or.inl ⟨by rfl, ?_⟩) (by assumption) ?_
  rotate_left
  · (intro w hSw; (try dsimp only at hSw); go_simp; try with_reducible rfl)
  try simp only [Act.put, List.setIfInBounds_toArray, List.set_cons_zero, List.set_cons_succ]
  refine wpAnyH_take (i := 7) (oi := { dst := some 27, op := Op.binOp BinOp.add 3 (Operand.tmp 26) (Operand.const (Value.int IntKind.i64 1)) 3, type := 3, pos := "num.go:90", after := #[{ on := 6, ground := Ground.data }], guard := none }) (v := ?_) rfl (by kernel_rfl) (by kernel_rfl) (by kernel_rfl) (fun _ _ _ h => h) (Or.inl ⟨by rfl, ?_⟩) (by assumption) ?_
  rotate_left
  · (intro w hSw; (try dsimp only at hSw); go_simp; try with_reducible rfl)
  try simp only [Act.put, List.setIfInBounds_toArray, List.set_cons_zero, List.set_cons_succ]
  refine wpAnyH_take (i := 8) (oi := { dst := some 28, op := Op.indexAddr 27 (Operand.tmp 25) (Operand.tmp 27), type := 0, pos := "num.go:90", after := #[{ on := 5, ground := Ground.data }, { on := 7, ground := Ground.data }], guard := none }) (v := ?_) rfl (by kernel_rfl) (by kernel_rfl) (by kernel_rfl) (fun _ _ _ h => h) (Or.inl ⟨by rfl, ?_⟩) (by assumption) ?_
  rotate_left
  · (intro w hSw; (try dsimp only at hSw); go_simp; try with_reducible rfl)
  try simp only [Act.put, List.setIfInBounds_toArray, List.set_cons_zero, List.set_cons_succ]
  refine wpAnyH_take (i := 9) (oi := { dst := some 29, op := Op.load 5 (Operand.tmp 28), type := 5, pos := "num.go:90", after := #[{ on := 8, ground := Ground.data }], guard := none }) (v := ?_) rfl (by kernel_rfl) (by kernel_rfl) (by kernel_rfl) (fun _ _ _ h => h) (Or.inl ⟨by rfl, ?_⟩) (by assumption) ?_
  rotate_left
  · (intro w hSw; (try dsimp only at hSw); go_simp; try with_reducible rfl)
  try simp only [Act.put, List.setIfInBounds_toArray, List.set_cons_zero, List.set_cons_succ]
  refine wpAnyH_take (i := 10) (oi := { dst := some 30, op := Op.convert 5 62 (Operand.tmp 29), type := 62, pos := "num.go:90", after := #[{ on := 9, ground := Ground.data }], guard := none }) (v := ?_) rfl (by kernel_rfl) (by kernel_rfl) (by kernel_rfl) (fun _ _ _ h => h) (Or.inl ⟨by rfl, ?_⟩) (by assumption) ?_
  rotate_left
  · (intro w hSw; (try dsimp only at hSw); go_simp; try with_reducible rfl)
  try simp only [Act.put, List.setIfInBounds_toArray, List.set_cons_zero, List.set_cons_succ]
  refine wpAnyH_take (i := 11) (oi := { dst := some 31, op := Op.binOp BinOp.shl 62 (Operand.tmp 30) (Operand.const (Value.int IntKind.u64 8)) 93, type := 62, pos := "num.go:90", after := #[{ on := 10, ground := Ground.data }], guard := none }) (v := ?_) rfl (by kernel_rfl) (by kernel_rfl) (by kernel_rfl) (fun _ _ _ h => h) (Or.inl ⟨by rfl, ?_⟩) (by assumption) ?_
  rotate_left
  · (intro w hSw; (try dsimp only at hSw); go_simp; try with_reducible rfl)
  try simp only [Act.put, List.setIfInBounds_toArray, List.set_cons_zero, List.set_cons_succ]
  refine wpAnyH_take (i := 12) (oi := { dst := some 32, op := Op.binOp BinOp.or 62 (Operand.tmp 24) (Operand.tmp 31) 62, type := 62, pos := "num.go:90", after := #[{ on := 4, ground := Ground.data }, { on := 11, ground := Ground.data }], guard := none }) (v := ?_) rfl (by kernel_rfl) (by kernel_rfl) (by kernel_rfl) (fun _ _ _ h => h) (Or.inl ⟨by rfl, ?_⟩) (by assumption) ?_
  rotate_left
  · (intro w hSw; (try dsimp only at hSw); go_simp; try with_reducible rfl)
  try simp only [Act.put, List.setIfInBounds_toArray, List.set_cons_zero, List.set_cons_succ]
  refine wpAnyH_take (i := 13) (oi := { dst := some 33, op := Op.move (Operand.tmp 0), type := 27, pos := "num.go:90", after := #[], guard := none }) (v := ?_) rfl (by kernel_rfl) (by kernel_rfl) (by kernel_rfl) (fun _ _ _ h => h) (Or.inl ⟨by rfl, ?_⟩) (by assumption) ?_
  rotate_left
  · (intro w hSw; (try dsimp only at hSw); go_simp; try with_reducible rfl)
  try simp only [Act.put, List.setIfInBounds_toArray, List.set_cons_zero, List.set_cons_succ]
  refine wpAnyH_take (i := 14) (oi := { dst := some 34, op := Op.move (Operand.tmp 1), type := 3, pos := "num.go:90", after := #[], guard := none }) (v := ?_) rfl (by kernel_rfl) (by kernel_rfl) (by kernel_rfl) (fun _ _ _ h => h) (Or.inl ⟨by rfl, ?_⟩) (by assumption) ?_
  rotate_left
  · (intro w hSw; (try dsimp only at hSw); go_simp; try with_reducible rfl)
  try simp only [Act.put, List.setIfInBounds_toArray, List.set_cons_zero, List.set_cons_succ]
  refine wpAnyH_take (i := 15) (oi := { dst := some 35, op := Op.binOp BinOp.add 3 (Operand.tmp 34) (Operand.const (Value.int IntKind.i64 2)) 3, type := 3, pos := "num.go:90", after := #[{ on := 14, ground := Ground.data }], guard := none }) (v := ?_) rfl (by kernel_rfl) (by kernel_rfl) (by kernel_rfl) (fun _ _ _ h => h) (Or.inl ⟨by rfl, ?_⟩) (by assumption) ?_
  rotate_left
  · (intro w hSw; (try dsimp only at hSw); go_simp; try with_reducible rfl)
  try simp only [Act.put, List.setIfInBounds_toArray, List.set_cons_zero, List.set_cons_succ]
  refine wpAnyH_take (i := 16) (oi := { dst := some 36, op := Op.indexAddr 27 (Operand.tmp 33) (Operand.tmp 35), type := 0, pos := "num.go:90", after := #[{ on := 13, ground := Ground.data }, { on := 15, ground := Ground.data }], guard := none }) (v := ?_) rfl (by kernel_rfl) (by kernel_rfl) (by kernel_rfl) (fun _ _ _ h => h) (Or.inl ⟨by rfl, ?_⟩) (by assumption) ?_
  rotate_left
  · (intro w hSw; (try dsimp only at hSw); go_simp; try with_reducible rfl)
  try simp only [Act.put, List.setIfInBounds_toArray, List.set_cons_zero, List.set_cons_succ]
  refine wpAnyH_take (i := 17) (oi := { dst := some 37, op := Op.load 5 (Operand.tmp 36), type := 5, pos := "num.go:90", after := #[{ on := 16, ground := Ground.data }], guard := none }) (v := ?_) rfl (by kernel_rfl) (by kernel_rfl) (by kernel_rfl) (fun _ _ _ h => h) (Or.inl ⟨by rfl, ?_⟩) (by assumption) ?_
  rotate_left
  · (intro w hSw; (try dsimp only at hSw); go_simp; try with_reducible rfl)
  try simp only [Act.put, List.setIfInBounds_toArray, List.set_cons_zero, List.set_cons_succ]
  refine wpAnyH_take (i := 18) (oi := { dst := some 38, op := Op.convert 5 62 (Operand.tmp 37), type := 62, pos := "num.go:90", after := #[{ on := 17, ground := Ground.data }], guard := none }) (v := ?_) rfl (by kernel_rfl) (by kernel_rfl) (by kernel_rfl) (fun _ _ _ h => h) (Or.inl ⟨by rfl, ?_⟩) (by assumption) ?_
  rotate_left
  · (intro w hSw; (try dsimp only at hSw); go_simp; try with_reducible rfl)
  try simp only [Act.put, List.setIfInBounds_toArray, List.set_cons_zero, List.set_cons_succ]
  refine wpAnyH_take (i := 19) (oi := { dst := some 39, op := Op.binOp BinOp.shl 62 (Operand.tmp 38) (Operand.const (Value.int IntKind.u64 16)) 93, type := 62, pos := "num.go:90", after := #[{ on := 18, ground := Ground.data }], guard := none }) (v := ?_) rfl (by kernel_rfl) (by kernel_rfl) (by kernel_rfl) (fun _ _ _ h => h) (Or.inl ⟨by rfl, ?_⟩) (by assumption) ?_
  rotate_left
  · (intro w hSw; (try dsimp only at hSw); go_simp; try with_reducible rfl)
  try simp only [Act.put, List.setIfInBounds_toArray, List.set_cons_zero, List.set_cons_succ]
  refine wpAnyH_take (i := 20) (oi := { dst := some 40, op := Op.binOp BinOp.or 62 (Operand.tmp 32) (Operand.tmp 39) 62, type := 62, pos := "num.go:90", after := #[{ on := 12, ground := Ground.data }, { on := 19, ground := Ground.data }], guard := none }) (v := ?_) rfl (by kernel_rfl) (by kernel_rfl) (by kernel_rfl) (fun _ _ _ h => h) (Or.inl ⟨by rfl, ?_⟩) (by assumption) ?_
  rotate_left
  · (intro w hSw; (try dsimp only at hSw); go_simp; try with_reducible rfl)
  try simp only [Act.put, List.setIfInBounds_toArray, List.set_cons_zero, List.set_cons_succ]
  refine wpAnyH_take (i := 21) (oi := { dst := some 41, op := Op.move (Operand.tmp 0), type := 27, pos := "num.go:90", after := #[], guard := none }) (v := ?_) rfl (by kernel_rfl) (by kernel_rfl) (by kernel_rfl) (fun _ _ _ h => h) (Or.inl ⟨by rfl, ?_⟩) (by assumption) ?_
  rotate_left
  · (intro w hSw; (try dsimp only at hSw); go_simp; try with_reducible rfl)
  try simp only [Act.put, List.setIfInBounds_toArray, List.set_cons_zero, List.set_cons_succ]
  refine wpAnyH_take (i := 22) (oi := { dst := some 42, op := Op.move (Operand.tmp 1), type := 3, pos := "num.go:90", after := #[], guard := none }) (v := ?_) rfl (by kernel_rfl) (by kernel_rfl) (by kernel_rfl) (fun _ _ _ h => h) (Or.inl ⟨by rfl, ?_⟩) (by assumption) ?_
  rotate_left
  · (intro w hSw; (try dsimp only at hSw); go_simp; try with_reducible rfl)
  try simp only [Act.put, List.setIfInBounds_toArray, List.set_cons_zero, List.set_cons_succ]
  refine wpAnyH_take (i := 23) (oi := { dst := some 43, op := Op.binOp BinOp.add 3 (Operand.tmp 42) (Operand.const (Value.int IntKind.i64 3)) 3, type := 3, pos := "num.go:90", after := #[{ on := 22, ground := Ground.data }], guard := none }) (v := ?_) rfl (by kernel_rfl) (by kernel_rfl) (by kernel_rfl) (fun _ _ _ h => h) (Or.inl ⟨by rfl, ?_⟩) (by assumption) ?_
  rotate_left
  · (intro w hSw; (try dsimp only at hSw); go_simp; try with_reducible rfl)
  try simp only [Act.put, List.setIfInBounds_toArray, List.set_cons_zero, List.set_cons_succ]
  refine wpAnyH_take (i := 24) (oi := { dst := some 44, op := Op.indexAddr 27 (Operand.tmp 41) (Operand.tmp 43), type := 0, pos := "num.go:90", after := #[{ on := 21, ground := Ground.data }, { on := 23, ground := Ground.data }], guard := none }) (v := ?_) rfl (by kernel_rfl) (by kernel_rfl) (by kernel_rfl) (fun _ _ _ h => h) (Or.inl ⟨by rfl, ?_⟩) (by assumption) ?_
  rotate_left
  · (intro w hSw; (try dsimp only at hSw); go_simp; try with_reducible rfl)
  try simp only [Act.put, List.setIfInBounds_toArray, List.set_cons_zero, List.set_cons_succ]
  refine wpAnyH_take (i := 25) (oi := { dst := some 45, op := Op.load 5 (Operand.tmp 44), type := 5, pos := "num.go:90", after := #[{ on := 24, ground := Ground.data }], guard := none }) (v := ?_) rfl (by kernel_rfl) (by kernel_rfl) (by kernel_rfl) (fun _ _ _ h => h) (Or.inl ⟨by rfl, ?_⟩) (by assumption) ?_
  rotate_left
  · (intro w hSw; (try dsimp only at hSw); go_simp; try with_reducible rfl)
  try simp only [Act.put, List.setIfInBounds_toArray, List.set_cons_zero, List.set_cons_succ]
  refine wpAnyH_take (i := 26) (oi := { dst := some 46, op := Op.convert 5 62 (Operand.tmp 45), type := 62, pos := "num.go:90", after := #[{ on := 25, ground := Ground.data }], guard := none }) (v := ?_) rfl (by kernel_rfl) (by kernel_rfl) (by kernel_rfl) (fun _ _ _ h => h) (Or.inl ⟨by rfl, ?_⟩) (by assumption) ?_
  rotate_left
  · (intro w hSw; (try dsimp only at hSw); go_simp; try with_reducible rfl)
  try simp only [Act.put, List.setIfInBounds_toArray, List.set_cons_zero, List.set_cons_succ]
  refine wpAnyH_take (i := 27) (oi := { dst := some 47, op := Op.binOp BinOp.shl 62 (Operand.tmp 46) (Operand.const (Value.int IntKind.u64 24)) 93, type := 62, pos := "num.go:90", after := #[{ on := 26, ground := Ground.data }], guard := none }) (v := ?_) rfl (by kernel_rfl) (by kernel_rfl) (by kernel_rfl) (fun _ _ _ h => h) (Or.inl ⟨by rfl, ?_⟩) (by assumption) ?_
  rotate_left
  · (intro w hSw; (try dsimp only at hSw); go_simp; try with_reducible rfl)
  try simp only [Act.put, List.setIfInBounds_toArray, List.set_cons_zero, List.set_cons_succ]
  refine wpAnyH_take (i := 28) (oi := { dst := some 48, op := Op.binOp BinOp.or 62 (Operand.tmp 40) (Operand.tmp 47) 62, type := 62, pos := "num.go:90", after := #[{ on := 20, ground := Ground.data }, { on := 27, ground := Ground.data }], guard := none }) (v := ?_) rfl (by kernel_rfl) (by kernel_rfl) (by kernel_rfl) (fun _ _ _ h => h) (Or.inl ⟨by rfl, ?_⟩) (by assumption) ?_
  rotate_left
  · (intro w hSw; (try dsimp only at hSw); go_simp; try with_reducible rfl)
  try simp only [Act.put, List.setIfInBounds_toArray, List.set_cons_zero, List.set_cons_succ]
  refine wpAnyH_take (i := 29) (oi := { dst := some 4, op := Op.assign (Operand.tmp 48), type := 62, pos := "num.go:90", after := #[{ on := 28, ground := Ground.data }, { on := 0, ground := Ground.phase }, { on := 1, ground := Ground.phase }, { on := 2, ground := Ground.phase }, { on := 3, ground := Ground.phase }, { on := 4, ground := Ground.phase }, { on := 5, ground := Ground.phase }, { on := 6, ground := Ground.phase }, { on := 7, ground := Ground.phase }, { on := 8, ground := Ground.phase }, { on := 9, ground := Ground.phase }, { on := 10, ground := Ground.phase }, { on := 11, ground := Ground.phase }, { on := 12, ground := Ground.phase }, { on := 13, ground := Ground.phase }, { on := 14, ground := Ground.phase }, { on := 15, ground := Ground.phase }, { on := 16, ground := Ground.phase }, { on := 17, ground := Ground.phase }, { on := 18, ground := Ground.phase }, { on := 19, ground := Ground.phase }, { on := 20, ground := Ground.phase }, { on := 21, ground := Ground.phase }, { on := 22, ground := Ground.phase }, { on := 23, ground := Ground.phase }, { on := 24, ground := Ground.phase }, { on := 25, ground := Ground.phase }, { on := 26, ground := Ground.phase }, { on := 27, ground := Ground.phase }, { on := 28, ground := Ground.phase }], guard := none }) (v := ?_) rfl (by kernel_rfl) (by kernel_rfl) (by kernel_rfl) (fun _ _ _ h => h) (Or.inl ⟨by rfl, ?_⟩) (by assumption) ?_
  rotate_left
  · (intro w hSw; (try dsimp only at hSw); go_simp; try with_reducible rfl)
  try simp only [Act.put, List.setIfInBounds_toArray, List.set_cons_zero, List.set_cons_succ]
  refine wpAnyH_take (i := 30) (oi := { dst := some 5, op := Op.assign (Operand.const (Value.int IntKind.i64 4)), type := 3, pos := "num.go:90", after := #[{ on := 29, ground := Ground.chain }, { on := 0, ground := Ground.phase }, { on := 1, ground := Ground.phase }, { on := 2, ground := Ground.phase }, { on := 3, ground := Ground.phase }, { on := 4, ground := Ground.phase }, { on := 5, ground := Ground.phase }, { on := 6, ground := Ground.phase }, { on := 7, ground := Ground.phase }, { on := 8, ground := Ground.phase }, { on := 9, ground := Ground.phase }, { on := 10, ground := Ground.phase }, { on := 11, ground := Ground.phase }, { on := 12, ground := Ground.phase }, { on := 13, ground := Ground.phase }, { on := 14, ground := Ground.phase }, { on := 15, ground := Ground.phase }, { on := 16, ground := Ground.phase }, { on := 17, ground := Ground.phase }, { on := 18, ground := Ground.phase }, { on := 19, ground := Ground.phase }, { on := 20, ground := Ground.phase }, { on := 21, ground := Ground.phase }, { on := 22, ground := Ground.phase }, { on := 23, ground := Ground.phase }, { on := 24, ground := Ground.phase }, { on := 25, ground := Ground.phase }, { on := 26, ground := Ground.phase }, { on := 27, ground := Ground.phase }, { on := 28, ground := Ground.phase }, { on := 29, ground := Ground.phase }], guard := none }) (v := ?_) rfl (by kernel_rfl) (by kernel_rfl) (by kernel_rfl) (fun _ _ _ h => h) (Or.inl ⟨by rfl, ?_⟩) (by assumption) ?_
  rotate_left
  · (intro w hSw; (try dsimp only at hSw); go_simp; try with_reducible rfl)
  try simp only [Act.put, List.setIfInBounds_toArray, List.set_cons_zero, List.set_cons_succ]
  refine wpAnyH_take (i := 31) (oi := { dst := some 6, op := Op.assign (Operand.const (Value.int IntKind.i64 0)), type := 29, pos := "num.go:90", after := #[{ on := 30, ground := Ground.chain }, { on := 0, ground := Ground.phase }, { on := 1, ground := Ground.phase }, { on := 2, ground := Ground.phase }, { on := 3, ground := Ground.phase }, { on := 4, ground := Ground.phase }, { on := 5, ground := Ground.phase }, { on := 6, ground := Ground.phase }, { on := 7, ground := Ground.phase }, { on := 8, ground := Ground.phase }, { on := 9, ground := Ground.phase }, { on := 10, ground := Ground.phase }, { on := 11, ground := Ground.phase }, { on := 12, ground := Ground.phase }, { on := 13, ground := Ground.phase }, { on := 14, ground := Ground.phase }, { on := 15, ground := Ground.phase }, { on := 16, ground := Ground.phase }, { on := 17, ground := Ground.phase }, { on := 18, ground := Ground.phase }, { on := 19, ground := Ground.phase }, { on := 20, ground := Ground.phase }, { on := 21, ground := Ground.phase }, { on := 22, ground := Ground.phase }, { on := 23, ground := Ground.phase }, { on := 24, ground := Ground.phase }, { on := 25, ground := Ground.phase }, { on := 26, ground := Ground.phase }, { on := 27, ground := Ground.phase }, { on := 28, ground := Ground.phase }, { on := 29, ground := Ground.phase }, { on := 30, ground := Ground.phase }], guard := none }) (v := ?_) rfl (by kernel_rfl) (by kernel_rfl) (by kernel_rfl) (fun _ _ _ h => h) (Or.inl ⟨by rfl, ?_⟩) (by assumption) ?_
  rotate_left
  · (intro w hSw; (try dsimp only at hSw); go_simp; try with_reducible rfl)
  try simp only [Act.put, List.setIfInBounds_toArray, List.set_cons_zero, List.set_cons_succ]
  refine wpAnyH_done (by kernel_rfl) ?_ _
  refine NoPanic.normal ?_
  go_wp2_with fail
  go_ret3
  exact ⟨⟨_, rfl⟩, rfl, (Below.refl _ _).drew⟩
theorem cell_heap {w w' : World} (h : w'.heap = w.heap) (a : Addr) : w'.cell? a = w.cell? a := by simp [World.cell?, h]
theorem RdIn.heap {W w w' : World} {b : Nat} {A : Option Addr} {n c : Nat} {l : List UInt8} {f : Int} {p : Nat} {e : Int} (h : RdIn W w b A n c l f p e) (k : w.heap = w'.heap) (hb : Below w.heap.size w w') : RdIn W w' b A n c l f p e :=
  ⟨h.rb.heap k, h.di, h.bel.trans (hb.mono h.bel.size), h.box, h.hn, h.hp⟩
set_option maxHeartbeats 4000000 in
theorem Tryz.rof32 {W w : World} {b : Nat} {A : Option Addr} {n c : Nat} {l : List UInt8} (h : RdIn W w b A n c l 0 0 0) (p' : Nat) (e' : Int) (hp : (if 4 ≤ n then ((4 : Nat), (0 : Int)) else (0, 5)) = (p', e')) :
    Calls Tryz.prog 28 #[.pointer (some ⟨b, 0, none⟩), .func (.func 29) #[] #[]] w fun y w' => (∃ v : Int, y = .returned (.int .u32 v)) ∧ Rd w b A n c 0 p' e' w' := by
  have h3 := h.rb.c3
  have h2 := h.rb.c2
  have h0 := h.rb.c0
  have HB := Lib.hid h
  have HP := Lib.hid hp
  have h2' : w.cell? ⟨b, 2, none⟩ = some (.int .i64 0) := h2
  clear h hp h2
  by_cases h4 : 4 ≤ n
  · have HE : Hid (p' = 4 ∧ e' = 0) := Lib.hid (by have := HP.out; rw [if_pos h4] at this; cases this; exact ⟨rfl, rfl⟩)
    clear HP
    go_enter Tryz.func28, Tryz.ntmps28
    go_wp2_with fail
    refine wp_region_noPanic ?_
    refine wp_region_held_drew (S := (fun W => W.cell? ⟨b, 0, none⟩ = some (.slice A n c) ∧ W.cell? ⟨b, 2, none⟩ = some (.int .i64 0))) (by kernel_rfl) ?_ (fun hHeld => ?_)
    · exact ⟨h0, h2'⟩
    refine wpAnyH_take (i := 0) (oi := { dst := some 16, op := Op.move (Operand.tmp 1), type := 68, pos := "read.go:89", after := #[], guard := none }) (v := ?_) rfl (by kernel_rfl) (by kernel_rfl) (by kernel_rfl) (fun _ _ _ h => h) (Or.inl ⟨by rfl, ?_⟩) (by assumption) ?_
    rotate_left
    · (intro w hSw; (try dsimp only at hSw); go_simp; try with_reducible rfl)
    try simp only [Act.put, List.setIfInBounds_toArray, List.set_cons_zero, List.set_cons_succ]
    refine wpAnyH_take (i := 1) (oi := { dst := some 17, op := Op.move (Operand.tmp 0), type := 65, pos := "read.go:89", after := #[], guard := none }) (v := ?_) rfl (by kernel_rfl) (by kernel_rfl) (by kernel_rfl) (fun _ _ _ h => h) (Or.inl ⟨by rfl, ?_⟩) (by assumption) ?_
    rotate_left
    · (intro w hSw; (try dsimp only at hSw); go_simp; try with_reducible rfl)
    try simp only [Act.put, List.setIfInBounds_toArray, List.set_cons_zero, List.set_cons_succ]
    refine wpAnyH_take (i := 2) (oi := { dst := some 18, op := Op.nilCheck (Operand.tmp 17), type := 0, pos := "read.go:89", after := #[{ on := 1, ground := Ground.data }], guard := none }) (v := ?_) rfl (by kernel_rfl) (by kernel_rfl) (by kernel_rfl) (fun _ _ _ h => h) (Or.inl ⟨by rfl, ?_⟩) (by assumption) ?_
    rotate_left
    · (intro w hSw; (try dsimp only at hSw); go_simp; try with_reducible rfl)
    try simp only [Act.put, List.setIfInBounds_toArray, List.set_cons_zero, List.set_cons_succ]
    refine wpAnyH_take (i := 3) (oi := { dst := some 19, op := Op.fieldAddr 96 (Operand.tmp 18) 0, type := 0, pos := "read.go:89", after := #[{ on := 2, ground := Ground.data }], guard := none }) (v := ?_) rfl (by kernel_rfl) (by kernel_rfl) (by kernel_rfl) (fun _ _ _ h => h) (Or.inl ⟨by rfl, ?_⟩) (by assumption) ?_
    rotate_left
    · (intro w hSw; (try dsimp only at hSw); go_simp; try with_reducible rfl)
    try simp only [Act.put, List.setIfInBounds_toArray, List.set_cons_zero, List.set_cons_succ]
    refine wpAnyH_take (i := 4) (oi := { dst := some 20, op := Op.load 27 (Operand.tmp 19), type := 27, pos := "read.go:89", after := #[{ on := 3, ground := Ground.data }], guard := none }) (v := ?_) rfl (by kernel_rfl) (by kernel_rfl) (by kernel_rfl) (fun _ _ _ h => h) (Or.inl ⟨by rfl, ?_⟩) (by assumption) ?_
    rotate_left
    · (intro w hSw; (try dsimp only at hSw); go_simp; try with_reducible rfl)
    try simp only [Act.put, List.setIfInBounds_toArray, List.set_cons_zero, List.set_cons_succ]
    refine wpAnyH_take (i := 5) (oi := { dst := some 21, op := Op.move (Operand.tmp 0), type := 65, pos := "read.go:89", after := #[], guard := none }) (v := ?_) rfl (by kernel_rfl) (by kernel_rfl) (by kernel_rfl) (fun _ _ _ h => h) (Or.inl ⟨by rfl, ?_⟩) (by assumption) ?_
    rotate_left
    · (intro w hSw; (try dsimp only at hSw); go_simp; try with_reducible rfl)
    try simp only [Act.put, List.setIfInBounds_toArray, List.set_cons_zero, List.set_cons_succ]
    refine wpAnyH_take (i := 6) (oi := { dst := some 22, op := Op.nilCheck (Operand.tmp 21), type := 0, pos := "read.go:89", after := #[{ on := 5, ground := Ground.data }], guard := none }) (v := ?_) rfl (by kernel_rfl) (by kernel_rfl) (by kernel_rfl) (fun _ _ _ h => h) (Or.inl ⟨by rfl, ?_⟩) (by assumption) ?_
    rotate_left
    · (intro w hSw; (try dsimp only at hSw); go_simp; try with_reducible rfl)
    try simp only [Act.put, List.setIfInBounds_toArray, List.set_cons_zero, List.set_cons_succ]
    refine wpAnyH_take (i := 7) (oi := { dst := some 23, op := Op.fieldAddr 96 (Operand.tmp 22) 2, type := 0, pos := "read.go:89", after := #[{ on := 6, ground := Ground.data }], guard := none }) (v := ?_) rfl (by kernel_rfl) (by kernel_rfl) (by kernel_rfl) (fun _ _ _ h => h) (Or.inl ⟨by rfl, ?_⟩) (by assumption) ?_
    rotate_left
    · (intro w hSw; (try dsimp only at hSw); go_simp; try with_reducible rfl)
    try simp only [Act.put, List.setIfInBounds_toArray, List.set_cons_zero, List.set_cons_succ]
    refine wpAnyH_take (i := 8) (oi := { dst := some 24, op := Op.load 3 (Operand.tmp 23), type := 3, pos := "read.go:89", after := #[{ on := 7, ground := Ground.data }], guard := none }) (v := ?_) rfl (by kernel_rfl) (by kernel_rfl) (by kernel_rfl) (fun _ _ _ h => h) (Or.inl ⟨by rfl, ?_⟩) (by assumption) ?_
    rotate_left
    · (intro w hSw; (try dsimp only at hSw); go_simp; try with_reducible rfl)
    try simp only [Act.put, List.setIfInBounds_toArray, List.set_cons_zero, List.set_cons_succ]
    refine wpAnyH_ready (rs := [9]) (by kernel_rfl) (by simp) ?_
    refine AllReadyH.cons (o := { dst := some 25, op := Op.call { callee := Callee.value (Operand.tmp 16), args := #[Operand.tmp 20, Operand.tmp 24], argTypes := #[27, 3] }, type := 97, pos := "read.go:89", after := #[{ on := 0, ground := Ground.data }, { on := 4, ground := Ground.data }, { on := 8, ground := Ground.data }], guard := none }) rfl (fun K hK => ?_) AllReadyH.nil
    go_simp
    refine (Tryz.get4 _ ((HB.out).dat.below ((Below.refl _ w).drew)) (HB.out).hn h4).mono ?_
    rintro x2 wg ⟨⟨vg, rfl⟩, hhg, hbg⟩
    refine hK.out _ _ ?_ (fun hHeld => ?_)
    · exact ⟨(cell_heap hhg _).trans h0, (cell_heap hhg _).trans h2'⟩
    clear hK K
    try simp only [Act.put, List.setIfInBounds_toArray, List.set_cons_zero, List.set_cons_succ]
    refine wpAnyH_take (i := 10) (oi := { dst := some 15, op := Op.move (Operand.tmp 25), type := 97, pos := "read.go:89", after := #[{ on := 9, ground := Ground.data }], guard := none }) (v := ?_) rfl (by kernel_rfl) (by kernel_rfl) (by kernel_rfl) (fun _ _ _ h => h) (Or.inl ⟨by rfl, ?_⟩) (by assumption) ?_
    rotate_left
    · (intro w hSw; (try dsimp only at hSw); go_simp; try with_reducible rfl)
    try simp only [Act.put, List.setIfInBounds_toArray, List.set_cons_zero, List.set_cons_succ]
    refine wpAnyH_take (i := 11) (oi := { dst := some 26, op := Op.extract (Operand.tmp 15) 0, type := 62, pos := "read.go:89", after := #[{ on := 10, ground := Ground.data }], guard := none }) (v := ?_) rfl (by kernel_rfl) (by kernel_rfl) (by kernel_rfl) (fun _ _ _ h => h) (Or.inl ⟨by rfl, ?_⟩) (by assumption) ?_
    rotate_left
    · (intro w hSw; (try dsimp only at hSw); go_simp; try with_reducible rfl)
    try simp only [Act.put, List.setIfInBounds_toArray, List.set_cons_zero, List.set_cons_succ]
    refine wpAnyH_take (i := 12) (oi := { dst := some 27, op := Op.extract (Operand.tmp 15) 1, type := 3, pos := "read.go:89", after := #[{ on := 10, ground := Ground.data }, { on := 14, ground := Ground.gcOnly Departure.lateStores }], guard := none }) (v := ?_) rfl (by kernel_rfl) (by kernel_rfl) (by kernel_rfl) (fun _ _ _ h => h) (Or.inl ⟨by rfl, ?_⟩) (by assumption) ?_
    rotate_left
    · (intro w hSw; (try dsimp only at hSw); go_simp; try with_reducible rfl)
    try simp only [Act.put, List.setIfInBounds_toArray, List.set_cons_zero, List.set_cons_succ]
    refine wpAnyH_take (i := 13) (oi := { dst := some 28, op := Op.extract (Operand.tmp 15) 2, type := 29, pos := "read.go:89", after := #[{ on := 10, ground := Ground.data }, { on := 15, ground := Ground.gcOnly Departure.lateStores }], guard := none }) (v := ?_) rfl (by kernel_rfl) (by kernel_rfl) (by kernel_rfl) (fun _ _ _ h => h) (Or.inl ⟨by rfl, ?_⟩) (by assumption) ?_
    rotate_left
    · (intro w hSw; (try dsimp only at hSw); go_simp; try with_reducible rfl)
    try simp only [Act.put, List.setIfInBounds_toArray, List.set_cons_zero, List.set_cons_succ]
    refine wpAnyH_take (i := 14) (oi := { dst := some 6, op := Op.assign (Operand.tmp 26), type := 62, pos := "read.go:89", after := #[{ on := 11, ground := Ground.data }, { on := 9, ground := Ground.chain }, { on := 0, ground := Ground.phase }, { on := 1, ground := Ground.phase }, { on := 2, ground := Ground.phase }, { on := 3, ground := Ground.phase }, { on := 4, ground := Ground.phase }, { on := 5, ground := Ground.phase }, { on := 6, ground := Ground.phase }, { on := 7, ground := Ground.phase }, { on := 8, ground := Ground.phase }, { on := 9, ground := Ground.phase }, { on := 10, ground := Ground.phase }, { on := 11, ground := Ground.phase }, { on := 12, ground := Ground.textOnly Departure.lateStores }, { on := 13, ground := Ground.textOnly Departure.lateStores }], guard := none }) (v := ?_) rfl (by kernel_rfl) (by kernel_rfl) (by kernel_rfl) (fun _ _ _ h => h) (Or.inl ⟨by rfl, ?_⟩) (by assumption) ?_
    rotate_left
    · (intro w hSw; (try dsimp only at hSw); go_simp; try with_reducible rfl)
    try simp only [Act.put, List.setIfInBounds_toArray, List.set_cons_zero, List.set_cons_succ]
    refine wpAnyH_take (i := 15) (oi := { dst := some 7, op := Op.assign (Operand.tmp 27), type := 3, pos := "read.go:89", after := #[{ on := 12, ground := Ground.data }, { on := 14, ground := Ground.chain }, { on := 0, ground := Ground.phase }, { on := 1, ground := Ground.phase }, { on := 2, ground := Ground.phase }, { on := 3, ground := Ground.phase }, { on := 4, ground := Ground.phase }, { on := 5, ground := Ground.phase }, { on := 6, ground := Ground.phase }, { on := 7, ground := Ground.phase }, { on := 8, ground := Ground.phase }, { on := 9, ground := Ground.phase }, { on := 10, ground := Ground.phase }, { on := 11, ground := Ground.phase }, { on := 12, ground := Ground.phase }, { on := 13, ground := Ground.textOnly Departure.lateStores }, { on := 14, ground := Ground.phase }], guard := none }) (v := ?_) rfl (by kernel_rfl) (by kernel_rfl) (by kernel_rfl) (fun _ _ _ h => h) (Or.inl ⟨by rfl, ?_⟩) (by assumption) ?_
    rotate_left
    · (intro w hSw; (try dsimp only at hSw); go_simp; try with_reducible rfl)
    try simp only [Act.put, List.setIfInBounds_toArray, List.set_cons_zero, List.set_cons_succ]
    refine wpAnyH_take (i := 16) (oi := { dst := some 8, op := Op.assign (Operand.tmp 28), type := 29, pos := "read.go:89", after := #[{ on := 13, ground := Ground.data }, { on := 15, ground := Ground.chain }, { on := 0, ground := Ground.phase }, { on := 1, ground := Ground.phase }, { on := 2, ground := Ground.phase }, { on := 3, ground := Ground.phase }, { on := 4, ground := Ground.phase }, { on := 5, ground := Ground.phase }, { on := 6, ground := Ground.phase }, { on := 7, ground := Ground.phase }, { on := 8, ground := Ground.phase }, { on := 9, ground := Ground.phase }, { on := 10, ground := Ground.phase }, { on := 11, ground := Ground.phase }, { on := 12, ground := Ground.phase }, { on := 13, ground := Ground.phase }, { on := 14, ground := Ground.phase }, { on := 15, ground := Ground.phase }], guard := none }) (v := ?_) rfl (by kernel_rfl) (by kernel_rfl) (by kernel_rfl) (fun _ _ _ h => h) (Or.inl ⟨by rfl, ?_⟩) (by assumption) ?_
    rotate_left
    · (intro w hSw; (try dsimp only at hSw); go_simp; try with_reducible rfl)
    try simp only [Act.put, List.setIfInBounds_toArray, List.set_cons_zero, List.set_cons_succ]
    refine wpAnyH_done (by kernel_rfl) ?_ _
    refine NoPanic.normal ?_
    obtain ⟨wd, hwd⟩ : ∃ wd, wg = wd := ⟨_, rfl⟩
    have RBd : RB wd b A n c 0 0 0 := (HB.out).rb.heap (by rw [← hwd, hhg]; rfl)
    have GRd : w.grownBy wd (some b) := by rw [← hwd]; exact grown_below (((Below.refl _ w).drew).trans hbg) _
    rw [hwd]
    clear h3 h2' h0 hHeld hwd hhg hbg
    have h2 : wd.cell? ⟨b, 2, none⟩ = some (.int .i64 0) := RBd.c2
    have h3 := RBd.c3
    have hf2 := frozen_of_row wd b 2 _ 96 RBd
    have HRB := Lib.hid RBd
    have HGR := Lib.hid GRd
    clear RBd GRd
    go_wp2_with fail
    go_ret
    obtain ⟨e1, e2⟩ := HE.out
    subst e1
    subst e2
    exact ⟨⟨_, rfl⟩, (HRB.out).set2 4, grown_trans HGR.out (grown_set _ _ _ _)⟩
  · have HE : Hid (p' = 0 ∧ e' = 5) := Lib.hid (by have := HP.out; rw [if_neg h4] at this; cases this; exact ⟨rfl, rfl⟩)
    have h4' : n < 4 := by omega
    clear HP h4
    go_enter Tryz.func28, Tryz.ntmps28
    go_wp2_with fail
    refine wp_region_noPanic ?_
    refine wp_region_held_drew (S := (fun W => W.cell? ⟨b, 0, none⟩ = some (.slice A n c) ∧ W.cell? ⟨b, 2, none⟩ = some (.int .i64 0))) (by kernel_rfl) ?_ (fun hHeld => ?_)
    · exact ⟨h0, h2'⟩
    refine wpAnyH_take (i := 0) (oi := { dst := some 16, op := Op.move (Operand.tmp 1), type := 68, pos := "read.go:89", after := #[], guard := none }) (v := ?_) rfl (by kernel_rfl) (by kernel_rfl) (by kernel_rfl) (fun _ _ _ h => h) (Or.inl ⟨by rfl, ?_⟩) (by assumption) ?_
    rotate_left
    · (intro w hSw; (try dsimp only at hSw); go_simp; try with_reducible rfl)
    try simp only [Act.put, List.setIfInBounds_toArray, List.set_cons_zero, List.set_cons_succ]
    refine wpAnyH_take (i := 1) (oi := { dst := some 17, op := Op.move (Operand.tmp 0), type := 65, pos := "read.go:89", after := #[], guard := none }) (v := ?_) rfl (by kernel_rfl) (by kernel_rfl) (by kernel_rfl) (fun _ _ _ h => h) (Or.inl ⟨by rfl, ?_⟩) (by assumption) ?_
    rotate_left
    · (intro w hSw; (try dsimp only at hSw); go_simp; try with_reducible rfl)
    try simp only [Act.put, List.setIfInBounds_toArray, List.set_cons_zero, List.set_cons_succ]
    refine wpAnyH_take (i := 2) (oi := { dst := some 18, op := Op.nilCheck (Operand.tmp 17), type := 0, pos := "read.go:89", after := #[{ on := 1, ground := Ground.data }], guard := none }) (v := ?_) rfl (by kernel_rfl) (by kernel_rfl) (by kernel_rfl) (fun _ _ _ h => h) (Or.inl ⟨by rfl, ?_⟩) (by assumption) ?_
    rotate_left
    · (intro w hSw; (try dsimp only at hSw); go_simp; try with_reducible rfl)
    try simp only [Act.put, List.setIfInBounds_toArray, List.set_cons_zero, List.set_cons_succ]
    refine wpAnyH_take (i := 3) (oi := { dst := some 19, op := Op.fieldAddr 96 (Operand.tmp 18) 0, type := 0, pos := "read.go:89", after := #[{ on := 2, ground := Ground.data }], guard := none }) (v := ?_) rfl (by kernel_rfl) (by kernel_rfl) (by kernel_rfl) (fun _ _ _ h => h) (Or.inl ⟨by rfl, ?_⟩) (by assumption) ?_
    rotate_left
    · (intro w hSw; (try dsimp only at hSw); go_simp; try with_reducible rfl)
    try simp only [Act.put, List.setIfInBounds_toArray, List.set_cons_zero, List.set_cons_succ]
    refine wpAnyH_take (i := 4) (oi := { dst := some 20, op := Op.load 27 (Operand.tmp 19), type := 27, pos := "read.go:89", after := #[{ on := 3, ground := Ground.data }], guard := none }) (v := ?_) rfl (by kernel_rfl) (by kernel_rfl) (by kernel_rfl) (fun _ _ _ h => h) (Or.inl ⟨by rfl, ?_⟩) (by assumption) ?_
    rotate_left
    · (intro w hSw; (try dsimp only at hSw); go_simp; try with_reducible rfl)
    try simp only [Act.put, List.setIfInBounds_toArray, List.set_cons_zero, List.set_cons_succ]
    refine wpAnyH_take (i := 5) (oi := { dst := some 21, op := Op.move (Operand.tmp 0), type := 65, pos := "read.go:89", after := #[], guard := none }) (v := ?_) rfl (by kernel_rfl) (by kernel_rfl) (by kernel_rfl) (fun _ _ _ h => h) (Or.inl ⟨by rfl, ?_⟩) (by assumption) ?_
    rotate_left
    · (intro w hSw; (try dsimp only at hSw); go_simp; try with_reducible rfl)
    try simp only [Act.put, List.setIfInBounds_toArray, List.set_cons_zero, List.set_cons_succ]
    refine wpAnyH_take (i := 6) (oi := { dst := some 22, op := Op.nilCheck (Operand.tmp 21), type := 0, pos := "read.go:89", after := #[{ on := 5, ground := Ground.data }], guard := none }) (v := ?_) rfl (by kernel_rfl) (by kernel_rfl) (by kernel_rfl) (fun _ _ _ h => h) (Or.inl ⟨by rfl, ?_⟩) (by assumption) ?_
    rotate_left
    · (intro w hSw; (try dsimp only at hSw); go_simp; try with_reducible rfl)
    try simp only [Act.put, List.setIfInBounds_toArray, List.set_cons_zero, List.set_cons_succ]
    refine wpAnyH_take (i := 7) (oi := { dst := some 23, op := Op.fieldAddr 96 (Operand.tmp 22) 2, type := 0, pos := "read.go:89", after := #[{ on := 6, ground := Ground.data }], guard := none }) (v := ?_) rfl (by kernel_rfl) (by kernel_rfl) (by kernel_rfl) (fun _ _ _ h => h) (Or.inl ⟨by rfl, ?_⟩) (by assumption) ?_
    rotate_left
    · (intro w hSw; (try dsimp only at hSw); go_simp; try with_reducible rfl)
    try simp only [Act.put, List.setIfInBounds_toArray, List.set_cons_zero, List.set_cons_succ]
    refine wpAnyH_take (i := 8) (oi := { dst := some 24, op := Op.load 3 (Operand.tmp 23), type := 3, pos := "read.go:89", after := #[{ on := 7, ground := Ground.data }], guard := none }) (v := ?_) rfl (by kernel_rfl) (by kernel_rfl) (by kernel_rfl) (fun _ _ _ h => h) (Or.inl ⟨by rfl, ?_⟩) (by assumption) ?_
    rotate_left
    · (intro w hSw; (try dsimp only at hSw); go_simp; try with_reducible rfl)
    try simp only [Act.put, List.setIfInBounds_toArray, List.set_cons_zero, List.set_cons_succ]
    refine wpAnyH_ready (rs := [9]) (by kernel_rfl) (by simp) ?_
    refine AllReadyH.cons (o := { dst := some 25, op := Op.call { callee := Callee.value (Operand.tmp 16), args := #[Operand.tmp 20, Operand.tmp 24], argTypes := #[27, 3] }, type := 97, pos := "read.go:89", after := #[{ on := 0, ground := Ground.data }, { on := 4, ground := Ground.data }, { on := 8, ground := Ground.data }], guard := none }) rfl (fun K hK => ?_) AllReadyH.nil
    go_simp
    refine (Tryz.get4_no _ A n c h4').mono ?_
    rintro x2 w2 ⟨rfl, rfl⟩
    refine hK.out _ _ ?_ (fun hHeld => ?_)
    · assumption
    clear hK K
    try simp only [Act.put, List.setIfInBounds_toArray, List.set_cons_zero, List.set_cons_succ]
    refine wpAnyH_take (i := 10) (oi := { dst := some 15, op := Op.move (Operand.tmp 25), type := 97, pos := "read.go:89", after := #[{ on := 9, ground := Ground.data }], guard := none }) (v := ?_) rfl (by kernel_rfl) (by kernel_rfl) (by kernel_rfl) (fun _ _ _ h => h) (Or.inl ⟨by rfl, ?_⟩) (by assumption) ?_
    rotate_left
    · (intro w hSw; (try dsimp only at hSw); go_simp; try with_reducible rfl)
    try simp only [Act.put, List.setIfInBounds_toArray, List.set_cons_zero, List.set_cons_succ]
    refine wpAnyH_take (i := 11) (oi := { dst := some 26, op := Op.extract (Operand.tmp 15) 0, type := 62, pos := "read.go:89", after := #[{ on := 10, ground := Ground.data }], guard := none }) (v := ?_) rfl (by kernel_rfl) (by kernel_rfl) (by kernel_rfl) (fun _ _ _ h => h) (Or.inl ⟨by rfl, ?_⟩) (by assumption) ?_
    rotate_left
    · (intro w hSw; (try dsimp only at hSw); go_simp; try with_reducible rfl)
    try simp only [Act.put, List.setIfInBounds_toArray, List.set_cons_zero, List.set_cons_succ]
    refine wpAnyH_take (i := 12) (oi := { dst := some 27, op := Op.extract (Operand.tmp 15) 1, type := 3, pos := "read.go:89", after := #[{ on := 10, ground := Ground.data }, { on := 14, ground := Ground.gcOnly Departure.lateStores }], guard := none }) (v := ?_) rfl (by kernel_rfl) (by kernel_rfl) (by kernel_rfl) (fun _ _ _ h => h) (Or.inl ⟨by rfl, ?_⟩) (by assumption) ?_
    rotate_left
    · (intro w hSw; (try dsimp only at hSw); go_simp; try with_reducible rfl)
    try simp only [Act.put, List.setIfInBounds_toArray, List.set_cons_zero, List.set_cons_succ]
    refine wpAnyH_take (i := 13) (oi := { dst := some 28, op := Op.extract (Operand.tmp 15) 2, type := 29, pos := "read.go:89", after := #[{ on := 10, ground := Ground.data }, { on := 15, ground := Ground.gcOnly Departure.lateStores }], guard := none }) (v := ?_) rfl (by kernel_rfl) (by kernel_rfl) (by kernel_rfl) (fun _ _ _ h => h) (Or.inl ⟨by rfl, ?_⟩) (by assumption) ?_
    rotate_left
    · (intro w hSw; (try dsimp only at hSw); go_simp; try with_reducible rfl)
    try simp only [Act.put, List.setIfInBounds_toArray, List.set_cons_zero, List.set_cons_succ]
    refine wpAnyH_take (i := 14) (oi := { dst := some 6, op := Op.assign (Operand.tmp 26), type := 62, pos := "read.go:89", after := #[{ on := 11, ground := Ground.data }, { on := 9, ground := Ground.chain }, { on := 0, ground := Ground.phase }, { on := 1, ground := Ground.phase }, { on := 2, ground := Ground.phase }, { on := 3, ground := Ground.phase }, { on := 4, ground := Ground.phase }, { on := 5, ground := Ground.phase }, { on := 6, ground := Ground.phase }, { on := 7, ground := Ground.phase }, { on := 8, ground := Ground.phase }, { on := 9, ground := Ground.phase }, { on := 10, ground := Ground.phase }, { on := 11, ground := Ground.phase }, { on := 12, ground := Ground.textOnly Departure.lateStores }, { on := 13, ground := Ground.textOnly Departure.lateStores }], guard := none }) (v := ?_) rfl (by kernel_rfl) (by kernel_rfl) (by kernel_rfl) (fun _ _ _ h => h) (Or.inl ⟨by rfl, ?_⟩) (by assumption) ?_
    rotate_left
    · (intro w hSw; (try dsimp only at hSw); go_simp; try with_reducible rfl)
    try simp only [Act.put, List.setIfInBounds_toArray, List.set_cons_zero, List.set_cons_succ]
    refine wpAnyH_take (i := 15) (oi := { dst := some 7, op := Op.assign (Operand.tmp 27), type := 3, pos := "read.go:89", after := #[{ on := 12, ground := Ground.data }, { on := 14, ground := Ground.chain }, { on := 0, ground := Ground.phase }, { on := 1, ground := Ground.phase }, { on := 2, ground := Ground.phase }, { on := 3, ground := Ground.phase }, { on := 4, ground := Ground.phase }, { on := 5, ground := Ground.phase }, { on := 6, ground := Ground.phase }, { on := 7, ground := Ground.phase }, { on := 8, ground := Ground.phase }, { on := 9, ground := Ground.phase }, { on := 10, ground := Ground.phase }, { on := 11, ground := Ground.phase }, { on := 12, ground := Ground.phase }, { on := 13, ground := Ground.textOnly Departure.lateStores }, { on := 14, ground := Ground.phase }], guard := none }) (v := ?_) rfl (by kernel_rfl) (by kernel_rfl) (by kernel_rfl) (fun _ _ _ h => h) (Or.inl ⟨by rfl, ?_⟩) (by assumption) ?_
    rotate_left
    · (intro w hSw; (try dsimp only at hSw); go_simp; try with_reducible rfl)
    try simp only [Act.put, List.setIfInBounds_toArray, List.set_cons_zero, List.set_cons_succ]
    refine wpAnyH_take (i := 16) (oi := { dst := some 8, op := Op.assign (Operand.tmp 28), type := 29, pos := "read.go:89", after := #[{ on := 13, ground := Ground.data }, { on := 15, ground := Ground.chain }, { on := 0, ground := Ground.phase }, { on := 1, ground := Ground.phase }, { on := 2, ground := Ground.phase }, { on := 3, ground := Ground.phase }, { on := 4, ground := Ground.phase }, { on := 5, ground := Ground.phase }, { on := 6, ground := Ground.phase }, { on := 7, ground := Ground.phase }, { on := 8, ground := Ground.phase }, { on := 9, ground := Ground.phase }, { on := 10, ground := Ground.phase }, { on := 11, ground := Ground.phase }, { on := 12, ground := Ground.phase }, { on := 13, ground := Ground.phase }, { on := 14, ground := Ground.phase }, { on := 15, ground := Ground.phase }], guard := none }) (v := ?_) rfl (by kernel_rfl) (by kernel_rfl) (by kernel_rfl) (fun _ _ _ h => h) (Or.inl ⟨by rfl, ?_⟩) (by assumption) ?_
    rotate_left
    · (intro w hSw; (try dsimp only at hSw); go_simp; try with_reducible rfl)
    try simp only [Act.put, List.setIfInBounds_toArray, List.set_cons_zero, List.set_cons_succ]
    refine wpAnyH_done (by kernel_rfl) ?_ _
    refine NoPanic.normal ?_
    obtain ⟨wd, hwd⟩ : ∃ wd, w.drew = wd := ⟨_, rfl⟩
    have RBd : RB wd b A n c 0 0 0 := (HB.out).rb.heap (by rw [← hwd]; rfl)
    have GRd : w.grownBy wd (some b) := by rw [← hwd]; exact grown_drew _ _
    rw [hwd]
    clear h3 h2' h0 hHeld hwd
    have h3 := RBd.c3
    have hf3 := frozen_of_row wd b 3 _ 96 RBd
    have HRB := Lib.hid RBd
    have HGR := Lib.hid GRd
    clear RBd GRd
    go_wp2_with fail
    go_ret
    obtain ⟨e1, e2⟩ := HE.out
    subst e1
    subst e2
    exact ⟨⟨_, rfl⟩, (HRB.out).set3 5, grown_trans HGR.out (grown_set _ _ _ _)⟩
end Go.Proofs
end

section
namespace Go.Proofs
open Go.RowKit
set_option maxRecDepth 100000
theorem sizeOf_run {P : Program} {t : TypeId} {n : Nat} (w : World) (hq : (P.info? t).map (·.size) = some n) : (sizeOf t).run P w = .ok n w := by
  rcases hi : P.info? t with _ | i
  · rw [hi] at hq; simp at hq
  · rw [hi] at hq
    simp at hq
    simp [sizeOf, typeInfo, hi, hq]
theorem isAgg_run {P : Program} {t : TypeId} {fs : Array Field} (w : World) (hq : P.underlying t = some (.struct fs)) : (isAgg t).run P w = .ok true w := by
  simp [isAgg, run_underlying hq]
theorem results_cell_tmp {P : Program} {fn : Func} {c u : Tmp} {t : TypeId} (h : fn.results = #[.cell c t, .tmp u]) (tmps : Array Value) (w : World) (b e : Nat) (cs : Array Value) (fs : Array Field) (ht : tmps.getD c undef = .pointer (some ⟨b, 0, none⟩)) (hh : w.heap[b]? = some (.cells cs e (0, 0)))
    (hq : (P.info? t).map (·.size) = some cs.size) (hu : P.underlying t = some (.struct fs)) : (results fn tmps).run P w = .ok (.tuple #[.agg cs, tmps.getD u undef]) w := by
  have hl : (loadCells ⟨b, 0, none⟩ cs.size).run P w = .ok cs w := by
    have := run_loadCells_list (P := P) w ⟨b, 0, none⟩ cs.toList (fun j v hj => by
      have e : (⟨b, 0, none⟩ : Addr).add j = ⟨b, j, none⟩ := by unfold Addr.add; split <;> simp_all
      rw [e, cell_of_row w b j _ _ _ hh, ← hj]
      simp)
    simpa using this
  have ht' : tmps[c]?.getD undef = .pointer (some ⟨b, 0, none⟩) := by simpa using ht
  simp [results, h, ht', asAddr, loadVar, isAgg_run w hu, sizeOf_run w hq, hl]
theorem results_cell1 {P : Program} {fn : Func} {c : Tmp} {t : TypeId} (h : fn.results = #[.cell c t]) (tmps : Array Value) (w : World) (b e : Nat) (cs : Array Value) (fs : Array Field) (ht : tmps.getD c undef = .pointer (some ⟨b, 0, none⟩)) (hh : w.heap[b]? = some (.cells cs e (0, 0)))
    (hq : (P.info? t).map (·.size) = some cs.size) (hu : P.underlying t = some (.struct fs)) : (results fn tmps).run P w = .ok (.agg cs) w := by
  have hl : (loadCells ⟨b, 0, none⟩ cs.size).run P w = .ok cs w := by
    have := run_loadCells_list (P := P) w ⟨b, 0, none⟩ cs.toList (fun j v hj => by
      have e : (⟨b, 0, none⟩ : Addr).add j = ⟨b, j, none⟩ := by unfold Addr.add; split <;> simp_all
      rw [e, cell_of_row w b j _ _ _ hh, ← hj]
      simp)
    simpa using this
  have ht' : tmps[c]?.getD undef = .pointer (some ⟨b, 0, none⟩) := by simpa using ht
  simp [results, h, ht', asAddr, loadVar, isAgg_run w hu, sizeOf_run w hq, hl]
theorem sure_run {P : Program} (w : World) (a : Addr) : (Instr.sureAddr (.pointer (some a))).run P w = .ok a w := by simp [Instr.sureAddr]
theorem oper_store_at {P : Program} (w : World) {o : Oper} {a : Act} {K : Act → World → Prop} {Q : Exit → Act → World → Prop} (t : TypeId) (p v : Operand)
    (hop : o.op = Op.store t p v) (b e off : Nat) (cs cur new : Array Value) (hp : a.eval p = .pointer (some ⟨b, off, none⟩)) (hv : a.eval v = .agg cs) (hh : w.heap[b]? = some (.cells cur e (0, 0))) (hsz : off + cs.size ≤ cur.size)
    (hnew : (cur.toList.take off ++ cs.toList ++ cur.toList.drop (off + cs.size)).toArray = new)
    (hq : (P.info? t).map (·.size) = some cs.size) (h1 : ∀ u ∈ cs.toList, u.oneCell' = true) (hK : K (a.put o.dst undef) (w.setRow b new)) : Oper.wp P o a w K Q := by
  have hs := run_storeCells_at P b off e cs.toList 0 cur w hh (by simp; omega) h1
  have hc : (cur.toList.take (off + 0) ++ cs.toList ++ cur.toList.drop (off + 0 + cs.toList.length)).toArray = new := by simpa using hnew
  rw [hc] at hs
  have hz := sizeOf_run w hq
  unfold Oper.wp
  have hr : (Instr.storeAt t (Value.pointer (some ⟨b, off, none⟩)) (Value.agg cs)).run P w = .ok () (w.setRow b new) := by
    simp only [Instr.storeAt, storeVar, Sem.run_bind, sure_run, Result.andThen_ok, hz, Value.cells, ne_eq, not_true_eq_false, if_false, hs]
  simp [execOp, hop, hp, hv, hr, Oper.upon]
  exact hK
theorem setRow_heap' (w : World) (g : Nat) (cs cur : Array Value) (e : Nat) (h : w.heap[g]? = some (.cells cur e (0, 0))) : (w.setRow g cs).heap[g]? = some (.cells cs e (0, 0)) := by
  exact setRow_heap w g cur _ e _ h
theorem setRow_other (w : World) (g : Nat) (cs : Array Value) (k : Nat) (h : k ≠ g) : (w.setRow g cs).heap[k]? = w.heap[k]? := by
  unfold World.setRow
  simp [Array.getElem?_modify, Ne.symm h]
theorem Below.setRow {B : Nat} {a w : World} (h : Below B a w) {g : Nat} (hg : B ≤ g) (cs : Array Value) : Below B a (w.setRow g cs) :=
  ⟨h.os, h.tape, h.output, by have := h.size; simpa [World.setRow] using this, fun k hk => by rw [setRow_other w g cs k (by omega)]; exact h.block k hk⟩
theorem Tryz.may (x : Int) (w : World) : Calls Tryz.prog 19 #[.int .i64 x] w fun e w' => e = .returned (.bool (decide (0 ≤ x) && decide (x ≤ 1024))) ∧ w' = w := by
  by_cases h : 0 ≤ x
  · have h1 : decide (0 ≤ x) = true := decide_eq_true h
    obtain ⟨q, hq⟩ : ∃ q, decide (x ≤ 1024) = q := ⟨_, rfl⟩
    rw [h1, hq]
    clear h
    go_enter Tryz.func19, Tryz.ntmps19
    go_wp2_with fail
    go_ret
    exact ⟨rfl, rfl⟩
  · have h1 : decide (0 ≤ x) = false := decide_eq_false h
    rw [h1]
    clear h
    go_enter Tryz.func19, Tryz.ntmps19
    go_wp2_with fail
    go_ret
    exact ⟨rfl, rfl⟩
theorem Tryz.slot (e : Nat) (he : e < 18446744073709551616) (w : World) : Calls Tryz.prog 8 #[.int .u64 e] w fun x w' => x = .returned (.int .i64 ((e : Int) % 2)) ∧ w' = w := by
  have s1 : IntKind.i64.wrap ((e : Int) % 2) = (e : Int) % 2 := wrapi (by omega) (by omega)
  go_enter Tryz.func8, Tryz.ntmps8
  go_wp2_with fail
  go_ret
  exact ⟨rfl, rfl⟩
theorem Tryz.rslot (e : Nat) (he : e < 18446744073709551616) (w : World) : Calls Tryz.prog 9 #[.int .u64 e] w fun x w' => x = .returned (.int .i64 ((e : Int) % 2)) ∧ w' = w := by
  have s1 : IntKind.i64.wrap ((e : Int) % 2) = (e : Int) % 2 := wrapi (by omega) (by omega)
  go_enter Tryz.func9, Tryz.ntmps9
  go_wp2_with fail
  go_ret
  exact ⟨rfl, rfl⟩
theorem DI.conv {w : World} {A : Option Addr} {n c : Nat} {l : List UInt8} (h : DI w A n c l) : (convert 27 9 (.slice A n c)).run Tryz.prog w = .ok (.string (strOf l)) w := by
  cases A with
  | none =>
    obtain rfl := h.nil
    obtain rfl : n = 0 := by simpa using h.len.symm
    exact str_sl0 w none c
  | some X =>
    refine str_arg (fun j u hu => h.srcX (Below.refl _ w) j u hu) n c h.len
theorem str_eq (a b : List UInt8) : ((strOf a).toList == (strOf b).toList) = decide (a = b) := by
  have hl : ∀ a : List UInt8, (strOf a).toList = a := fun a => ByteArray.toList_mk a
  rw [hl, hl]
  by_cases h : a = b
  · subst h; simp
  · simp [h]
theorem Tryz.equal (w : World) {A B : Option Addr} {n m c d : Nat} {l k : List UInt8} (h1 : DI w A n c l) (h2 : DI w B m d k) :
    Calls Tryz.prog 32 #[.slice A n c, .slice B m d] w fun x w' => x = .returned (.bool (decide (l = k))) ∧ w' = w := by
  have e1 := h1.conv
  have e2 := h2.conv
  have e3 := str_eq l k
  obtain ⟨q, hq⟩ : ∃ q, decide (l = k) = q := ⟨_, rfl⟩
  rw [hq] at e3 ⊢
  clear h1 h2 hq
  go_enter Tryz.func32, Tryz.ntmps32
  go_wp2_with fail
  go_ret
  exact ⟨rfl, rfl⟩
theorem size34 : (Tryz.prog.info? 34).map (·.size) = some 2 := by kernel_rfl
theorem st34 : Tryz.prog.underlying 34 = some (.struct (Tryz.prog.fieldsOf 34)) := by kernel_rfl
theorem size36 : (Tryz.prog.info? 36).map (·.size) = some 3 := by kernel_rfl
theorem st36 : Tryz.prog.underlying 36 = some (.struct (Tryz.prog.fieldsOf 36)) := by kernel_rfl
theorem size26 : (Tryz.prog.info? 26).map (·.size) = some 3 := by kernel_rfl
theorem st26 : Tryz.prog.underlying 26 = some (.struct (Tryz.prog.fieldsOf 26)) := by kernel_rfl
theorem Tryz.extOf (a n : Int) (w : World) : Calls Tryz.prog 26 #[.agg #[.int .i64 a, .int .i64 n]] w fun x w' => x = .returned (.agg #[.int .i64 a, .int .i64 n]) ∧ Below w.heap.size w w' := by
  have HH := Lib.hid (heap_alloc_new (w.alloc (.cells #[.int .i64 a, .int .i64 n] 24)) (.cells #[.int .i64 a, .int .i64 n] 34))
  have BB := Lib.hid (((Below.refl _ w).alloc (Nat.le_refl _) (.cells #[.int .i64 a, .int .i64 n] 24)).alloc (by simp) (.cells #[.int .i64 a, .int .i64 n] 34))
  go_enter Tryz.func26, Tryz.ntmps26
  go_wp2_with fail
  refine bodyPost_ret (results_cell1 rfl _ _ (w.heap.size + 1) 34 #[.int .i64 a, .int .i64 n] _ rfl (by have := HH.out; simpa using this) size34 st34) rfl ⟨rfl, BB.out⟩
theorem Tryz.sOf (e a n : Int) (w : World) : Calls Tryz.prog 7 #[.agg #[.int .u64 e, .int .i64 a, .int .i64 n]] w fun x w' => x = .returned (.agg #[.int .u64 e, .int .i64 a, .int .i64 n]) ∧ Below w.heap.size w w' := by
  go_enter Tryz.func7, Tryz.ntmps7
  go_upto_region 1 with fail
  obtain ⟨wa, hwa⟩ : ∃ wa, (w.alloc (.cells #[.int .u64 e, .int .i64 a, .int .i64 n] 26)).alloc (.cells #[.int .u64 0, .int .i64 0, .int .i64 0] 36) = wa := ⟨_, rfl⟩
  obtain ⟨bx, hbx⟩ : ∃ bx, w.heap.size = bx := ⟨_, rfl⟩
  obtain ⟨bz, hbz⟩ : ∃ bz, w.heap.size + 1 = bz := ⟨_, rfl⟩
  have A1 : wa.heap[bx]? = some (.cells #[.int .u64 e, .int .i64 a, .int .i64 n] 26 (0, 0)) := by
    rw [← hwa, ← hbx, Below.heap_alloc _ _ _ (by simp)]
    exact heap_alloc_new w _
  have A2 : wa.heap[bz]? = some (.cells #[.int .u64 0, .int .i64 0, .int .i64 0] 36 (0, 0)) := by
    have := heap_alloc_new (w.alloc (.cells #[.int .u64 e, .int .i64 a, .int .i64 n] 26)) (.cells #[.int .u64 0, .int .i64 0, .int .i64 0] 36)
    rw [← hwa, ← hbz]
    simpa using this
  have BA : Below w.heap.size w wa := by
    rw [← hwa]
    exact ((Below.refl _ w).alloc (Nat.le_refl _) _).alloc (by simp) _
  have hz1 : w.heap.size ≤ bz := by omega
  rw [hwa, hbz, hbx]
  have c0 := cell_of_row wa bx 0 _ 26 _ A1
  have c1 := cell_of_row wa bx 1 _ 26 _ A1
  have c2 := cell_of_row wa bx 2 _ 26 _ A1
  have V0 : wa.cell? ⟨bx, 0, none⟩ = some (.int .u64 e) := c0
  have V1 : wa.cell? ⟨bx, 1, none⟩ = some (.int .i64 a) := c1
  have V2 : wa.cell? ⟨bx, 2, none⟩ = some (.int .i64 n) := c2
  have HA2 := Lib.hid A2
  have HBA := Lib.hid BA
  have W0 := Lib.hid V0
  have W1 := Lib.hid V1
  have W2 := Lib.hid V2
  have HZ := Lib.hid hz1
  have HNE : Hid (bx ≠ bz) := Lib.hid (by omega)
  have HZL : Hid (bz < wa.heap.size) := Lib.hid (Array.getElem?_eq_some_iff.1 A2).1
  clear c0 c1 c2 A1 A2 BA hwa hbx hbz hz1
  refine wp_region_noPanic ?_
  refine wp_region_held_drew (S := (fun W => W.cell? ⟨bx, 0, none⟩ = some (.int .u64 e) ∧ W.cell? ⟨bx, 1, none⟩ = some (.int .i64 a) ∧ W.cell? ⟨bx, 2, none⟩ = some (.int .i64 n))) (by kernel_rfl) ?_ (fun hHeld => ?_)
  · exact ⟨V0, V1, V2⟩
  refine wpAnyH_take (i := 0) (oi := { dst := some 3, op := Op.fieldAddr 26 (Operand.tmp 1) 0, type := 0, pos := "law.go:18", after := #[], guard := none }) (v := ?_) rfl (by kernel_rfl) (by kernel_rfl) (by kernel_rfl) (fun _ _ _ h => h) (Or.inl ⟨by rfl, ?_⟩) (by assumption) ?_
  rotate_left
  · (intro w hSw; (try dsimp only at hSw); go_simp; try with_reducible rfl)
  try simp only [Act.put, List.setIfInBounds_toArray, List.set_cons_zero, List.set_cons_succ]
  refine wpAnyH_take (i := 1) (oi := { dst := some 4, op := Op.load 22 (Operand.tmp 3), type := 22, pos := "law.go:18", after := #[{ on := 0, ground := Ground.data }], guard := none }) (v := ?_) rfl (by kernel_rfl) (by kernel_rfl) (by kernel_rfl) (fun _ _ _ h => h) (Or.inl ⟨by rfl, ?_⟩) (by assumption) ?_
  rotate_left
  · (intro w hSw; (try dsimp only at hSw); go_simp; try with_reducible rfl)
  try simp only [Act.put, List.setIfInBounds_toArray, List.set_cons_zero, List.set_cons_succ]
  refine wpAnyH_take (i := 2) (oi := { dst := some 5, op := Op.fieldAddr 26 (Operand.tmp 1) 1, type := 0, pos := "law.go:18", after := #[], guard := none }) (v := ?_) rfl (by kernel_rfl) (by kernel_rfl) (by kernel_rfl) (fun _ _ _ h => h) (Or.inl ⟨by rfl, ?_⟩) (by assumption) ?_
  rotate_left
  · (intro w hSw; (try dsimp only at hSw); go_simp; try with_reducible rfl)
  try simp only [Act.put, List.setIfInBounds_toArray, List.set_cons_zero, List.set_cons_succ]
  refine wpAnyH_take (i := 3) (oi := { dst := some 6, op := Op.load 24 (Operand.tmp 5), type := 24, pos := "law.go:18", after := #[{ on := 2, ground := Ground.data }], guard := none }) (v := ?_) rfl (by kernel_rfl) (by kernel_rfl) (by kernel_rfl) (fun _ _ _ h => h) (Or.inl ⟨by rfl, ?_⟩) (by assumption) ?_
  rotate_left
  · (intro w hSw; (try dsimp only at hSw); go_simp; try with_reducible rfl)
  try simp only [Act.put, List.setIfInBounds_toArray, List.set_cons_zero, List.set_cons_succ]
  refine wpAnyH_ready (rs := [4]) (by kernel_rfl) (by simp) ?_
  refine AllReadyH.cons (o := { dst := some 7, op := Op.call { callee := Callee.value (Operand.func 26), args := #[Operand.tmp 6], argTypes := #[24] }, type := 34, pos := "law.go:18", after := #[{ on := 3, ground := Ground.data }], guard := none }) rfl (fun K hK => ?_) AllReadyH.nil
  go_simp
  refine (Tryz.extOf a n _).mono ?_
  rintro x2 w2 ⟨rfl, hb2⟩
  have B2 : Below wa.heap.size wa w2 := ((Below.refl _ wa).drew).trans hb2
  refine hK.out _ _ ?_ (fun hHeld => ?_)
  · exact ⟨cellW W0.out B2, cellW W1.out B2, cellW W2.out B2⟩
  clear hK K
  try simp only [Act.put, List.setIfInBounds_toArray, List.set_cons_zero, List.set_cons_succ]
  refine wpAnyH_take (i := 5) (oi := { dst := some 8, op := Op.build 36 #[(0, Operand.tmp 4), (1, Operand.tmp 7)], type := 36, pos := "law.go:18", after := #[{ on := 1, ground := Ground.data }, { on := 4, ground := Ground.data }], guard := none }) (v := ?_) rfl (by kernel_rfl) (by kernel_rfl) (by kernel_rfl) (fun _ _ _ h => h) (Or.inl ⟨by rfl, ?_⟩) (by assumption) ?_
  rotate_left
  · (intro w hSw; (try dsimp only at hSw); go_simp; try with_reducible rfl)
  try simp only [Act.put, List.setIfInBounds_toArray, List.set_cons_zero, List.set_cons_succ]
  refine wpAnyH_ready (rs := [6]) (by kernel_rfl) (by simp) ?_
  refine AllReadyH.cons (o := { dst := none, op := Op.store 36 (Operand.tmp 2) (Operand.tmp 8), type := 0, pos := "law.go:18", after := #[{ on := 5, ground := Ground.data }, { on := 4, ground := Ground.chain }, { on := 0, ground := Ground.phase }, { on := 1, ground := Ground.phase }, { on := 2, ground := Ground.phase }, { on := 3, ground := Ground.phase }, { on := 4, ground := Ground.phase }, { on := 5, ground := Ground.phase }], guard := none }) rfl (fun K hK => ?_) AllReadyH.nil
  refine step_want (by kernel_rfl) ?_
  refine oper_store_at _ 36 (.tmp 2) (.tmp 8) rfl bz 36 0 #[.int .u64 e, .int .i64 a, .int .i64 n] #[.int .u64 0, .int .i64 0, .int .i64 0] #[.int .u64 e, .int .i64 a, .int .i64 n] rfl rfl ((B2.block bz HZL.out).trans HA2.out) (show 0 + 3 ≤ 3 by omega) rfl size36 (by intro u hu; simp at hu; rcases hu with rfl | rfl | rfl <;> rfl) ?_
  obtain ⟨w4, hw4⟩ : ∃ w4, w2.setRow bz #[.int .u64 e, .int .i64 a, .int .i64 n] = w4 := ⟨_, rfl⟩
  have H4 := Lib.hid (setRow_heap' w2 bz #[.int .u64 e, .int .i64 a, .int .i64 n] _ 36 ((B2.block bz HZL.out).trans HA2.out))
  have B4 := Lib.hid (Below.setRow ((HBA.out).trans (B2.mono (HBA.out).size)) HZ.out #[.int .u64 e, .int .i64 a, .int .i64 n])
  have O4 := Lib.hid (fun k (hk : k ≠ bz) => setRow_other w2 bz #[.int .u64 e, .int .i64 a, .int .i64 n] k hk)
  rw [hw4] at H4 B4 O4
  rw [hw4]
  clear hw4
  refine hK.out _ _ ?_ (fun hHeld => ?_)
  · exact ⟨(World.cell?_of_block ((O4.out) bx HNE.out)).trans (cellW W0.out B2), (World.cell?_of_block ((O4.out) bx HNE.out)).trans (cellW W1.out B2), (World.cell?_of_block ((O4.out) bx HNE.out)).trans (cellW W2.out B2)⟩
  clear hK K
  try simp only [Act.put, List.setIfInBounds_toArray, List.set_cons_zero, List.set_cons_succ]
  refine wpAnyH_done (by kernel_rfl) ?_ _
  refine NoPanic.normal ?_
  go_wp2_with fail
  refine bodyPost_ret (results_cell1 rfl _ _ bz 36 #[.int .u64 e, .int .i64 a, .int .i64 n] _ rfl H4.out size36 st36) rfl ⟨rfl, B4.out⟩
end Go.Proofs
end

section
namespace Go.Proofs
open Go.RowKit Go.FM
set_option maxRecDepth 100000
def told (e a n : Nat) : List UInt8 := encN e ++ encN a ++ encN n
def restS (e a n : Nat) : List UInt8 := told e a n ++ List.replicate (60 - (told e a n).length) 0
def ivs (l : List UInt8) : List Int := l.map (fun x => (x.toNat : Int))
def sumS (l : List UInt8) : Nat := (sumI (ivs l)).toNat
def supB (e a n : Nat) : List UInt8 := le4 (sumS (restS e a n)) ++ restS e a n
theorem told_len (e a n : Nat) : (told e a n).length ≤ 30 := by
  have h1 := encF_len 10 e
  have h2 := encF_len 10 a
  have h3 := encF_len 10 n
  unfold told encN
  rw [List.length_append, List.length_append]
  omega
theorem restS_len (e a n : Nat) : (restS e a n).length = 60 := by
  have := told_len e a n
  unfold restS
  rw [List.length_append, List.length_replicate]
  omega
theorem supB_len (e a n : Nat) : (supB e a n).length = 64 := by
  unfold supB
  rw [List.length_append, restS_len]
  rfl
theorem ivs_bytes (l : List UInt8) : isBytes (ivs l) := fun x hx => by
  obtain ⟨y, _, rfl⟩ := List.mem_map.1 hx
  have := y.toNat_lt
  omega
theorem sumI_in (l : List UInt8) : 0 ≤ sumI (ivs l) ∧ sumI (ivs l) < 4294967296 := by
  have h := sumAt_lt (ivs_bytes l) (ivs l).length
  unfold sumAt at h
  rw [List.take_length] at h
  unfold sumI
  omega
theorem sumS_lt (l : List UInt8) : sumS l < 4294967296 := by
  have := sumI_in l
  unfold sumS
  omega
theorem sumS_eq (l : List UInt8) : sumI (ivs l) = (sumS l : Int) := by
  have := sumI_in l
  unfold sumS
  omega
theorem sum_by {f : Nat} (hf : SumSpec Tryz.prog f) (w : World) (X : Addr) (n c : Nat) (l : List UInt8) (hD : DI w (some X) n c l) (hn : n ≤ 400) : Calls Tryz.prog f #[.slice (some X) n c] w fun e w' => e = .returned (.int .u32 (sumS l : Nat)) ∧ w' = w := by
  have hl := hD.len
  refine (hf X n c (ivs l) (by unfold ivs; rw [List.length_map, hl]) (ivs_bytes l) (by omega) w fun i hi => ?_).mono ?_
  · have hx : l[i]? = some (l[i]'(by omega)) := List.getElem?_eq_getElem (by omega)
    obtain ⟨Y, hY, hc⟩ := hD.at' i _ hx
    cases hY
    rw [hc]
    unfold ivs u8v
    rw [List.getD_eq_getElem?_getD, List.getElem?_map, hx]
    rfl
  · rintro e w' ⟨rfl, h⟩
    exact ⟨by rw [sumS_eq], h⟩
theorem di_nil (w : World) : DI w none 0 0 [] := ⟨rfl, Nat.le_refl _, Nat.zero_le _, fun j q hj => by simp at hj⟩
def okS (e : Nat) (a n : Int) : Prop := e ≠ 0 ∧ (0 ≤ a ∧ a ≤ 1024) ∧ 0 ≤ n ∧ n ≤ 1024
def SupP (w : World) (e : Nat) (a n : Int) (x : Ending) (w' : World) : Prop :=
  (okS e a n ∧ (∃ v, x = .returned (.tuple #[v, .int .i64 0]) ∧ OB w' w.heap.size v (supB e a.toNat n.toNat)) ∧ Below w.heap.size w w') ∨
  (¬ okS e a n ∧ x = .returned (.tuple #[.slice none 0 0, .int .i64 1]) ∧ Below w.heap.size w w')
theorem splice_rest (l : List UInt8) (m : Nat) (h : l.length ≤ m) : splice (List.replicate m (Value.int .u8 0)) 0 (l.map u8v) = (l ++ List.replicate (m - l.length) 0).map u8v := by
  unfold splice
  rw [List.take_zero, List.nil_append, List.length_map, Nat.zero_add, List.drop_replicate, List.map_append, List.map_replicate]
  rfl
theorem full_ob {w : World} {B g m : Nat} {l : List UInt8} (h : w.heap[g]? = some (.cells (l.map u8v).toArray 5 (0, 0))) (hB : B ≤ g) (hl : l.length = m) (hm : m ≤ 65536) : OB w B (.slice (some ⟨g, 0, none⟩) m m) l := by
  subst hl
  refine ⟨by simp, .inr ⟨g, l.length, _, rfl, hB, h, Nat.le_refl _, by unfold maxLen; omega, by simp, ?_⟩⟩
  rw [Nat.mul_one]
  exact List.take_of_length_le (by simp)
set_option maxHeartbeats 8000000 in
theorem Tryz.sput (w : World) (e : Nat) (a n : Int) (he : e < 18446744073709551616) (ha : -9223372036854775808 ≤ a ∧ a ≤ 9223372036854775807) (hn : -9223372036854775808 ≤ n ∧ n ≤ 9223372036854775807) :
    Calls Tryz.prog 5 #[.agg #[.int .u64 e, .int .i64 a, .int .i64 n]] w (SupP w e a n) := by
  by_cases h0 : e = 0
  · have HN : Hid (¬ okS e a n) := Lib.hid (fun h => h.1 h0)
    have BB := Lib.hid ((Below.refl _ w).alloc (Nat.le_refl _) (.cells #[.int .u64 0, .int .i64 a, .int .i64 n] 26))
    subst h0
    go_enter Tryz.func5, Tryz.ntmps5
    go_wp2_with fail
    go_ret2
    exact .inr ⟨HN.out, rfl, BB.out⟩
  · have g0 : ((e : Int) == 0) = false := by simpa using h0
    have g0' : decide ((e : Int) = 0) = false := decide_eq_false (by omega)
    have g0'' : decide (e = 0) = false := decide_eq_false h0
    have H0 := Lib.hid h0
    have BB := Lib.hid ((Below.refl _ w).alloc (Nat.le_refl _) (.cells #[.int .u64 e, .int .i64 a, .int .i64 n] 26))
    have VB := Lib.hid (heap_alloc_new w (.cells #[.int .u64 e, .int .i64 a, .int .i64 n] 26))
    by_cases h1 : 0 ≤ a ∧ a ≤ 1024
    · obtain ⟨a, rfl⟩ : ∃ a' : Nat, a = (a' : Int) := ⟨a.toNat, by omega⟩
      have m1 : (decide ((0 : Int) ≤ (a : Int)) && decide ((a : Int) ≤ 1024)) = true := by simp; omega
      by_cases h2 : 0 ≤ n ∧ n ≤ 1024
      · obtain ⟨n, rfl⟩ : ∃ n' : Nat, n = (n' : Int) := ⟨n.toNat, by omega⟩
        have m2 : (decide ((0 : Int) ≤ (n : Int)) && decide ((n : Int) ≤ 1024)) = true := by simp; omega
        have M1 := Lib.hid m1
        have M2 := Lib.hid m2
        have ha4 : a ≤ 1024 := by omega
        have hn4 : n ≤ 1024 := by omega
        have OK : Hid (okS e (a : Int) (n : Int)) := Lib.hid ⟨h0, h1, h2⟩
        have u1 : IntKind.u64.wrap (a : Int) = (a : Int) := wrapu (by omega) (by omega)
        have u2 : IntKind.u64.wrap (n : Int) = (n : Int) := wrapu (by omega) (by omega)
        obtain ⟨ii, hi0, hz0, hz1, hz2⟩ := info5
        clear h0 h1 h2 m1 m2 ha hn
        go_enter Tryz.func5, Tryz.ntmps5
        go_wp2_with fail
        refine (Tryz.may a _).mono ?_
        rintro x w1 ⟨rfl, hw1⟩
        rw [hw1, M1.out]
        clear hw1 w1
        go_wp2_with fail
        refine (Tryz.may n _).mono ?_
        rintro x w1 ⟨rfl, hw1⟩
        rw [hw1, M2.out]
        clear hw1 w1
        go_upto_region 3 with fail
        obtain ⟨wa, hwa⟩ : ∃ wa, w.alloc (.cells #[.int .u64 e, .int .i64 a, .int .i64 n] 26) = wa := ⟨_, rfl⟩
        obtain ⟨bx, hbx⟩ : ∃ bx, w.heap.size = bx := ⟨_, rfl⟩
        rw [hwa] at BB VB
        rw [hbx] at VB
        have V0 : wa.cell? ⟨bx, 0, none⟩ = some (.int .u64 e) := cell_of_row wa bx 0 _ 26 _ VB.out
        have V1 : wa.cell? ⟨bx, 1, none⟩ = some (.int .i64 a) := cell_of_row wa bx 1 _ 26 _ VB.out
        have V2 : wa.cell? ⟨bx, 2, none⟩ = some (.int .i64 n) := cell_of_row wa bx 2 _ 26 _ VB.out
        have W0 := Lib.hid V0
        have W1 := Lib.hid V1
        have W2 := Lib.hid V2
        have HU := Lib.hid he
        rw [hwa, hbx]
        have HBX := Lib.hid hbx
        have hnil : DI wa.drew none 0 0 [] := di_nil _
        have D1 := Lib.hid hnil
        have BA : Hid (Below wa.heap.size wa wa.drew) := Lib.hid (Below.refl _ wa).drew
        clear hwa hbx hnil
        refine wp_region_noPanic ?_
        refine wp_region_held_drew (S := (fun W => W.cell? ⟨bx, 0, none⟩ = some (.int .u64 e) ∧ W.cell? ⟨bx, 1, none⟩ = some (.int .i64 a) ∧ W.cell? ⟨bx, 2, none⟩ = some (.int .i64 n))) (by kernel_rfl) ?_ (fun hHeld => ?_)
        · exact ⟨V0, V1, V2⟩
        refine wpAnyH_take (i := 0) (oi := { dst := some 23, op := Op.fieldAddr 26 (Operand.tmp 1) 0, type := 0, pos := "super.go:32", after := #[], guard := none }) (v := ?_) rfl (by kernel_rfl) (by kernel_rfl) (by kernel_rfl) (fun _ _ _ h => h) (Or.inl ⟨by rfl, ?_⟩) (by assumption) ?_
        rotate_left
        · (intro w hSw; (try dsimp only at hSw); go_simp; try with_reducible rfl)
        try simp only [Act.put, List.setIfInBounds_toArray, List.set_cons_zero, List.set_cons_succ]
        refine wpAnyH_take (i := 1) (oi := { dst := some 24, op := Op.load 22 (Operand.tmp 23), type := 22, pos := "super.go:32", after := #[{ on := 0, ground := Ground.data }], guard := none }) (v := ?_) rfl (by kernel_rfl) (by kernel_rfl) (by kernel_rfl) (fun _ _ _ h => h) (Or.inl ⟨by rfl, ?_⟩) (by assumption) ?_
        rotate_left
        · (intro w hSw; (try dsimp only at hSw); go_simp; try with_reducible rfl)
        try simp only [Act.put, List.setIfInBounds_toArray, List.set_cons_zero, List.set_cons_succ]
        refine wpAnyH_take (i := 3) (oi := { dst := some 26, op := Op.fieldAddr 26 (Operand.tmp 1) 1, type := 0, pos := "super.go:32", after := #[], guard := none }) (v := ?_) rfl (by kernel_rfl) (by kernel_rfl) (by kernel_rfl) (fun _ _ _ h => h) (Or.inl ⟨by rfl, ?_⟩) (by assumption) ?_
        rotate_left
        · (intro w hSw; (try dsimp only at hSw); go_simp; try with_reducible rfl)
        try simp only [Act.put, List.setIfInBounds_toArray, List.set_cons_zero, List.set_cons_succ]
        refine wpAnyH_take (i := 4) (oi := { dst := some 27, op := Op.fieldAddr 24 (Operand.tmp 26) 0, type := 0, pos := "super.go:32", after := #[{ on := 3, ground := Ground.data }], guard := none }) (v := ?_) rfl (by kernel_rfl) (by kernel_rfl) (by kernel_rfl) (fun _ _ _ h => h) (Or.inl ⟨by rfl, ?_⟩) (by assumption) ?_
        rotate_left
        · (intro w hSw; (try dsimp only at hSw); go_simp; try with_reducible rfl)
        try simp only [Act.put, List.setIfInBounds_toArray, List.set_cons_zero, List.set_cons_succ]
        refine wpAnyH_take (i := 5) (oi := { dst := some 28, op := Op.load 3 (Operand.tmp 27), type := 3, pos := "super.go:32", after := #[{ on := 4, ground := Ground.data }], guard := none }) (v := ?_) rfl (by kernel_rfl) (by kernel_rfl) (by kernel_rfl) (fun _ _ _ h => h) (Or.inl ⟨by rfl, ?_⟩) (by assumption) ?_
        rotate_left
        · (intro w hSw; (try dsimp only at hSw); go_simp; try with_reducible rfl)
        try simp only [Act.put, List.setIfInBounds_toArray, List.set_cons_zero, List.set_cons_succ]
        refine wpAnyH_take (i := 6) (oi := { dst := some 29, op := Op.convert 3 22 (Operand.tmp 28), type := 22, pos := "super.go:32", after := #[{ on := 5, ground := Ground.data }], guard := none }) (v := ?_) rfl (by kernel_rfl) (by kernel_rfl) (by kernel_rfl) (fun _ _ _ h => h) (Or.inl ⟨by rfl, ?_⟩) (by assumption) ?_
        rotate_left
        · (intro w hSw; (try dsimp only at hSw); go_simp; try with_reducible rfl)
        try simp only [Act.put, List.setIfInBounds_toArray, List.set_cons_zero, List.set_cons_succ]
        refine wpAnyH_take (i := 8) (oi := { dst := some 31, op := Op.fieldAddr 26 (Operand.tmp 1) 1, type := 0, pos := "super.go:32", after := #[], guard := none }) (v := ?_) rfl (by kernel_rfl) (by kernel_rfl) (by kernel_rfl) (fun _ _ _ h => h) (Or.inl ⟨by rfl, ?_⟩) (by assumption) ?_
        rotate_left
        · (intro w hSw; (try dsimp only at hSw); go_simp; try with_reducible rfl)
        try simp only [Act.put, List.setIfInBounds_toArray, List.set_cons_zero, List.set_cons_succ]
        refine wpAnyH_take (i := 9) (oi := { dst := some 32, op := Op.fieldAddr 24 (Operand.tmp 31) 1, type := 0, pos := "super.go:32", after := #[{ on := 8, ground := Ground.data }], guard := none }) (v := ?_) rfl (by kernel_rfl) (by kernel_rfl) (by kernel_rfl) (fun _ _ _ h => h) (Or.inl ⟨by rfl, ?_⟩) (by assumption) ?_
        rotate_left
        · (intro w hSw; (try dsimp only at hSw); go_simp; try with_reducible rfl)
        try simp only [Act.put, List.setIfInBounds_toArray, List.set_cons_zero, List.set_cons_succ]
        refine wpAnyH_take (i := 10) (oi := { dst := some 33, op := Op.load 3 (Operand.tmp 32), type := 3, pos := "super.go:32", after := #[{ on := 9, ground := Ground.data }], guard := none }) (v := ?_) rfl (by kernel_rfl) (by kernel_rfl) (by kernel_rfl) (fun _ _ _ h => h) (Or.inl ⟨by rfl, ?_⟩) (by assumption) ?_
        rotate_left
        · (intro w hSw; (try dsimp only at hSw); go_simp; try with_reducible rfl)
        try simp only [Act.put, List.setIfInBounds_toArray, List.set_cons_zero, List.set_cons_succ]
        refine wpAnyH_take (i := 11) (oi := { dst := some 34, op := Op.convert 3 22 (Operand.tmp 33), type := 22, pos := "super.go:32", after := #[{ on := 10, ground := Ground.data }], guard := none }) (v := ?_) rfl (by kernel_rfl) (by kernel_rfl) (by kernel_rfl) (fun _ _ _ h => h) (Or.inl ⟨by rfl, ?_⟩) (by assumption) ?_
        rotate_left
        · (intro w hSw; (try dsimp only at hSw); go_simp; try with_reducible rfl)
        try simp only [Act.put, List.setIfInBounds_toArray, List.set_cons_zero, List.set_cons_succ]
        refine wpAnyH_ready (rs := [2]) (by kernel_rfl) (by simp) ?_
        refine AllReadyH.cons (o := { dst := some 25, op := Op.call { callee := Callee.value (Operand.func 20), args := #[Operand.const (Value.slice none 0 0), Operand.tmp 24], argTypes := #[27, 22] }, type := 27, pos := "super.go:32", after := #[{ on := 1, ground := Ground.data }], guard := none }) rfl (fun K hK => ?_) AllReadyH.nil
        go_simp
        refine (Tryz.put _ D1.out (by omega) e HU.out).mono ?_
        rintro x1 w1 ⟨v1, rfl, ho1, hb1⟩
        obtain ⟨A1, c1, hv1, hd1⟩ := ho1.di
        subst hv1
        have BW1 := Lib.hid ((BA.out).trans (hb1.mono (BA.out).size))
        obtain ⟨L1, hL1⟩ : ∃ L, [] ++ encN e = L := ⟨_, rfl⟩
        rw [hL1] at hd1
        rw [hL1]
        obtain ⟨n1, hn1⟩ : ∃ n1, L1.length = n1 := ⟨_, rfl⟩
        rw [hn1] at hd1
        rw [hn1]
        have hl1 : n1 ≤ 10 := by
          rw [← hn1, ← hL1, List.length_append]
          have := encF_len 10 e
          unfold encN
          simp; omega
        have HL1 := Lib.hid hL1
        have D2 := Lib.hid hd1
        clear ho1 hd1 hb1 hL1
        refine hK.out _ _ ?_ (fun hHeld => ?_)
        · exact ⟨cellW W0.out BW1.out, cellW W1.out BW1.out, cellW W2.out BW1.out⟩
        clear hK K
        try simp only [Act.put, List.setIfInBounds_toArray, List.set_cons_zero, List.set_cons_succ]
        refine wpAnyH_ready (rs := [7]) (by kernel_rfl) (by simp) ?_
        refine AllReadyH.cons (o := { dst := some 30, op := Op.call { callee := Callee.value (Operand.func 20), args := #[Operand.tmp 25, Operand.tmp 29], argTypes := #[27, 22] }, type := 27, pos := "super.go:32", after := #[{ on := 2, ground := Ground.data }, { on := 6, ground := Ground.data }, { on := 2, ground := Ground.chain }], guard := none }) rfl (fun K hK => ?_) AllReadyH.nil
        go_simp
        refine (Tryz.put _ D2.out (by omega) a (by omega)).mono ?_
        rintro x2 w2 ⟨v2, rfl, ho2, hb2⟩
        obtain ⟨A2, c2, hv2, hd2⟩ := ho2.di
        subst hv2
        have BW2 := Lib.hid ((BW1.out).trans (hb2.mono (BW1.out).size))
        obtain ⟨L2, hL2⟩ : ∃ L, L1 ++ encN a = L := ⟨_, rfl⟩
        rw [hL2] at hd2
        rw [hL2]
        obtain ⟨n2, hn2⟩ : ∃ n2, L2.length = n2 := ⟨_, rfl⟩
        rw [hn2] at hd2
        rw [hn2]
        have hl2 : n2 ≤ 20 := by
          rw [← hn2, ← hL2, List.length_append]
          have := encF_len 10 a
          unfold encN
          omega
        have HL2 := Lib.hid hL2
        have D3 := Lib.hid hd2
        clear ho2 hd2 hb2 hL2
        refine hK.out _ _ ?_ (fun hHeld => ?_)
        · exact ⟨cellW W0.out BW2.out, cellW W1.out BW2.out, cellW W2.out BW2.out⟩
        clear hK K
        try simp only [Act.put, List.setIfInBounds_toArray, List.set_cons_zero, List.set_cons_succ]
        refine wpAnyH_ready (rs := [12]) (by kernel_rfl) (by simp) ?_
        refine AllReadyH.cons (o := { dst := some 35, op := Op.call { callee := Callee.value (Operand.func 20), args := #[Operand.tmp 30, Operand.tmp 34], argTypes := #[27, 22] }, type := 27, pos := "super.go:32", after := #[{ on := 7, ground := Ground.data }, { on := 11, ground := Ground.data }, { on := 7, ground := Ground.chain }], guard := none }) rfl (fun K hK => ?_) AllReadyH.nil
        go_simp
        refine (Tryz.put _ D3.out (by omega) n (by omega)).mono ?_
        rintro x3 w3 ⟨v3, rfl, ho3, hb3⟩
        obtain ⟨A3, c3, hv3, hd3⟩ := ho3.di
        subst hv3
        have BW3 := Lib.hid ((BW2.out).trans (hb3.mono (BW2.out).size))
        obtain ⟨L3, hL3⟩ : ∃ L, L2 ++ encN n = L := ⟨_, rfl⟩
        rw [hL3] at hd3
        rw [hL3]
        obtain ⟨n3, hn3⟩ : ∃ n3, L3.length = n3 := ⟨_, rfl⟩
        rw [hn3] at hd3
        rw [hn3]
        have hl3 : n3 ≤ 30 := by
          rw [← hn3, ← hL3, List.length_append]
          have := encF_len 10 n
          unfold encN
          omega
        have HL3 := Lib.hid hL3
        have D4 := Lib.hid hd3
        clear ho3 hd3 hb3 hL3
        refine hK.out _ _ ?_ (fun hHeld => ?_)
        · exact ⟨cellW W0.out BW3.out, cellW W1.out BW3.out, cellW W2.out BW3.out⟩
        clear hK K
        try simp only [Act.put, List.setIfInBounds_toArray, List.set_cons_zero, List.set_cons_succ]
        refine wpAnyH_take (i := 13) (oi := { dst := some 4, op := Op.assign (Operand.tmp 35), type := 27, pos := "super.go:32", after := #[{ on := 12, ground := Ground.data }, { on := 12, ground := Ground.chain }, { on := 0, ground := Ground.phase }, { on := 1, ground := Ground.phase }, { on := 2, ground := Ground.phase }, { on := 3, ground := Ground.phase }, { on := 4, ground := Ground.phase }, { on := 5, ground := Ground.phase }, { on := 6, ground := Ground.phase }, { on := 7, ground := Ground.phase }, { on := 8, ground := Ground.phase }, { on := 9, ground := Ground.phase }, { on := 10, ground := Ground.phase }, { on := 11, ground := Ground.phase }, { on := 12, ground := Ground.phase }], guard := none }) (v := ?_) rfl (by kernel_rfl) (by kernel_rfl) (by kernel_rfl) (fun _ _ _ h => h) (Or.inl ⟨by rfl, ?_⟩) (by assumption) ?_
        rotate_left
        · (intro w hSw; (try dsimp only at hSw); go_simp; try with_reducible rfl)
        try simp only [Act.put, List.setIfInBounds_toArray, List.set_cons_zero, List.set_cons_succ]
        refine wpAnyH_done (by kernel_rfl) ?_ _
        refine NoPanic.normal ?_
        have HT : Hid (told e a n = L3) := Lib.hid (by rw [← HL3.out, ← HL2.out, ← HL1.out]; unfold told; rw [List.nil_append])
        have HR : Hid (restS e a n = L3 ++ List.replicate (60 - L3.length) 0) := Lib.hid (by unfold restS; rw [HT.out])
        have hL30 : n3 ≤ 30 := hl3
        obtain ⟨m, hm1, hm2⟩ : ∃ m : Nat, m ≤ 60 ∧ 60 ≤ m := ⟨60, Nat.le_refl _, Nat.le_refl _⟩
        have hln3 := (D4.out).len
        have B3 := Lib.hid ((BB.out).trans ((BW3.out).mono (BB.out).size))
        have HP := Lib.hid ((D4.out).src ((Below.refl _ w3).alloc (Nat.le_refl _) (.cells (List.replicate m (.int .u8 0)).toArray 5)))
        have HM1 : Hid ((L3.map u8v).length = Nat.min n3 m) := Lib.hid (by rw [List.length_map, hln3]; exact (Nat.min_eq_left (by omega)).symm)
        have HM2 : Hid (0 + (L3.map u8v).length ≤ (List.replicate m (Value.int .u8 0)).length) := Lib.hid (by rw [List.length_map, List.length_replicate]; omega)
        obtain ⟨cs, hcs⟩ : ∃ cs, L3.map u8v = cs := ⟨_, rfl⟩
        have HCS := Lib.hid hcs
        have HONE : Hid (∀ u ∈ cs, u.oneCell' = true) := Lib.hid (by rw [← hcs]; exact u8v_one _)
        rw [hcs] at HP HM1 HM2
        have HLN3 := Lib.hid hln3
        clear hcs hln3 D1 D2 D3 BW1 BW2 BA hHeld W0 W1 W2 V0 V1 V2 VB
        go_wp2_with (first
          | (at_make; refine wpList_make_lc _ rfl _ _ 27 rfl 5 ii (.int .u8 0) Tryz.underlying27 hi0 hz0 hz1 hz2 rfl _ _ _ _ m m rfl rfl (by omega) (by omega) (by omega) (by omega) ?_)
          | (refine wpList_copy_splice rfl (.tmp 37) (.tmp 38) 27 27 rfl 5 Tryz.underlying27 size5 _ _ m m n3 c3 rfl rfl w3.heap.size 0 (List.replicate m (.int .u8 0)) 5 (heap_alloc_new w3 _) cs HM1.out (fun h => ⟨rfl, HP.out h⟩) HM2.out HONE.out w3.heap.size w3 ((Below.refl _ w3).alloc (Nat.le_refl _) _) (Nat.le_refl _) ?_))
        intro w5 hg5 hb5
        have hg6 := hg5.out
        rw [← HCS.out, splice_rest L3 m (by rw [HLN3.out]; omega), show m = 60 by omega, ← HR.out] at hg6
        obtain ⟨g, hg⟩ : ∃ g, w3.heap.size = g := ⟨_, rfl⟩
        have ho5 := full_ob (B := g) hg6 (by omega) ((restS_len e a n).trans (show 60 = m by omega)) (by omega)
        rw [hg] at hg6 ho5
        obtain ⟨A5, c5, hv5, hd5⟩ := ho5.di
        rw [(restS_len e a n).trans (show 60 = m by omega)] at hv5 hd5
        cases hv5
        rw [hg]
        have D5 := Lib.hid hd5
        have B5 := Lib.hid ((B3.out).trans (hb5.mono (B3.out).size))
        clear hg5 hg6 ho5 hb5 hg HP HM1 HM2 hd5
        obtain ⟨RS, hRS⟩ : ∃ RS, restS e a n = RS := ⟨_, rfl⟩
        rw [hRS] at D5
        have HRS := Lib.hid hRS
        have hSl := sumS_lt RS
        obtain ⟨s, hs⟩ : ∃ s, sumS RS = s := ⟨_, rfl⟩
        rw [hs] at hSl
        have HS := Lib.hid hs
        clear hRS hs
        go_wp2_with fail
        refine (sum_by Tryz.sum w5 ⟨g, 0, none⟩ m m RS D5.out (by omega)).mono ?_
        rintro x w6 ⟨rfl, hw6⟩
        rw [hw6, HS.out]
        clear hw6 w6
        go_wp2_with fail
        refine (Tryz.put4 w5 (di_nil w5) (by omega) s hSl).mono ?_
        rintro x w6 ⟨v6, rfl, ho6, hb6⟩
        have D6 := Lib.hid ((D5.out).below hb6)
        have B6 := Lib.hid ((B5.out).trans (hb6.mono (B5.out).size))
        have hbs := hb6.size
        have O6 : Hid (w6.ownsRow w5.heap.size 5 1 v6 4 ((le4 s).map u8v)) := Lib.hid ho6
        have S6 := Lib.hid ((D6.out).srcX (Below.refl _ w6))
        have HRL : Hid ((RS.map u8v).length = m * 1) := Lib.hid (by rw [List.length_map, (D6.out).len, Nat.mul_one])
        have H51 := Lib.hid (u8v_one RS)
        obtain ⟨rv, hrv⟩ : ∃ rv, RS.map u8v = rv := ⟨_, rfl⟩
        obtain ⟨l4, hl4⟩ : ∃ l4, (le4 s).map u8v = l4 := ⟨_, rfl⟩
        rw [hrv] at S6 HRL H51
        rw [hl4] at O6
        have HRV := Lib.hid hrv
        have HL4 := Lib.hid hl4
        have HB5 := Lib.hid (B5.out).size
        clear ho6 hb6 hrv hl4
        go_wp2_with (at_builtin; refine wpList_append_own _ rfl (.tmp 42) (.tmp 43) 27 rfl w5.heap.size 5 ii (.int .u8 0) 1 1 Tryz.underlying27 hi0 hz0 hz1 hz2 rfl (by decide) _ _ _ rfl (O6.out) _ _ _ rv rfl HRL.out S6.out H51.out (by unfold maxLen; omega) (by omega) hbs ?_)
        intro v7 w7 hown7 hg7 hne7
        have B7 := Lib.hid ((B6.out).grown hg7 (B6.out).size (fun k hk => by have := ((O6.out).lt k hk).1; have := HB5.out; omega))
        have O7 : Hid (OB w7 w.heap.size v7 (supB e a n)) := Lib.hid (by
          have e1 : (supB e a n).length = 4 + m := (supB_len e a n).trans (by omega)
          unfold OB
          rw [e1]
          unfold supB
          rw [List.map_append, HRS.out, HS.out, HL4.out, HRV.out]
          exact ⟨hown7.1, by
            rcases hown7.2 with q | ⟨g, cap, cur, h1, h2, h3⟩
            · exact .inl q
            · exact .inr ⟨g, cap, cur, h1, by have := HB5.out; omega, h3⟩⟩)
        clear hown7 hg7 hne7
        go_wp2_with fail
        go_ret2
        exact .inl ⟨OK.out, ⟨_, rfl, by rw [Int.toNat_natCast, Int.toNat_natCast]; exact O7.out⟩, B7.out⟩
      · have m2 : (decide ((0 : Int) ≤ n) && decide (n ≤ 1024)) = false := by simp; omega
        have M1 := Lib.hid m1
        have M2 := Lib.hid m2
        have HN : Hid (¬ okS e a n) := Lib.hid (fun h => h2 h.2.2)
        clear h1 h2 m1 m2
        go_enter Tryz.func5, Tryz.ntmps5
        go_wp2_with fail
        refine (Tryz.may a _).mono ?_
        rintro x w1 ⟨rfl, hw1⟩
        rw [hw1, M1.out]
        clear hw1 w1
        go_wp2_with fail
        refine (Tryz.may n _).mono ?_
        rintro x w1 ⟨rfl, hw1⟩
        rw [hw1, M2.out]
        clear hw1 w1
        go_wp2_with fail
        go_ret2
        exact .inr ⟨HN.out, rfl, BB.out⟩
    · have m1 : (decide ((0 : Int) ≤ a) && decide (a ≤ 1024)) = false := by simp; omega
      have M1 := Lib.hid m1
      have HN : Hid (¬ okS e a n) := Lib.hid (fun h => h1 h.2.1)
      clear h1 m1
      go_enter Tryz.func5, Tryz.ntmps5
      go_wp2_with fail
      refine (Tryz.may a _).mono ?_
      rintro x w1 ⟨rfl, hw1⟩
      rw [hw1, M1.out]
      clear hw1 w1
      go_wp2_with fail
      go_ret2
      exact .inr ⟨HN.out, rfl, BB.out⟩
end Go.Proofs
end

section
namespace Go.Proofs
open Go.RowKit Go.FM
set_option maxRecDepth 100000
def lenOf : Value → Nat
  | .slice _ n _ => n
  | _ => 0
theorem OB.mono {w : World} {B B' : Nat} {v : Value} {l : List UInt8} (h : OB w B v l) (hb : B' ≤ B) : OB w B' v l :=
  ⟨h.1, by
    rcases h.2 with q | ⟨g, cap, cur, h1, h2, h3⟩
    · exact .inl q
    · exact .inr ⟨g, cap, cur, h1, by omega, h3⟩⟩
theorem OB.below {w w' : World} {B : Nat} {v : Value} {l : List UInt8} (h : OB w B v l) (hb : Below w.heap.size w w') : OB w' B v l := own_below h hb
set_option maxHeartbeats 8000000 in
theorem Tryz.rsput (w : World) (e : Nat) (a n : Int) (he : e < 18446744073709551616) (ha : -9223372036854775808 ≤ a ∧ a ≤ 9223372036854775807) (hn : -9223372036854775808 ≤ n ∧ n ≤ 9223372036854775807) :
    Calls Tryz.prog 6 #[.agg #[.int .u64 e, .int .i64 a, .int .i64 n]] w (SupP w e a n) := by
  by_cases h0 : e = 0
  · have HN : Hid (¬ okS e a n) := Lib.hid (fun h => h.1 h0)
    have BB := Lib.hid ((Below.refl _ w).alloc (Nat.le_refl _) (.cells #[.int .u64 0, .int .i64 a, .int .i64 n] 36))
    subst h0
    go_enter Tryz.func6, Tryz.ntmps6
    go_wp2_with fail
    go_ret2
    exact .inr ⟨HN.out, rfl, BB.out⟩
  · have g0 : ((e : Int) == 0) = false := by simpa using h0
    have g0' : decide ((e : Int) = 0) = false := decide_eq_false (by omega)
    have g0'' : decide (e = 0) = false := decide_eq_false h0
    have BB := Lib.hid ((Below.refl _ w).alloc (Nat.le_refl _) (.cells #[.int .u64 e, .int .i64 a, .int .i64 n] 36))
    have VB := Lib.hid (heap_alloc_new w (.cells #[.int .u64 e, .int .i64 a, .int .i64 n] 36))
    by_cases p1 : a < 0
    · skip
      have d1 : decide (a < 0) = true := decide_eq_true p1
      have HN : Hid (¬ okS e a n) := Lib.hid (fun h => by unfold okS at h; omega)
      clear p1 h0
      go_enter Tryz.func6, Tryz.ntmps6
      go_wp2_with fail
      go_ret2
      exact .inr ⟨HN.out, rfl, BB.out⟩
    · have d1 : decide (a < 0) = false := decide_eq_false p1
      by_cases p2 : 1024 < a
      · skip
        have d2 : decide (1024 < a) = true := decide_eq_true p2
        have HN : Hid (¬ okS e a n) := Lib.hid (fun h => by unfold okS at h; omega)
        clear p1 p2 h0
        go_enter Tryz.func6, Tryz.ntmps6
        go_wp2_with fail
        go_ret2
        exact .inr ⟨HN.out, rfl, BB.out⟩
      · have d2 : decide (1024 < a) = false := decide_eq_false p2
        by_cases p3 : n < 0
        · skip
          have d3 : decide (n < 0) = true := decide_eq_true p3
          have HN : Hid (¬ okS e a n) := Lib.hid (fun h => by unfold okS at h; omega)
          clear p1 p2 p3 h0
          go_enter Tryz.func6, Tryz.ntmps6
          go_wp2_with fail
          go_ret2
          exact .inr ⟨HN.out, rfl, BB.out⟩
        · have d3 : decide (n < 0) = false := decide_eq_false p3
          by_cases p4 : 1024 < n
          · skip
            have d4 : decide (1024 < n) = true := decide_eq_true p4
            have HN : Hid (¬ okS e a n) := Lib.hid (fun h => by unfold okS at h; omega)
            clear p1 p2 p3 p4 h0
            go_enter Tryz.func6, Tryz.ntmps6
            go_wp2_with fail
            go_ret2
            exact .inr ⟨HN.out, rfl, BB.out⟩
          · have d4 : decide (1024 < n) = false := decide_eq_false p4
            obtain ⟨a, rfl⟩ : ∃ a' : Nat, a = (a' : Int) := ⟨a.toNat, by omega⟩
            obtain ⟨n, rfl⟩ : ∃ n' : Nat, n = (n' : Int) := ⟨n.toNat, by omega⟩
            have ha4 : a ≤ 1024 := by omega
            have hn4 : n ≤ 1024 := by omega
            have OK : Hid (okS e (a : Int) (n : Int)) := Lib.hid (by unfold okS; omega)
            have u1 : IntKind.u64.wrap (a : Int) = (a : Int) := wrapu (by omega) (by omega)
            have u2 : IntKind.u64.wrap (n : Int) = (n : Int) := wrapu (by omega) (by omega)
            obtain ⟨ii, hi0, hz0, hz1, hz2⟩ := info5
            clear h0 p1 p2 p3 p4 ha hn
            go_enter Tryz.func6, Tryz.ntmps6
            go_upto_region 3 with fail
            obtain ⟨wa, hwa⟩ : ∃ wa, w.alloc (.cells #[.int .u64 e, .int .i64 a, .int .i64 n] 36) = wa := ⟨_, rfl⟩
            obtain ⟨bx, hbx⟩ : ∃ bx, w.heap.size = bx := ⟨_, rfl⟩
            rw [hwa] at BB VB
            rw [hbx] at VB
            have V0 : wa.cell? ⟨bx, 0, none⟩ = some (.int .u64 e) := cell_of_row wa bx 0 _ 36 _ VB.out
            have V1 : wa.cell? ⟨bx, 1, none⟩ = some (.int .i64 a) := cell_of_row wa bx 1 _ 36 _ VB.out
            have V2 : wa.cell? ⟨bx, 2, none⟩ = some (.int .i64 n) := cell_of_row wa bx 2 _ 36 _ VB.out
            have W0 := Lib.hid V0
            have W1 := Lib.hid V1
            have W2 := Lib.hid V2
            have HU := Lib.hid he
            rw [hwa, hbx]
            have HBX := Lib.hid hbx
            have hnil : DI wa.drew none 0 0 [] := di_nil _
            have D1 := Lib.hid hnil
            have BA : Hid (Below wa.heap.size wa wa.drew) := Lib.hid (Below.refl _ wa).drew
            clear hwa hbx hnil
            refine wp_region_noPanic ?_
            refine wp_region_held_drew (S := (fun W => W.cell? ⟨bx, 0, none⟩ = some (.int .u64 e) ∧ W.cell? ⟨bx, 1, none⟩ = some (.int .i64 a) ∧ W.cell? ⟨bx, 2, none⟩ = some (.int .i64 n))) (by kernel_rfl) ?_ (fun hHeld => ?_)
            · exact ⟨V0, V1, V2⟩
            refine wpAnyH_take (i := 0) (oi := { dst := some 32, op := Op.fieldAddr 36 (Operand.tmp 1) 0, type := 0, pos := "ref.go:556", after := #[], guard := none }) (v := ?_) rfl (by kernel_rfl) (by kernel_rfl) (by kernel_rfl) (fun _ _ _ h => h) (Or.inl ⟨by rfl, ?_⟩) (by assumption) ?_
            rotate_left
            · (intro w hSw; (try dsimp only at hSw); go_simp; try with_reducible rfl)
            try simp only [Act.put, List.setIfInBounds_toArray, List.set_cons_zero, List.set_cons_succ]
            refine wpAnyH_take (i := 1) (oi := { dst := some 33, op := Op.load 22 (Operand.tmp 32), type := 22, pos := "ref.go:556", after := #[{ on := 0, ground := Ground.data }], guard := none }) (v := ?_) rfl (by kernel_rfl) (by kernel_rfl) (by kernel_rfl) (fun _ _ _ h => h) (Or.inl ⟨by rfl, ?_⟩) (by assumption) ?_
            rotate_left
            · (intro w hSw; (try dsimp only at hSw); go_simp; try with_reducible rfl)
            try simp only [Act.put, List.setIfInBounds_toArray, List.set_cons_zero, List.set_cons_succ]
            refine wpAnyH_take (i := 3) (oi := { dst := some 35, op := Op.fieldAddr 36 (Operand.tmp 1) 1, type := 0, pos := "ref.go:556", after := #[], guard := none }) (v := ?_) rfl (by kernel_rfl) (by kernel_rfl) (by kernel_rfl) (fun _ _ _ h => h) (Or.inl ⟨by rfl, ?_⟩) (by assumption) ?_
            rotate_left
            · (intro w hSw; (try dsimp only at hSw); go_simp; try with_reducible rfl)
            try simp only [Act.put, List.setIfInBounds_toArray, List.set_cons_zero, List.set_cons_succ]
            refine wpAnyH_take (i := 4) (oi := { dst := some 36, op := Op.fieldAddr 34 (Operand.tmp 35) 0, type := 0, pos := "ref.go:556", after := #[{ on := 3, ground := Ground.data }], guard := none }) (v := ?_) rfl (by kernel_rfl) (by kernel_rfl) (by kernel_rfl) (fun _ _ _ h => h) (Or.inl ⟨by rfl, ?_⟩) (by assumption) ?_
            rotate_left
            · (intro w hSw; (try dsimp only at hSw); go_simp; try with_reducible rfl)
            try simp only [Act.put, List.setIfInBounds_toArray, List.set_cons_zero, List.set_cons_succ]
            refine wpAnyH_take (i := 5) (oi := { dst := some 37, op := Op.load 3 (Operand.tmp 36), type := 3, pos := "ref.go:556", after := #[{ on := 4, ground := Ground.data }], guard := none }) (v := ?_) rfl (by kernel_rfl) (by kernel_rfl) (by kernel_rfl) (fun _ _ _ h => h) (Or.inl ⟨by rfl, ?_⟩) (by assumption) ?_
            rotate_left
            · (intro w hSw; (try dsimp only at hSw); go_simp; try with_reducible rfl)
            try simp only [Act.put, List.setIfInBounds_toArray, List.set_cons_zero, List.set_cons_succ]
            refine wpAnyH_take (i := 6) (oi := { dst := some 38, op := Op.convert 3 22 (Operand.tmp 37), type := 22, pos := "ref.go:556", after := #[{ on := 5, ground := Ground.data }], guard := none }) (v := ?_) rfl (by kernel_rfl) (by kernel_rfl) (by kernel_rfl) (fun _ _ _ h => h) (Or.inl ⟨by rfl, ?_⟩) (by assumption) ?_
            rotate_left
            · (intro w hSw; (try dsimp only at hSw); go_simp; try with_reducible rfl)
            try simp only [Act.put, List.setIfInBounds_toArray, List.set_cons_zero, List.set_cons_succ]
            refine wpAnyH_take (i := 8) (oi := { dst := some 40, op := Op.fieldAddr 36 (Operand.tmp 1) 1, type := 0, pos := "ref.go:556", after := #[], guard := none }) (v := ?_) rfl (by kernel_rfl) (by kernel_rfl) (by kernel_rfl) (fun _ _ _ h => h) (Or.inl ⟨by rfl, ?_⟩) (by assumption) ?_
            rotate_left
            · (intro w hSw; (try dsimp only at hSw); go_simp; try with_reducible rfl)
            try simp only [Act.put, List.setIfInBounds_toArray, List.set_cons_zero, List.set_cons_succ]
            refine wpAnyH_take (i := 9) (oi := { dst := some 41, op := Op.fieldAddr 34 (Operand.tmp 40) 1, type := 0, pos := "ref.go:556", after := #[{ on := 8, ground := Ground.data }], guard := none }) (v := ?_) rfl (by kernel_rfl) (by kernel_rfl) (by kernel_rfl) (fun _ _ _ h => h) (Or.inl ⟨by rfl, ?_⟩) (by assumption) ?_
            rotate_left
            · (intro w hSw; (try dsimp only at hSw); go_simp; try with_reducible rfl)
            try simp only [Act.put, List.setIfInBounds_toArray, List.set_cons_zero, List.set_cons_succ]
            refine wpAnyH_take (i := 10) (oi := { dst := some 42, op := Op.load 3 (Operand.tmp 41), type := 3, pos := "ref.go:556", after := #[{ on := 9, ground := Ground.data }], guard := none }) (v := ?_) rfl (by kernel_rfl) (by kernel_rfl) (by kernel_rfl) (fun _ _ _ h => h) (Or.inl ⟨by rfl, ?_⟩) (by assumption) ?_
            rotate_left
            · (intro w hSw; (try dsimp only at hSw); go_simp; try with_reducible rfl)
            try simp only [Act.put, List.setIfInBounds_toArray, List.set_cons_zero, List.set_cons_succ]
            refine wpAnyH_take (i := 11) (oi := { dst := some 43, op := Op.convert 3 22 (Operand.tmp 42), type := 22, pos := "ref.go:556", after := #[{ on := 10, ground := Ground.data }], guard := none }) (v := ?_) rfl (by kernel_rfl) (by kernel_rfl) (by kernel_rfl) (fun _ _ _ h => h) (Or.inl ⟨by rfl, ?_⟩) (by assumption) ?_
            rotate_left
            · (intro w hSw; (try dsimp only at hSw); go_simp; try with_reducible rfl)
            try simp only [Act.put, List.setIfInBounds_toArray, List.set_cons_zero, List.set_cons_succ]
            refine wpAnyH_ready (rs := [2]) (by kernel_rfl) (by simp) ?_
            refine AllReadyH.cons (o := { dst := some 34, op := Op.call { callee := Callee.value (Operand.func 23), args := #[Operand.const (Value.slice none 0 0), Operand.tmp 33], argTypes := #[27, 22] }, type := 27, pos := "ref.go:556", after := #[{ on := 1, ground := Ground.data }], guard := none }) rfl (fun K hK => ?_) AllReadyH.nil
            go_simp
            refine (Tryz.rput _ D1.out (by omega) e HU.out).mono ?_
            rintro x1 w1 ⟨v1, rfl, ho1, hb1⟩
            obtain ⟨A1, c1, hv1, hd1⟩ := ho1.di
            subst hv1
            have BW1 := Lib.hid ((BA.out).trans (hb1.mono (BA.out).size))
            obtain ⟨L1, hL1⟩ : ∃ L, [] ++ encN e = L := ⟨_, rfl⟩
            rw [hL1] at hd1
            rw [hL1]
            obtain ⟨n1, hn1⟩ : ∃ n1, L1.length = n1 := ⟨_, rfl⟩
            rw [hn1] at hd1
            rw [hn1]
            have hl1 : n1 ≤ 10 := by
              rw [← hn1, ← hL1, List.length_append]
              have := encF_len 10 e
              unfold encN
              simp; omega
            have HL1 := Lib.hid hL1
            have D2 := Lib.hid hd1
            have OO1 := Lib.hid ho1
            rw [hL1] at OO1
            have HS1 := Lib.hid hb1.size
            have HNN1 := Lib.hid hn1
            clear ho1 hd1 hb1 hL1
            refine hK.out _ _ ?_ (fun hHeld => ?_)
            · exact ⟨cellW W0.out BW1.out, cellW W1.out BW1.out, cellW W2.out BW1.out⟩
            clear hK K
            try simp only [Act.put, List.setIfInBounds_toArray, List.set_cons_zero, List.set_cons_succ]
            refine wpAnyH_ready (rs := [7]) (by kernel_rfl) (by simp) ?_
            refine AllReadyH.cons (o := { dst := some 39, op := Op.call { callee := Callee.value (Operand.func 23), args := #[Operand.tmp 34, Operand.tmp 38], argTypes := #[27, 22] }, type := 27, pos := "ref.go:556", after := #[{ on := 2, ground := Ground.data }, { on := 6, ground := Ground.data }, { on := 2, ground := Ground.chain }], guard := none }) rfl (fun K hK => ?_) AllReadyH.nil
            go_simp
            refine (Tryz.rput _ D2.out (by omega) a (by omega)).mono ?_
            rintro x2 w2 ⟨v2, rfl, ho2, hb2⟩
            obtain ⟨A2, c2, hv2, hd2⟩ := ho2.di
            subst hv2
            have BW2 := Lib.hid ((BW1.out).trans (hb2.mono (BW1.out).size))
            obtain ⟨L2, hL2⟩ : ∃ L, L1 ++ encN a = L := ⟨_, rfl⟩
            rw [hL2] at hd2
            rw [hL2]
            obtain ⟨n2, hn2⟩ : ∃ n2, L2.length = n2 := ⟨_, rfl⟩
            rw [hn2] at hd2
            rw [hn2]
            have hl2 : n2 ≤ 20 := by
              rw [← hn2, ← hL2, List.length_append]
              have := encF_len 10 a
              unfold encN
              omega
            have HL2 := Lib.hid hL2
            have D3 := Lib.hid hd2
            have OO2 := Lib.hid ho2
            rw [hL2] at OO2
            have HS2 := Lib.hid hb2.size
            have HNN2 := Lib.hid hn2
            clear ho2 hd2 hb2 hL2
            refine hK.out _ _ ?_ (fun hHeld => ?_)
            · exact ⟨cellW W0.out BW2.out, cellW W1.out BW2.out, cellW W2.out BW2.out⟩
            clear hK K
            try simp only [Act.put, List.setIfInBounds_toArray, List.set_cons_zero, List.set_cons_succ]
            refine wpAnyH_ready (rs := [12]) (by kernel_rfl) (by simp) ?_
            refine AllReadyH.cons (o := { dst := some 44, op := Op.call { callee := Callee.value (Operand.func 23), args := #[Operand.tmp 39, Operand.tmp 43], argTypes := #[27, 22] }, type := 27, pos := "ref.go:556", after := #[{ on := 7, ground := Ground.data }, { on := 11, ground := Ground.data }, { on := 7, ground := Ground.chain }], guard := none }) rfl (fun K hK => ?_) AllReadyH.nil
            go_simp
            refine (Tryz.rput _ D3.out (by omega) n (by omega)).mono ?_
            rintro x3 w3 ⟨v3, rfl, ho3, hb3⟩
            obtain ⟨A3, c3, hv3, hd3⟩ := ho3.di
            subst hv3
            have BW3 := Lib.hid ((BW2.out).trans (hb3.mono (BW2.out).size))
            obtain ⟨L3, hL3⟩ : ∃ L, L2 ++ encN n = L := ⟨_, rfl⟩
            rw [hL3] at hd3
            rw [hL3]
            obtain ⟨n3, hn3⟩ : ∃ n3, L3.length = n3 := ⟨_, rfl⟩
            rw [hn3] at hd3
            rw [hn3]
            have hl3 : n3 ≤ 30 := by
              rw [← hn3, ← hL3, List.length_append]
              have := encF_len 10 n
              unfold encN
              omega
            have HL3 := Lib.hid hL3
            have D4 := Lib.hid hd3
            have OO3 := Lib.hid ho3
            rw [hL3] at OO3
            have HS3 := Lib.hid hb3.size
            have HNN3 := Lib.hid hn3
            clear ho3 hd3 hb3 hL3
            refine hK.out _ _ ?_ (fun hHeld => ?_)
            · exact ⟨cellW W0.out BW3.out, cellW W1.out BW3.out, cellW W2.out BW3.out⟩
            clear hK K
            try simp only [Act.put, List.setIfInBounds_toArray, List.set_cons_zero, List.set_cons_succ]
            refine wpAnyH_take (i := 13) (oi := { dst := some 4, op := Op.assign (Operand.tmp 44), type := 27, pos := "ref.go:556", after := #[{ on := 12, ground := Ground.data }, { on := 12, ground := Ground.chain }, { on := 0, ground := Ground.phase }, { on := 1, ground := Ground.phase }, { on := 2, ground := Ground.phase }, { on := 3, ground := Ground.phase }, { on := 4, ground := Ground.phase }, { on := 5, ground := Ground.phase }, { on := 6, ground := Ground.phase }, { on := 7, ground := Ground.phase }, { on := 8, ground := Ground.phase }, { on := 9, ground := Ground.phase }, { on := 10, ground := Ground.phase }, { on := 11, ground := Ground.phase }, { on := 12, ground := Ground.phase }], guard := none }) (v := ?_) rfl (by kernel_rfl) (by kernel_rfl) (by kernel_rfl) (fun _ _ _ h => h) (Or.inl ⟨by rfl, ?_⟩) (by assumption) ?_
            rotate_left
            · (intro w hSw; (try dsimp only at hSw); go_simp; try with_reducible rfl)
            try simp only [Act.put, List.setIfInBounds_toArray, List.set_cons_zero, List.set_cons_succ]
            refine wpAnyH_done (by kernel_rfl) ?_ _
            refine NoPanic.normal ?_
            have HT : Hid (told e a n = L3) := Lib.hid (by rw [← HL3.out, ← HL2.out, ← HL1.out]; unfold told; rw [List.nil_append])
            have HR : Hid (restS e a n = L3 ++ List.replicate (60 - L3.length) 0) := Lib.hid (by unfold restS; rw [HT.out])
            have hL30 : n3 ≤ 30 := hl3
            have B3 := Lib.hid ((BB.out).trans ((BW3.out).mono (BB.out).size))
            have HWS : Hid (w.heap.size ≤ w2.heap.size) := Lib.hid (by have := (BB.out).size; have := (BW2.out).size; omega)
            have O3 : Hid (OB w3 w.heap.size (.slice A3 n3 c3) (L3 ++ List.replicate 0 0)) := Lib.hid (by rw [List.replicate_zero, List.append_nil, ← HNN3.out]; exact (OO3.out).mono HWS.out)
            clear hn1 hn2 hn3
            clear D1 D2 D3 D4 BW1 BW2 BW3 BA hHeld W0 W1 W2 V0 V1 V2 VB OO1 OO2 OO3 HS1 HS2 HS3
            obtain ⟨m, hm1, hm2⟩ : ∃ m : Nat, m ≤ 60 ∧ 60 ≤ m := ⟨60, Nat.le_refl _, Nat.le_refl _⟩
            go_wp2_with fail
            go_loopw [4] (fun v wr => ∃ k : Nat, n3 + k ≤ 60 ∧ lenOf v = n3 + k ∧ OB wr w.heap.size v (L3 ++ List.replicate k 0) ∧ Below w.heap.size w wr) (fun v _ => 60 - lenOf v)
            case atStart => exact ⟨0, by omega, rfl, O3.out, B3.out⟩
            case round =>
              obtain ⟨k, hk, hlv, ho, hb⟩ := hrel
              obtain ⟨A4, c4, hv, hd⟩ := ho.di
              have hLk : (L3 ++ List.replicate k (0 : UInt8)).length = n3 + k := by rw [List.length_append, List.length_replicate, HNN3.out]
              rw [hLk] at hv hd
              subst hv
              have HO := Lib.hid ho
              have HB := Lib.hid hb
              have HD := Lib.hid hd
              obtain ⟨q, hq⟩ : ∃ q, n3 + k = q := ⟨_, rfl⟩
              have HQ := Lib.hid hq
              have hq60 : q ≤ 60 := by omega
              rw [hq] at HO HD hLk ⊢
              have HLK := Lib.hid hLk
              clear ho hb hd hlv hk hLk hq O3
              by_cases hlt : q < 60
              · have d1 : decide ((q : Int) < 60) = true := decide_eq_true (by omega)
                have d1' : decide (q < 60) = true := decide_eq_true hlt
                have OA := Lib.hid (((show wr.ownsRow w.heap.size 5 1 _ (L3 ++ List.replicate k (0 : UInt8)).length ((L3 ++ List.replicate k (0 : UInt8)).map u8v) from HO.out)).alloc (.cells #[.int .u8 0] 5))
                rw [HLK.out] at OA
                have CA := Lib.hid (built_byte wr 0 (by omega))
                have BA := Lib.hid ((HB.out).alloc (HB.out).size (.cells #[.int .u8 0] 5))
                obtain ⟨lv, hlv⟩ : ∃ lv, (L3 ++ List.replicate k (0 : UInt8)).map u8v = lv := ⟨_, rfl⟩
                rw [hlv] at OA
                have HLV := Lib.hid hlv
                obtain ⟨cz, hcz⟩ : ∃ cz, [UInt8.ofNat 0].map u8v = cz := ⟨_, rfl⟩
                have HCZ := Lib.hid hcz
                have HC1 : Hid (cz.length = 1 * 1) := Lib.hid (by rw [← hcz]; rfl)
                have HC2 : Hid (∀ u ∈ cz, u.oneCell' = true) := Lib.hid (by rw [← hcz]; exact u8v_one _)
                rw [hcz] at CA
                have CA2 : Hid (∀ j u, cz[j]? = some u → (wr.alloc (.cells #[.int .u8 0] 5)).cell? ((⟨wr.heap.size, 0, none⟩ : Addr).add j) = some u) := Lib.hid CA.out
                clear hlv hcz CA
                go_wp2_with (at_builtin; refine wpList_append_own _ rfl (.tmp 48) (.tmp 49) 27 rfl w.heap.size 5 ii (.int .u8 0) 1 1 Tryz.underlying27 hi0 hz0 hz1 hz2 rfl (by decide) _ _ _ rfl (OA.out) _ _ _ cz rfl HC1.out CA2.out HC2.out (by unfold maxLen; omega) (by omega) (BA.out).size ?_)
                intro v7 w7 hown7 hg7 hne7
                have B7 := Lib.hid ((BA.out).grown hg7 (BA.out).size (fun k hk => ((OA.out).lt k hk).1))
                have E2 : L3 ++ List.replicate (k + 1) (0 : UInt8) = (L3 ++ List.replicate k 0) ++ [UInt8.ofNat 0] := by rw [List.replicate_succ', List.append_assoc]; rfl
                have HL7 : (L3 ++ List.replicate (k + 1) (0 : UInt8)).length = q + 1 := by rw [E2, List.length_append, HLK.out]; rfl
                have O7 : OB w7 w.heap.size v7 (L3 ++ List.replicate (k + 1) 0) := by
                  unfold OB
                  rw [HL7, E2, List.map_append, HLV.out, HCZ.out]
                  exact hown7
                have HN : Hid (∃ k' : Nat, n3 + k' ≤ 60 ∧ lenOf v7 = n3 + k' ∧ OB w7 w.heap.size v7 (L3 ++ List.replicate k' 0) ∧ Below w.heap.size w w7) := Lib.hid (by
                  obtain ⟨A8, c8, hv8, _⟩ := O7.di
                  have := HQ.out
                  refine ⟨k + 1, by omega, ?_, O7, B7.out⟩
                  rw [hv8, HL7]
                  show q + 1 = _
                  omega)
                have HLE : Hid (lenOf v7 = q + 1) := Lib.hid (by
                  obtain ⟨A8, c8, hv8, _⟩ := O7.di
                  rw [hv8, HL7]; rfl)
                clear hown7 hg7 hne7 E2 HL7 O7
                go_wp2_with fail
                exact ⟨HN.out, by rw [HLE.out]; show 60 - (q + 1) < 60 - q; omega⟩
              · have hq' : q = m := by omega
                have d1 : decide ((q : Int) < 60) = false := decide_eq_false (by omega)
                have d1' : decide (q < 60) = false := decide_eq_false hlt
                have HRS0 : Hid (restS e a n = L3 ++ List.replicate k 0) := Lib.hid (by rw [HR.out, HNN3.out]; have := HQ.out; rw [show 60 - n3 = k by omega])
                rw [← HRS0.out] at HO HD
                clear hq'
                obtain ⟨RS, hRS⟩ : ∃ RS, restS e a n = RS := ⟨_, rfl⟩
                rw [hRS] at HO HD
                have HRS := Lib.hid hRS
                have hSl := sumS_lt RS
                obtain ⟨s, hs⟩ : ∃ s, sumS RS = s := ⟨_, rfl⟩
                rw [hs] at hSl
                have HS := Lib.hid hs
                have hAX : ∃ X, A4 = some X := by
                  obtain ⟨X, hX, _⟩ := (HD.out).at' 0 (RS[0]'(by rw [(HD.out).len]; omega)) (List.getElem?_eq_getElem _)
                  exact ⟨X, hX⟩
                obtain ⟨X, rfl⟩ := hAX
                clear hRS hs hlt HRS0
                go_wp2_with fail
                refine (sum_by Tryz.rsum wr X q c4 RS HD.out (by omega)).mono ?_
                rintro x w6 ⟨rfl, hw6⟩
                rw [hw6, HS.out]
                clear hw6 w6
                go_wp2_with fail
                refine (Tryz.rput4 wr s hSl).mono ?_
                rintro x w6 ⟨v6, rfl, ho6, hb6⟩
                have D6 := Lib.hid ((HD.out).below hb6)
                have B6 := Lib.hid ((HB.out).trans (hb6.mono (HB.out).size))
                have hbs := hb6.size
                have O6 : Hid (w6.ownsRow wr.heap.size 5 1 v6 4 ((le4 s).map u8v)) := Lib.hid ho6
                have S6 := Lib.hid ((D6.out).srcX (Below.refl _ w6))
                have HRL : Hid ((RS.map u8v).length = q * 1) := Lib.hid (by rw [List.length_map, (D6.out).len, Nat.mul_one])
                have H51 := Lib.hid (u8v_one RS)
                obtain ⟨rv, hrv⟩ : ∃ rv, RS.map u8v = rv := ⟨_, rfl⟩
                obtain ⟨l4, hl4⟩ : ∃ l4, (le4 s).map u8v = l4 := ⟨_, rfl⟩
                rw [hrv] at S6 HRL H51
                rw [hl4] at O6
                have HRV := Lib.hid hrv
                have HL4 := Lib.hid hl4
                have HB5 := Lib.hid (HB.out).size
                clear ho6 hb6 hrv hl4
                go_wp2_with (at_builtin; refine wpList_append_own _ rfl (.tmp 53) (.tmp 54) 27 rfl wr.heap.size 5 ii (.int .u8 0) 1 1 Tryz.underlying27 hi0 hz0 hz1 hz2 rfl (by decide) _ _ _ rfl (O6.out) _ _ _ rv rfl HRL.out S6.out H51.out (by unfold maxLen; omega) (by omega) hbs ?_)
                intro v7 w7 hown7 hg7 hne7
                have B7 := Lib.hid ((B6.out).grown hg7 (B6.out).size (fun k hk => by have := ((O6.out).lt k hk).1; have := HB5.out; omega))
                have O7 : Hid (OB w7 w.heap.size v7 (supB e a n)) := Lib.hid (by
                  have e1 : (supB e a n).length = 4 + q := by
                    rw [supB_len]
                    have h1 := restS_len e a n
                    rw [HRS.out, (D6.out).len] at h1
                    omega
                  unfold OB
                  rw [e1]
                  unfold supB
                  rw [List.map_append, HRS.out, HS.out, HL4.out, HRV.out]
                  exact ⟨hown7.1, by
                    rcases hown7.2 with q | ⟨g, cap, cur, h1, h2, h3⟩
                    · exact .inl q
                    · exact .inr ⟨g, cap, cur, h1, by have := HB5.out; omega, h3⟩⟩)
                clear hown7 hg7 hne7
                go_wp2_with fail
                go_ret2
                exact .inl ⟨OK.out, ⟨_, rfl, by rw [Int.toNat_natCast, Int.toNat_natCast]; exact O7.out⟩, B7.out⟩
end Go.Proofs
end

section
namespace Go.Proofs
open Go.RowKit Go.FM
set_option maxRecDepth 100000
theorem RdIn.other {W w w' : World} {b : Nat} {A : Option Addr} {n c : Nat} {l : List UInt8} {f : Int} {p : Nat} {e : Int} (h : RdIn W w b A n c l f p e) (k : w'.heap[b]? = w.heap[b]?) (hb : Below W.heap.size W w') : RdIn W w' b A n c l f p e :=
  ⟨h.rb.eq k, h.di, hb, h.box, h.hn, h.hp⟩
def q0 (l : List UInt8) : Nat × Int := if 4 ≤ l.length then (4, 0) else (0, 5)
def q1 (l : List UInt8) : Int × Nat × Int := Proofs.rnum l (q0 l).1 (q0 l).2
def q2 (l : List UInt8) : Int × Nat × Int := Proofs.rnum l (q1 l).2.1 (q1 l).2.2
def q3 (l : List UInt8) : Int × Nat × Int := Proofs.rnum l (q2 l).2.1 (q2 l).2.2
open Classical in
noncomputable def supG (l : List UInt8) : Option (Nat × Nat × Nat) :=
  if (q3 l).2.2 = 0 ∧ okS (q1 l).1.toNat (q2 l).1 (q3 l).1 ∧ supB (q1 l).1.toNat (q2 l).1.toNat (q3 l).1.toNat = l then some ((q1 l).1.toNat, (q2 l).1.toNat, (q3 l).1.toNat) else none
def GetP (w : World) (l : List UInt8) (x : Ending) (w' : World) : Prop :=
  Below w.heap.size w w' ∧ ((∃ e a n : Nat, supG l = some (e, a, n) ∧ e < 18446744073709551616 ∧ x = .returned (.tuple #[.agg #[.int .u64 e, .int .i64 a, .int .i64 n], .int .i64 0])) ∨
    (supG l = none ∧ x = .returned (.tuple #[.agg #[.int .u64 0, .int .i64 0, .int .i64 0], .int .i64 12])))
theorem supG_no {l : List UInt8} (h : ¬ ((q3 l).2.2 = 0 ∧ okS (q1 l).1.toNat (q2 l).1 (q3 l).1 ∧ supB (q1 l).1.toNat (q2 l).1.toNat (q3 l).1.toNat = l)) : supG l = none := by
  unfold supG; rw [if_neg h]
theorem supG_ok {l : List UInt8} (h : (q3 l).2.2 = 0 ∧ okS (q1 l).1.toNat (q2 l).1 (q3 l).1 ∧ supB (q1 l).1.toNat (q2 l).1.toNat (q3 l).1.toNat = l) : supG l = some ((q1 l).1.toNat, (q2 l).1.toNat, (q3 l).1.toNat) := by
  unfold supG; rw [if_pos h]
def zero3 : Array Value := #[.int .u64 0, .int .i64 0, .int .i64 0]
theorem wpList_store_at {P : Program} (w : World) {ops : Array Oper} {rest : List Oper} {o : Oper} {a : Act} {Q : Exit → Act → World → Prop} (hg : o.guard = none) (t : TypeId) (p v : Operand)
    (hop : o.op = Op.store t p v) (b e off : Nat) (cs cur new : Array Value) (hp : a.eval p = .pointer (some ⟨b, off, none⟩)) (hv : a.eval v = .agg cs) (hh : w.heap[b]? = some (.cells cur e (0, 0))) (hsz : off + cs.size ≤ cur.size)
    (hnew : (cur.toList.take off ++ cs.toList ++ cur.toList.drop (off + cs.size)).toArray = new)
    (hq : (P.info? t).map (·.size) = some cs.size) (h1 : ∀ u ∈ cs.toList, u.oneCell' = true) (K : wpList P ops Q rest (a.put o.dst undef) (w.setRow b new)) : wpList P ops Q (o :: rest) a w := by
  refine wpList_plain hg fun K' hK' => ?_
  have hs := run_storeCells_at P b off e cs.toList 0 cur w hh (by simp; omega) h1
  have hc : (cur.toList.take (off + 0) ++ cs.toList ++ cur.toList.drop (off + 0 + cs.toList.length)).toArray = new := by simpa using hnew
  rw [hc] at hs
  have hz := sizeOf_run w hq
  unfold Oper.wp
  have hr : (Instr.storeAt t (Value.pointer (some ⟨b, off, none⟩)) (Value.agg cs)).run P w = .ok () (w.setRow b new) := by
    simp only [Instr.storeAt, storeVar, Sem.run_bind, sure_run, Result.andThen_ok, hz, Value.cells, ne_eq, not_true_eq_false, if_false, hs]
  simp [execOp, hop, hp, hv, hr, Oper.upon]
  exact hK' _ _ K
theorem wpList_load_row {P : Program} (w : World) {ops : Array Oper} {rest : List Oper} {o : Oper} {a : Act} {Q : Exit → Act → World → Prop} (hg : o.guard = none) (t : TypeId) (p : Operand)
    (hop : o.op = Op.load t p) (b e : Nat) (cs : Array Value) (fs : Array Field) (hp : a.eval p = .pointer (some ⟨b, 0, none⟩)) (hh : w.heap[b]? = some (.cells cs e (0, 0)))
    (hq : (P.info? t).map (·.size) = some cs.size) (hu : P.underlying t = some (.struct fs)) (K : wpList P ops Q rest (a.put o.dst (.agg cs)) w) : wpList P ops Q (o :: rest) a w := by
  refine wpList_plain hg fun K' hK' => ?_
  have hl : (loadCells ⟨b, 0, none⟩ cs.size).run P w = .ok cs w := by
    have := run_loadCells_list (P := P) w ⟨b, 0, none⟩ cs.toList (fun j v hj => by
      have e : (⟨b, 0, none⟩ : Addr).add j = ⟨b, j, none⟩ := by unfold Addr.add; split <;> simp_all
      rw [e, cell_of_row w b j _ _ _ hh, ← hj]
      simp)
    simpa using this
  have hr : (Instr.loadAt t (Value.pointer (some ⟨b, 0, none⟩))).run P w = .ok (.agg cs) w := by
    simp only [Instr.loadAt, loadVar, Sem.run_bind, sure_run, Result.andThen_ok, isAgg_run w hu, if_true, sizeOf_run w hq, hl, Sem.run_pure]
  unfold Oper.wp
  simp [execOp, hop, hp, hr, Oper.upon]
  exact hK' _ _ K
theorem one3 (e a n : Int) : ∀ u ∈ (#[Value.int .u64 e, .int .i64 a, .int .i64 n] : Array Value).toList, u.oneCell' = true := by
  intro u hu
  simp at hu
  rcases hu with rfl | rfl | rfl <;> rfl
set_option maxHeartbeats 8000000 in
theorem Tryz.sget (w : World) {A : Option Addr} {n c : Nat} {l : List UInt8} (hD : DI w A n c l) (hn : n ≤ 400) : Calls Tryz.prog 10 #[.slice A n c] w (GetP w l) := by
  have hln := hD.len
  have HD := Lib.hid (hD.below ((Below.refl _ w).alloc (Nat.le_refl _) (.cells #[.int .u64 0, .int .i64 0, .int .i64 0] 26)))
  have VZ := Lib.hid (heap_alloc_new w (.cells #[.int .u64 0, .int .i64 0, .int .i64 0] 26))
  have BZ := Lib.hid ((Below.refl _ w).alloc (Nat.le_refl _) (.cells #[.int .u64 0, .int .i64 0, .int .i64 0] 26))
  have hi1 : (q0 l).1 ≤ l.length := by unfold q0; split <;> simp <;> omega
  have h1 := rnum_in l (q0 l).1 (q0 l).2 hi1
  have h2 := rnum_in l (q1 l).2.1 (q1 l).2.2 h1.2.2
  have h3 := rnum_in l (q2 l).2.1 (q2 l).2.2 h2.2.2
  obtain ⟨⟨p0, e0⟩, hq0⟩ : ∃ q, q0 l = q := ⟨_, rfl⟩
  obtain ⟨⟨u1, p1, e1⟩, hq1⟩ : ∃ q, q1 l = q := ⟨_, rfl⟩
  obtain ⟨⟨u2, p2, e2⟩, hq2⟩ : ∃ q, q2 l = q := ⟨_, rfl⟩
  obtain ⟨⟨u3, p3, e3⟩, hq3⟩ : ∃ q, q3 l = q := ⟨_, rfl⟩
  have R1 : Hid (Proofs.rnum l p0 e0 = (u1, p1, e1)) := Lib.hid (by have := hq1; unfold q1 at this; rwa [hq0] at this)
  have R2 : Hid (Proofs.rnum l p1 e1 = (u2, p2, e2)) := Lib.hid (by have := hq2; unfold q2 at this; rwa [hq1] at this)
  have R3 : Hid (Proofs.rnum l p2 e2 = (u3, p3, e3)) := Lib.hid (by have := hq3; unfold q3 at this; rwa [hq2] at this)
  rw [show Proofs.rnum l (q0 l).1 (q0 l).2 = (u1, p1, e1) from hq1] at h1
  rw [show Proofs.rnum l (q1 l).2.1 (q1 l).2.2 = (u2, p2, e2) from hq2] at h2
  rw [show Proofs.rnum l (q2 l).2.1 (q2 l).2.2 = (u3, p3, e3) from hq3] at h3
  dsimp only at h1 h2 h3
  rw [hq0] at hi1
  dsimp only at hi1
  have HQ0 : Hid ((if 4 ≤ n then ((4 : Nat), (0 : Int)) else (0, 5)) = (p0, e0)) := Lib.hid (by rw [← hq0]; unfold q0; rw [hln])
  have HQ1 := Lib.hid hq1
  have HQ2 := Lib.hid hq2
  have HQ3 := Lib.hid hq3
  obtain ⟨u1, rfl⟩ : ∃ k : Nat, u1 = (k : Int) := ⟨u1.toNat, by omega⟩
  obtain ⟨u2, rfl⟩ : ∃ k : Nat, u2 = (k : Int) := ⟨u2.toNat, by omega⟩
  obtain ⟨u3, rfl⟩ : ∃ k : Nat, u3 = (k : Int) := ⟨u3.toNat, by omega⟩
  have hp0 : p0 ≤ n := by omega
  have hp1 : p1 ≤ n := by omega
  have hp2 : p2 ≤ n := by omega
  have hp3 : p3 ≤ n := by omega
  have hu1 : u1 < 18446744073709551616 := by omega
  have hu2 : u2 < 18446744073709551616 := by omega
  have hu3 : u3 < 18446744073709551616 := by omega
  obtain ⟨wz, hwz⟩ : ∃ wz, w.alloc (.cells #[.int .u64 0, .int .i64 0, .int .i64 0] 26) = wz := ⟨_, rfl⟩
  obtain ⟨bz, hbz⟩ : ∃ bz, w.heap.size = bz := ⟨_, rfl⟩
  rw [hwz] at HD VZ BZ
  rw [hbz] at VZ
  have HBZ := Lib.hid hbz
  have hzl : bz < wz.heap.size := (Array.getElem?_eq_some_iff.1 VZ.out).1
  have HZL := Lib.hid hzl
  clear hq0 hq1 hq2 hq3 h1 h2 h3 hi1 hD hln hzl
  go_enter Tryz.func10, Tryz.ntmps10
  go_upto_region 1 with fail
  clear hwz hbz
  go_wp2_with fail
  refine (Tryz.rnew wz A n c 0 0 hn (by rw [if_pos]; omega)).mono ?_
  rintro x w1 ⟨rb, rfl, hrb, hR1, hb1⟩
  have I1 : Hid (RdIn wz w1 rb A n c l 0 0 0) := Lib.hid ⟨hR1, HD.out, hb1, hrb, hn, Nat.zero_le _⟩
  have HNE : Hid (bz ≠ rb) := Lib.hid (by have := HZL.out; omega)
  have Z1 := Lib.hid ((hb1.block bz HZL.out).trans VZ.out)
  clear hrb hR1 hb1
  go_wp2_with fail
  refine (Tryz.rof32 I1.out p0 e0 HQ0.out).mono ?_
  rintro x w2 ⟨⟨v32, rfl⟩, hR2⟩
  have I2 := Lib.hid ((I1.out).next hR2 hp0)
  have Z2 := Lib.hid ((hR2.2.block bz (by have := (I1.out).bel.size; have := HZL.out; omega) (by intro h; cases h; exact HNE.out rfl)).trans Z1.out)
  clear hR2 Z1 I1
  go_wp2_with fail
  refine (Tryz.rnum I2.out).mono ?_
  rintro x w3 ⟨rfl, hR3⟩
  rw [R1.out] at hR3 ⊢
  dsimp only at hR3 ⊢
  have I3 := Lib.hid ((I2.out).next hR3 hp1)
  have Z3 := Lib.hid ((hR3.2.block bz (by have := (I2.out).bel.size; have := HZL.out; omega) (by intro h; cases h; exact HNE.out rfl)).trans Z2.out)
  clear hR3 Z2 I2
  go_upto_region 4 with fail
  obtain ⟨w4, hw4⟩ : ∃ w4, w3.alloc (.cells #[.int .u64 u1, .int .i64 0, .int .i64 0] 26) = w4 := ⟨_, rfl⟩
  obtain ⟨b5, hb5⟩ : ∃ b5, w3.heap.size = b5 := ⟨_, rfl⟩
  have hrl := (I3.out).rb.lt
  have hbel := (I3.out).bel.size
  have V4 : Hid (w4.heap[b5]? = some (.cells #[.int .u64 u1, .int .i64 0, .int .i64 0] 26 (0, 0))) := Lib.hid (by rw [← hw4, ← hb5]; exact heap_alloc_new w3 _)
  have I4 : Hid (RdIn wz w4 rb A n c l 0 p1 e1) := Lib.hid ((I3.out).other (by rw [← hw4]; exact Below.heap_alloc w3 _ rb hrl) (by rw [← hw4]; exact (I3.out).bel.alloc hbel _))
  have Z4 : Hid (w4.heap[bz]? = some (.cells #[.int .u64 0, .int .i64 0, .int .i64 0] 26 (0, 0))) := Lib.hid ((show w4.heap[bz]? = w3.heap[bz]? by rw [← hw4]; exact Below.heap_alloc w3 _ bz (by have := HZL.out; omega)).trans Z3.out)
  have HN5 : Hid (b5 ≠ rb) := Lib.hid (by omega)
  have HN6 : Hid (b5 ≠ bz) := Lib.hid (by have := HZL.out; omega)
  have HW5 : Hid (wz.heap.size ≤ b5) := Lib.hid (by omega)
  have HL5 : Hid (b5 < w4.heap.size) := Lib.hid (Array.getElem?_eq_some_iff.1 V4.out).1
  have HL6 : Hid (bz < w4.heap.size) := Lib.hid (Array.getElem?_eq_some_iff.1 Z4.out).1
  rw [hw4, hb5]
  clear hw4 hb5 hrl hbel I3 Z3
  obtain ⟨x2, hx2⟩ : ∃ x, IntKind.i64.wrap (u2 : Int) = x := ⟨_, rfl⟩
  obtain ⟨x3, hx3⟩ : ∃ x, IntKind.i64.wrap (u3 : Int) = x := ⟨_, rfl⟩
  have hxi2 : -9223372036854775808 ≤ x2 ∧ x2 ≤ 9223372036854775807 := by rw [← hx2, IntKind.wrap_i64]; omega
  have hxi3 : -9223372036854775808 ≤ x3 ∧ x3 ≤ 9223372036854775807 := by rw [← hx3, IntKind.wrap_i64]; omega
  have HX2 := Lib.hid hx2
  have HX3 := Lib.hid hx3
  go_wp2_with fail
  refine (Tryz.rnum I4.out).mono ?_
  rintro x w5 ⟨rfl, hR5⟩
  rw [R2.out] at hR5 ⊢
  dsimp only at hR5 ⊢
  have I5 := Lib.hid ((I4.out).next hR5 hp2)
  have Z5 := Lib.hid ((hR5.2.block bz HL6.out (by intro h; cases h; exact HNE.out rfl)).trans Z4.out)
  have V5 := Lib.hid ((hR5.2.block b5 HL5.out (by intro h; cases h; exact HN5.out rfl)).trans V4.out)
  have hsz5 := hR5.2.size
  have HL5b : Hid (b5 < w5.heap.size) := Lib.hid (by have := HL5.out; omega)
  have HL6b : Hid (bz < w5.heap.size) := Lib.hid (by have := HL6.out; omega)
  clear hR5 Z4 V4 I4 hsz5 HL5 HL6
  go_wp2_with fail
  refine (Tryz.rnum I5.out).mono ?_
  rintro x w6 ⟨rfl, hR6⟩
  rw [R3.out] at hR6 ⊢
  dsimp only at hR6 ⊢
  have I6 := Lib.hid ((I5.out).next hR6 hp3)
  have Z6 := Lib.hid ((hR6.2.block bz HL6b.out (by intro h; cases h; exact HNE.out rfl)).trans Z5.out)
  have V6 := Lib.hid ((hR6.2.block b5 HL5b.out (by intro h; cases h; exact HN5.out rfl)).trans V5.out)
  clear hR6 Z5 V5 I5 HL5b HL6b
  have cV1 : w6.cell? ⟨b5, 1, none⟩ = some (.int .i64 0) := cell_of_row w6 b5 1 _ 26 _ V6.out
  have cV2 : w6.cell? ⟨b5, 2, none⟩ = some (.int .i64 0) := cell_of_row w6 b5 2 _ 26 _ V6.out
  have fV1 := frozen_of_row w6 b5 1 _ 26 V6.out
  have fV2 := frozen_of_row w6 b5 2 _ 26 V6.out
  go_upto_region 5 with fail
  obtain ⟨w7, hw7⟩ : ∃ w7, (w6.setCell ⟨b5, 1, none⟩ (.int .i64 x2)).setCell ⟨b5, 2, none⟩ (.int .i64 x3) = w7 := ⟨_, rfl⟩
  have V7 : Hid (w7.heap[b5]? = some (.cells #[.int .u64 u1, .int .i64 x2, .int .i64 x3] 26 (0, 0))) := Lib.hid (by
    rw [← hw7]
    exact heap_setCell_same _ b5 2 _ 26 _ (heap_setCell_same w6 b5 1 _ 26 _ V6.out))
  have hbl : ∀ k, k ≠ b5 → w7.heap[k]? = w6.heap[k]? := fun k hk => by
    rw [← hw7, Below.heap_setCell _ _ _ k hk, Below.heap_setCell _ _ _ k hk]
  have hB7 : Below wz.heap.size wz w7 := by
    rw [← hw7]
    exact ((I6.out).bel.setCell (p := ⟨b5, 1, none⟩) HW5.out _).setCell (p := ⟨b5, 2, none⟩) HW5.out _
  have I7 := Lib.hid ((I6.out).other (hbl rb (Ne.symm HN5.out)) hB7)
  have Z7 := Lib.hid ((hbl bz (Ne.symm HN6.out)).trans Z6.out)
  have B7 := Lib.hid hB7
  rw [hw7]
  clear hw7 hbl hB7 cV1 cV2 fV1 fV2 I6 Z6 V6 hx2 hx3
  go_wp2_with fail
  refine (Tryz.rerr (I7.out).rb).mono ?_
  rintro x w8 ⟨rfl, hw8⟩
  rw [hw8]
  clear hw8 w8
  by_cases he : e3 = 0
  · subst he
    go_wp2_with (refine wpList_load_row _ rfl 26 (.tmp 5) rfl b5 26 #[.int .u64 u1, .int .i64 x2, .int .i64 x3] _ rfl (V7.out) size26 st26 ?_)
    refine (Tryz.sput w7 u1 x2 x3 hu1 hxi2 hxi3).mono ?_
    rintro x w8 hS
    rcases hS with ⟨hok, ⟨v8, rfl, ho8⟩, hb8⟩ | ⟨hno, rfl, hb8⟩
    · obtain ⟨A8, c8, hv8, hd8⟩ := ho8.di
      rw [supB_len] at hv8 hd8
      subst hv8
      have hw2 : x2 = (u2 : Int) := by have := HX2.out; unfold okS at hok; rw [IntKind.wrap_i64] at this; omega
      have hw3 : x3 = (u3 : Int) := by have := HX3.out; unfold okS at hok; rw [IntKind.wrap_i64] at this; omega
      have HOK := Lib.hid hok
      have HW2 := Lib.hid hw2
      have HW3 := Lib.hid hw3
      have D8 := Lib.hid hd8
      have Z8 := Lib.hid ((hb8.block bz (Array.getElem?_eq_some_iff.1 Z7.out).1).trans Z7.out)
      have V8 := Lib.hid ((hb8.block b5 (Array.getElem?_eq_some_iff.1 V7.out).1).trans V7.out)
      have B8 := Lib.hid ((B7.out).trans (hb8.mono (B7.out).size))
      have DB := Lib.hid ((HD.out).below B8.out)
      clear hok hw2 hw3 hd8 ho8 hb8
      go_wp2_with fail
      refine (Tryz.equal w8 D8.out DB.out).mono ?_
      rintro x w9 ⟨rfl, hw9⟩
      rw [hw9]
      clear hw9 w9
      obtain ⟨T, hT⟩ : ∃ T, decide (supB u1 x2.toNat x3.toNat = l) = T := ⟨_, rfl⟩
      have HT := Lib.hid hT
      rw [hT]
      clear hT
      cases T
      · have HNG : Hid (¬ ((q3 l).2.2 = 0 ∧ okS (q1 l).1.toNat (q2 l).1 (q3 l).1 ∧ supB (q1 l).1.toNat (q2 l).1.toNat (q3 l).1.toNat = l)) := Lib.hid (fun h => by
          rw [HQ1.out, HQ2.out, HQ3.out] at h
          dsimp only at h
          rw [Int.toNat_natCast] at h
          have h2 := of_decide_eq_false HT.out
          rw [HW2.out, HW3.out] at h2
          exact h2 h.2.2)
        go_wp2_with (refine wpList_store_at _ rfl 26 (.tmp 2) (.tmp 42) rfl bz 26 0 #[.int .u64 0, .int .i64 0, .int .i64 0] #[.int .u64 0, .int .i64 0, .int .i64 0] #[.int .u64 0, .int .i64 0, .int .i64 0] rfl rfl (Z8.out) (show 0 + 3 ≤ 3 by omega) rfl size26 (one3 0 0 0) ?_)
        refine bodyPost_ret (results_cell_tmp rfl _ _ bz 26 #[.int .u64 0, .int .i64 0, .int .i64 0] _ rfl (setRow_heap' _ bz _ _ 26 Z8.out) size26 st26) rfl ?_
        exact ⟨(BZ.out).trans (Below.setRow ((B8.out).mono (BZ.out).size) (Nat.le_of_eq HBZ.out) _), .inr ⟨supG_no HNG.out, rfl⟩⟩
      · have HG : Hid (supG l = some (u1, u2, u3)) := Lib.hid (by
          have := supG_ok (l := l) (by
            rw [HQ1.out, HQ2.out, HQ3.out]
            dsimp only
            rw [Int.toNat_natCast]
            have h2 := of_decide_eq_true HT.out
            have h3 := HOK.out
            rw [HW2.out, HW3.out] at h2 h3
            exact ⟨rfl, h3, h2⟩)
          rw [HQ1.out, HQ2.out, HQ3.out] at this
          dsimp only at this
          rw [Int.toNat_natCast, Int.toNat_natCast, Int.toNat_natCast] at this
          exact this)
        go_wp2_with (first | (refine wpList_load_row _ rfl 26 (.tmp 5) rfl b5 26 #[.int .u64 u1, .int .i64 x2, .int .i64 x3] _ rfl (V8.out) size26 st26 ?_) | (refine wpList_store_at _ rfl 26 (.tmp 2) (.tmp 43) rfl bz 26 0 #[.int .u64 u1, .int .i64 x2, .int .i64 x3] #[.int .u64 0, .int .i64 0, .int .i64 0] #[.int .u64 u1, .int .i64 x2, .int .i64 x3] rfl rfl (Z8.out) (show 0 + 3 ≤ 3 by omega) rfl size26 (one3 u1 x2 x3) ?_))
        refine bodyPost_ret (results_cell_tmp rfl _ _ bz 26 #[.int .u64 u1, .int .i64 x2, .int .i64 x3] _ rfl (setRow_heap' _ bz _ _ 26 Z8.out) size26 st26) rfl ?_
        refine ⟨(BZ.out).trans (Below.setRow ((B8.out).mono (BZ.out).size) (Nat.le_of_eq HBZ.out) _), .inl ⟨u1, u2, u3, HG.out, hu1, ?_⟩⟩
        rw [HW2.out, HW3.out]
        rfl
    · have HNG : Hid (¬ ((q3 l).2.2 = 0 ∧ okS (q1 l).1.toNat (q2 l).1 (q3 l).1 ∧ supB (q1 l).1.toNat (q2 l).1.toNat (q3 l).1.toNat = l)) := Lib.hid (fun h => by
        rw [HQ1.out, HQ2.out, HQ3.out] at h
        dsimp only at h
        rw [Int.toNat_natCast] at h
        have h2 := h.2.1
        have e2 := HX2.out
        have e3 := HX3.out
        rw [IntKind.wrap_i64] at e2 e3
        apply hno
        unfold okS at h2 ⊢
        omega)
      have Z8 := Lib.hid ((hb8.block bz (Array.getElem?_eq_some_iff.1 Z7.out).1).trans Z7.out)
      have B8 := Lib.hid ((B7.out).trans (hb8.mono (B7.out).size))
      clear hno hb8
      go_wp2_with (refine wpList_store_at _ rfl 26 (.tmp 2) (.tmp 42) rfl bz 26 0 #[.int .u64 0, .int .i64 0, .int .i64 0] #[.int .u64 0, .int .i64 0, .int .i64 0] #[.int .u64 0, .int .i64 0, .int .i64 0] rfl rfl (Z8.out) (show 0 + 3 ≤ 3 by omega) rfl size26 (one3 0 0 0) ?_)
      refine bodyPost_ret (results_cell_tmp rfl _ _ bz 26 #[.int .u64 0, .int .i64 0, .int .i64 0] _ rfl (setRow_heap' _ bz _ _ 26 Z8.out) size26 st26) rfl ?_
      exact ⟨(BZ.out).trans (Below.setRow ((B8.out).mono (BZ.out).size) (Nat.le_of_eq HBZ.out) _), .inr ⟨supG_no HNG.out, rfl⟩⟩
  · have HNG : Hid (¬ ((q3 l).2.2 = 0 ∧ okS (q1 l).1.toNat (q2 l).1 (q3 l).1 ∧ supB (q1 l).1.toNat (q2 l).1.toNat (q3 l).1.toNat = l)) := Lib.hid (fun h => by
      rw [HQ3.out] at h
      exact he h.1)
    have k1 : (e3 == 0) = false := by simpa using he
    have k2 : decide (e3 = 0) = false := by simpa using he
    clear he
    go_wp2_with (refine wpList_store_at _ rfl 26 (.tmp 2) (.tmp 28) rfl bz 26 0 #[.int .u64 0, .int .i64 0, .int .i64 0] #[.int .u64 0, .int .i64 0, .int .i64 0] #[.int .u64 0, .int .i64 0, .int .i64 0] rfl rfl (Z7.out) (show 0 + 3 ≤ 3 by omega) rfl size26 (one3 0 0 0) ?_)
    refine bodyPost_ret (results_cell_tmp rfl _ _ bz 26 #[.int .u64 0, .int .i64 0, .int .i64 0] _ rfl (setRow_heap' _ bz _ _ 26 Z7.out) size26 st26) rfl ?_
    exact ⟨(BZ.out).trans (Below.setRow ((B7.out).mono (BZ.out).size) (Nat.le_of_eq HBZ.out) _), .inr ⟨supG_no HNG.out, rfl⟩⟩
end Go.Proofs
end

section
namespace Go.Proofs
open Go.RowKit Go.FM
set_option maxRecDepth 100000
theorem rnum_ok {l : List UInt8} {a k : Nat} {u : Int} (h : getN l a = (u, k, 0)) : Proofs.rnum l a 0 = (u, a + k, 0) := by
  unfold Proofs.rnum; rw [h]; simp
theorem rnum_er {l : List UInt8} {a k : Nat} {u e : Int} (h : getN l a = (u, k, e)) (he : e ≠ 0) : Proofs.rnum l a 0 = (0, a, e) := by
  unfold Proofs.rnum; rw [h]; simp [he]
theorem rnum_st {l : List UInt8} {p : Nat} {e : Int} (he : e ≠ 0) : Proofs.rnum l p e = (0, p, e) := by
  unfold Proofs.rnum; rw [if_neg he]
theorem q3_e1 {l : List UInt8} (h : (q1 l).2.2 ≠ 0) : (q3 l).2.2 ≠ 0 := by
  have h2 : q2 l = (0, (q1 l).2.1, (q1 l).2.2) := rnum_st h
  have h3 : q3 l = (0, (q2 l).2.1, (q2 l).2.2) := rnum_st (by rw [h2]; exact h)
  rw [h3, h2]; exact h
theorem q3_e2 {l : List UInt8} (h : (q2 l).2.2 ≠ 0) : (q3 l).2.2 ≠ 0 := by
  have h3 : q3 l = (0, (q2 l).2.1, (q2 l).2.2) := rnum_st h
  rw [h3]; exact h
theorem supG_len {l : List UInt8} (h : l.length ≠ 64) : supG l = none := supG_no (fun k => h (by rw [← k.2.2, supB_len]))
set_option maxHeartbeats 8000000 in
theorem Tryz.rsget (w : World) {A : Option Addr} {n c : Nat} {l : List UInt8} (hD : DI w A n c l) (hn : n ≤ 400) : Calls Tryz.prog 11 #[.slice A n c] w (GetP w l) := by
  have hln := hD.len
  have HD := Lib.hid (hD.below ((Below.refl _ w).alloc (Nat.le_refl _) (.cells #[.int .u64 0, .int .i64 0, .int .i64 0] 36)))
  have VZ := Lib.hid (heap_alloc_new w (.cells #[.int .u64 0, .int .i64 0, .int .i64 0] 36))
  have BZ := Lib.hid ((Below.refl _ w).alloc (Nat.le_refl _) (.cells #[.int .u64 0, .int .i64 0, .int .i64 0] 36))
  obtain ⟨wz, hwz⟩ : ∃ wz, w.alloc (.cells #[.int .u64 0, .int .i64 0, .int .i64 0] 36) = wz := ⟨_, rfl⟩
  obtain ⟨bz, hbz⟩ : ∃ bz, w.heap.size = bz := ⟨_, rfl⟩
  rw [hwz] at HD VZ BZ
  rw [hbz] at VZ
  have HBZ := Lib.hid hbz
  have hzl : bz < wz.heap.size := (Array.getElem?_eq_some_iff.1 VZ.out).1
  have HZL := Lib.hid hzl
  have HLN := Lib.hid hln
  clear hD hzl
  by_cases h64 : n = 64
  · have d1 : ((n : Int) == 64) = true := by simp [h64]
    have d1' : decide ((n : Int) = 64) = true := decide_eq_true (by omega)
    have d1'' : ((n : Int) != 64) = false := by simp [h64]
    have hn1 : 64 ≤ n := by omega
    have hn2 : n ≤ 64 := by omega
    have HQ0 : Hid (q0 l = (4, 0)) := Lib.hid (by unfold q0; rw [if_pos (by omega)])
    have hok1 := getN_ok l 4
    obtain ⟨⟨u1, n1, e1⟩, hg1⟩ : ∃ g, getN l 4 = g := ⟨_, rfl⟩
    rw [hg1] at hok1
    have HG1 := Lib.hid hg1
    clear h64 hg1 hln
    go_enter Tryz.func11, Tryz.ntmps11
    go_upto_region 1 with fail
    clear hwz hbz
    go_wp2_with fail
    refine (Tryz.rget wz HD.out hn 4 (by omega)).mono ?_
    rintro x w1 ⟨rfl, hw1⟩
    rw [hw1, HG1.out]
    clear hw1 w1
    dsimp only
    by_cases he1 : e1 = 0
    · subst he1
      have hin1 := hok1.ok rfl
      dsimp only at hin1
      obtain ⟨u1, rfl⟩ : ∃ k : Nat, u1 = (k : Int) := ⟨u1.toNat, by omega⟩
      have hu1 : u1 < 18446744073709551616 := by omega
      obtain ⟨P1, hP1⟩ : ∃ P, 4 + n1 = P := ⟨_, rfl⟩
      have hs1 : (4 : Int) + n1 = (P1 : Int) := by omega
      have hP1n : P1 ≤ n := by have := HLN.out; omega
      have HQ1 : Hid (q1 l = ((u1 : Int), P1, 0)) := Lib.hid (by unfold q1; rw [HQ0.out]; dsimp only; rw [rnum_ok HG1.out, hP1])
      have hok2 := getN_ok l P1
      obtain ⟨⟨u2, n2, e2⟩, hg2⟩ : ∃ g, getN l P1 = g := ⟨_, rfl⟩
      rw [hg2] at hok2
      have HG2 := Lib.hid hg2
      clear hok1 hg2 hP1 hin1
      go_wp2_with fail
      refine (Tryz.rget wz HD.out hn P1 hP1n).mono ?_
      rintro x w1 ⟨rfl, hw1⟩
      rw [hw1, HG2.out]
      clear hw1 w1
      dsimp only
      by_cases he2 : e2 = 0
      · subst he2
        have hin2 := hok2.ok rfl
        dsimp only at hin2
        obtain ⟨u2, rfl⟩ : ∃ k : Nat, u2 = (k : Int) := ⟨u2.toNat, by omega⟩
        have hu2 : u2 < 18446744073709551616 := by omega
        obtain ⟨P2, hP2⟩ : ∃ P, P1 + n2 = P := ⟨_, rfl⟩
        have hs2 : (P1 : Int) + n2 = (P2 : Int) := by omega
        have hP2n : P2 ≤ n := by have := HLN.out; omega
        have HQ2 : Hid (q2 l = ((u2 : Int), P2, 0)) := Lib.hid (by unfold q2; rw [HQ1.out]; dsimp only; rw [rnum_ok HG2.out, hP2])
        have hok3 := getN_ok l P2
        obtain ⟨⟨u3, n3, e3⟩, hg3⟩ : ∃ g, getN l P2 = g := ⟨_, rfl⟩
        rw [hg3] at hok3
        have HG3 := Lib.hid hg3
        clear hok2 hg3 hP2 hin2
        go_wp2_with fail
        refine (Tryz.rget wz HD.out hn P2 hP2n).mono ?_
        rintro x w1 ⟨rfl, hw1⟩
        rw [hw1, HG3.out]
        clear hw1 w1
        dsimp only
        by_cases he3 : e3 = 0
        · subst he3
          have hin3 := hok3.ok rfl
          dsimp only at hin3
          obtain ⟨u3, rfl⟩ : ∃ k : Nat, u3 = (k : Int) := ⟨u3.toNat, by omega⟩
          have HQ3 : Hid (q3 l = ((u3 : Int), P2 + n3, 0)) := Lib.hid (by unfold q3; rw [HQ2.out]; dsimp only; rw [rnum_ok HG3.out])
          clear hok3 hin3
          by_cases hx : 1024 < u2
          · have c1 : decide ((1024 : Int) < (u2 : Int)) = true := decide_eq_true (by omega)
            have c1' : decide (1024 < u2) = true := decide_eq_true hx
            have HNG : Hid (supG l = none) := Lib.hid (supG_no (fun h => by
              have h2 := h.2.1
              rw [HQ1.out, HQ2.out, HQ3.out] at h2
              unfold okS at h2
              dsimp only at h2
              omega))
            clear hx
            go_wp2_with (refine wpList_store_at _ rfl 36 (.tmp 2) (.tmp 58) rfl bz 36 0 #[.int .u64 0, .int .i64 0, .int .i64 0] #[.int .u64 0, .int .i64 0, .int .i64 0] #[.int .u64 0, .int .i64 0, .int .i64 0] rfl rfl (VZ.out) (show 0 + 3 ≤ 3 by omega) rfl size36 (one3 0 0 0) ?_)
            refine bodyPost_ret (results_cell_tmp rfl _ _ bz 36 #[.int .u64 0, .int .i64 0, .int .i64 0] _ rfl (setRow_heap' _ bz _ _ 36 VZ.out) size36 st36) rfl ?_
            exact ⟨(BZ.out).trans (Below.setRow (Below.refl _ _) (Nat.le_of_eq HBZ.out) _), .inr ⟨HNG.out, rfl⟩⟩
          · have c1 : decide ((1024 : Int) < (u2 : Int)) = false := decide_eq_false (by omega)
            have c1' : decide (1024 < u2) = false := decide_eq_false hx
            by_cases hy : 1024 < u3
            · have c2 : decide ((1024 : Int) < (u3 : Int)) = true := decide_eq_true (by omega)
              have c2' : decide (1024 < u3) = true := decide_eq_true hy
              have HNG : Hid (supG l = none) := Lib.hid (supG_no (fun h => by
                have h2 := h.2.1
                rw [HQ1.out, HQ2.out, HQ3.out] at h2
                unfold okS at h2
                dsimp only at h2
                omega))
              clear hx hy
              go_wp2_with (refine wpList_store_at _ rfl 36 (.tmp 2) (.tmp 58) rfl bz 36 0 #[.int .u64 0, .int .i64 0, .int .i64 0] #[.int .u64 0, .int .i64 0, .int .i64 0] #[.int .u64 0, .int .i64 0, .int .i64 0] rfl rfl (VZ.out) (show 0 + 3 ≤ 3 by omega) rfl size36 (one3 0 0 0) ?_)
              refine bodyPost_ret (results_cell_tmp rfl _ _ bz 36 #[.int .u64 0, .int .i64 0, .int .i64 0] _ rfl (setRow_heap' _ bz _ _ 36 VZ.out) size36 st36) rfl ?_
              exact ⟨(BZ.out).trans (Below.setRow (Below.refl _ _) (Nat.le_of_eq HBZ.out) _), .inr ⟨HNG.out, rfl⟩⟩
            · have c2 : decide ((1024 : Int) < (u3 : Int)) = false := decide_eq_false (by omega)
              have c2' : decide (1024 < u3) = false := decide_eq_false hy
              have hu2' : u2 ≤ 1024 := by omega
              have hu3' : u3 ≤ 1024 := by omega
              have v2 : IntKind.i64.wrap (u2 : Int) = (u2 : Int) := wrapi (by omega) (by omega)
              have v3 : IntKind.i64.wrap (u3 : Int) = (u3 : Int) := wrapi (by omega) (by omega)
              clear hx hy
              have V4 := Lib.hid (heap_alloc_new wz (.cells #[.int .u64 u1, .int .i64 u2, .int .i64 u3] 36))
              have Z4 : Hid ((wz.alloc (.cells #[.int .u64 u1, .int .i64 u2, .int .i64 u3] 36)).heap[bz]? = some (.cells #[.int .u64 0, .int .i64 0, .int .i64 0] 36 (0, 0))) := Lib.hid ((Below.heap_alloc wz _ bz HZL.out).trans VZ.out)
              have B4 := Lib.hid ((Below.refl wz.heap.size wz).alloc (Nat.le_refl _) (.cells #[.int .u64 u1, .int .i64 u2, .int .i64 u3] 36))
              obtain ⟨w4, hw4⟩ : ∃ w4, wz.alloc (.cells #[.int .u64 u1, .int .i64 u2, .int .i64 u3] 36) = w4 := ⟨_, rfl⟩
              obtain ⟨b4, hb4⟩ : ∃ b4, wz.heap.size = b4 := ⟨_, rfl⟩
              rw [hw4] at V4 Z4 B4
              rw [hb4] at V4
              go_upto_region 13 with fail
              clear hw4 hb4
              go_wp2_with (refine wpList_load_row _ rfl 36 (.tmp 11) rfl b4 36 #[.int .u64 u1, .int .i64 u2, .int .i64 u3] _ rfl (V4.out) size36 st36 ?_)
              refine (Tryz.rsput w4 u1 u2 u3 hu1 (by omega) (by omega)).mono ?_
              rintro x w8 hS
              rcases hS with ⟨hok, ⟨v8, rfl, ho8⟩, hb8⟩ | ⟨hno, rfl, hb8⟩
              · obtain ⟨A8, c8, hv8, hd8⟩ := ho8.di
                rw [supB_len] at hv8 hd8
                subst hv8
                have HOK := Lib.hid hok
                have Z8 := Lib.hid ((hb8.block bz (Array.getElem?_eq_some_iff.1 Z4.out).1).trans Z4.out)
                have V8 := Lib.hid ((hb8.block b4 (Array.getElem?_eq_some_iff.1 V4.out).1).trans V4.out)
                have B8 := Lib.hid ((B4.out).trans (hb8.mono (B4.out).size))
                have e1 := hd8.conv
                have e2 := ((HD.out).below B8.out).conv
                have e3 := str_eq (supB u1 u2 u3) l
                rw [Int.toNat_natCast, Int.toNat_natCast] at e1
                obtain ⟨T, hT⟩ : ∃ T, decide (supB u1 u2 u3 = l) = T := ⟨_, rfl⟩
                have HT := Lib.hid hT
                rw [hT] at e3
                clear hok hd8 ho8 hb8 hT
                cases T
                · have HNG : Hid (supG l = none) := Lib.hid (supG_no (fun h => by
                    rw [HQ1.out, HQ2.out, HQ3.out] at h
                    dsimp only at h
                    rw [Int.toNat_natCast, Int.toNat_natCast, Int.toNat_natCast] at h
                    exact of_decide_eq_false HT.out h.2.2))
                  go_wp2_with (refine wpList_store_at _ rfl 36 (.tmp 2) (.tmp 80) rfl bz 36 0 #[.int .u64 0, .int .i64 0, .int .i64 0] #[.int .u64 0, .int .i64 0, .int .i64 0] #[.int .u64 0, .int .i64 0, .int .i64 0] rfl rfl (Z8.out) (show 0 + 3 ≤ 3 by omega) rfl size36 (one3 0 0 0) ?_)
                  refine bodyPost_ret (results_cell_tmp rfl _ _ bz 36 #[.int .u64 0, .int .i64 0, .int .i64 0] _ rfl (setRow_heap' _ bz _ _ 36 Z8.out) size36 st36) rfl ?_
                  exact ⟨(BZ.out).trans (Below.setRow ((B8.out).mono (BZ.out).size) (Nat.le_of_eq HBZ.out) _), .inr ⟨HNG.out, rfl⟩⟩
                · have HG : Hid (supG l = some (u1, u2, u3)) := Lib.hid (by
                    have := supG_ok (l := l) (by
                      rw [HQ1.out, HQ2.out, HQ3.out]
                      dsimp only
                      rw [Int.toNat_natCast, Int.toNat_natCast, Int.toNat_natCast]
                      exact ⟨rfl, HOK.out, of_decide_eq_true HT.out⟩)
                    rw [HQ1.out, HQ2.out, HQ3.out] at this
                    dsimp only at this
                    rw [Int.toNat_natCast, Int.toNat_natCast, Int.toNat_natCast] at this
                    exact this)
                  go_wp2_with (first | (refine wpList_load_row _ rfl 36 (.tmp 11) rfl b4 36 #[.int .u64 u1, .int .i64 u2, .int .i64 u3] _ rfl (V8.out) size36 st36 ?_) | (refine wpList_store_at _ rfl 36 (.tmp 2) (.tmp 81) rfl bz 36 0 #[.int .u64 u1, .int .i64 u2, .int .i64 u3] #[.int .u64 0, .int .i64 0, .int .i64 0] #[.int .u64 u1, .int .i64 u2, .int .i64 u3] rfl rfl (Z8.out) (show 0 + 3 ≤ 3 by omega) rfl size36 (one3 u1 u2 u3) ?_))
                  refine bodyPost_ret (results_cell_tmp rfl _ _ bz 36 #[.int .u64 u1, .int .i64 u2, .int .i64 u3] _ rfl (setRow_heap' _ bz _ _ 36 Z8.out) size36 st36) rfl ?_
                  exact ⟨(BZ.out).trans (Below.setRow ((B8.out).mono (BZ.out).size) (Nat.le_of_eq HBZ.out) _), .inl ⟨u1, u2, u3, HG.out, hu1, rfl⟩⟩
              · have HNG : Hid (supG l = none) := Lib.hid (supG_no (fun h => by
                  have h2 := h.2.1
                  rw [HQ1.out, HQ2.out, HQ3.out] at h2
                  dsimp only at h2
                  rw [Int.toNat_natCast] at h2
                  exact hno h2))
                have Z8 := Lib.hid ((hb8.block bz (Array.getElem?_eq_some_iff.1 Z4.out).1).trans Z4.out)
                have B8 := Lib.hid ((B4.out).trans (hb8.mono (B4.out).size))
                clear hno hb8
                go_wp2_with (refine wpList_store_at _ rfl 36 (.tmp 2) (.tmp 80) rfl bz 36 0 #[.int .u64 0, .int .i64 0, .int .i64 0] #[.int .u64 0, .int .i64 0, .int .i64 0] #[.int .u64 0, .int .i64 0, .int .i64 0] rfl rfl (Z8.out) (show 0 + 3 ≤ 3 by omega) rfl size36 (one3 0 0 0) ?_)
                refine bodyPost_ret (results_cell_tmp rfl _ _ bz 36 #[.int .u64 0, .int .i64 0, .int .i64 0] _ rfl (setRow_heap' _ bz _ _ 36 Z8.out) size36 st36) rfl ?_
                exact ⟨(BZ.out).trans (Below.setRow ((B8.out).mono (BZ.out).size) (Nat.le_of_eq HBZ.out) _), .inr ⟨HNG.out, rfl⟩⟩
        · have k1 : (e3 == 0) = false := by simpa using he3
          have k2 : decide (e3 = 0) = false := by simpa using he3
          have HNG : Hid (supG l = none) := Lib.hid (supG_no (fun h => by
            have : q3 l = (0, P2, e3) := by unfold q3; rw [HQ2.out]; exact rnum_er HG3.out he3
            rw [this] at h
            exact he3 h.1))
          have k3 : (e3 != 0) = true := by simpa using he3
          clear hok3
          go_wp2_with (refine wpList_store_at _ rfl 36 (.tmp 2) (.tmp 58) rfl bz 36 0 #[.int .u64 0, .int .i64 0, .int .i64 0] #[.int .u64 0, .int .i64 0, .int .i64 0] #[.int .u64 0, .int .i64 0, .int .i64 0] rfl rfl (VZ.out) (show 0 + 3 ≤ 3 by omega) rfl size36 (one3 0 0 0) ?_)
          refine bodyPost_ret (results_cell_tmp rfl _ _ bz 36 #[.int .u64 0, .int .i64 0, .int .i64 0] _ rfl (setRow_heap' _ bz _ _ 36 VZ.out) size36 st36) rfl ?_
          exact ⟨(BZ.out).trans (Below.setRow (Below.refl _ _) (Nat.le_of_eq HBZ.out) _), .inr ⟨HNG.out, rfl⟩⟩
      · have k1 : (e2 == 0) = false := by simpa using he2
        have k2 : decide (e2 = 0) = false := by simpa using he2
        have HNG : Hid (supG l = none) := Lib.hid (supG_no (fun h => q3_e2 (by
          have : q2 l = (0, P1, e2) := by unfold q2; rw [HQ1.out]; exact rnum_er HG2.out he2
          rw [this]
          exact he2) h.1))
        clear hok2 he2
        go_wp2_with (refine wpList_store_at _ rfl 36 (.tmp 2) (.tmp 37) rfl bz 36 0 #[.int .u64 0, .int .i64 0, .int .i64 0] #[.int .u64 0, .int .i64 0, .int .i64 0] #[.int .u64 0, .int .i64 0, .int .i64 0] rfl rfl (VZ.out) (show 0 + 3 ≤ 3 by omega) rfl size36 (one3 0 0 0) ?_)
        refine bodyPost_ret (results_cell_tmp rfl _ _ bz 36 #[.int .u64 0, .int .i64 0, .int .i64 0] _ rfl (setRow_heap' _ bz _ _ 36 VZ.out) size36 st36) rfl ?_
        exact ⟨(BZ.out).trans (Below.setRow (Below.refl _ _) (Nat.le_of_eq HBZ.out) _), .inr ⟨HNG.out, rfl⟩⟩
    · have k1 : (e1 == 0) = false := by simpa using he1
      have k2 : decide (e1 = 0) = false := by simpa using he1
      have HNG : Hid (supG l = none) := Lib.hid (supG_no (fun h => q3_e1 (by
        have : q1 l = (0, 4, e1) := by unfold q1; rw [HQ0.out]; exact rnum_er HG1.out he1
        rw [this]
        exact he1) h.1))
      clear hok1 he1
      go_wp2_with (refine wpList_store_at _ rfl 36 (.tmp 2) (.tmp 26) rfl bz 36 0 #[.int .u64 0, .int .i64 0, .int .i64 0] #[.int .u64 0, .int .i64 0, .int .i64 0] #[.int .u64 0, .int .i64 0, .int .i64 0] rfl rfl (VZ.out) (show 0 + 3 ≤ 3 by omega) rfl size36 (one3 0 0 0) ?_)
      refine bodyPost_ret (results_cell_tmp rfl _ _ bz 36 #[.int .u64 0, .int .i64 0, .int .i64 0] _ rfl (setRow_heap' _ bz _ _ 36 VZ.out) size36 st36) rfl ?_
      exact ⟨(BZ.out).trans (Below.setRow (Below.refl _ _) (Nat.le_of_eq HBZ.out) _), .inr ⟨HNG.out, rfl⟩⟩
  · have d1 : ((n : Int) == 64) = false := by simp; omega
    have d1' : decide ((n : Int) = 64) = false := decide_eq_false (by omega)
    have d1'' : ((n : Int) != 64) = true := by simp; omega
    have HNG : Hid (supG l = none) := Lib.hid (supG_len (by omega))
    clear h64 hln
    go_enter Tryz.func11, Tryz.ntmps11
    go_upto_region 1 with fail
    clear hwz hbz
    go_wp2_with (refine wpList_store_at _ rfl 36 (.tmp 2) (.tmp 17) rfl bz 36 0 #[.int .u64 0, .int .i64 0, .int .i64 0] #[.int .u64 0, .int .i64 0, .int .i64 0] #[.int .u64 0, .int .i64 0, .int .i64 0] rfl rfl (VZ.out) (show 0 + 3 ≤ 3 by omega) rfl size36 (one3 0 0 0) ?_)
    refine bodyPost_ret (results_cell_tmp rfl _ _ bz 36 #[.int .u64 0, .int .i64 0, .int .i64 0] _ rfl (setRow_heap' _ bz _ _ 36 VZ.out) size36 st36) rfl ?_
    exact ⟨(BZ.out).trans (Below.setRow (Below.refl _ _) (Nat.le_of_eq HBZ.out) _), .inr ⟨HNG.out, rfl⟩⟩
end Go.Proofs
end

section
namespace Go.Proofs
open Go.RowKit Go.FM
theorem pow128 (k : Nat) : 2 ^ (7 * k) = 128 ^ k := by rw [Nat.pow_mul]
theorem p128_le {k : Nat} (h : k ≤ 9) : 128 ^ k ≤ 9223372036854775808 := by
  have : 128 ^ k ≤ 128 ^ 9 := Nat.pow_le_pow_right (by decide) h
  have e : (128 : Nat) ^ 9 = 9223372036854775808 := by decide
  omega
theorem getF_put (l : List UInt8) (p : Nat) : ∀ (f k u a : Nat) (r : List UInt8), f + k = 10 → l.drop (p + k) = encF f u ++ r → u * 128 ^ k < 18446744073709551616 → a < 128 ^ k → (0 < k → 0 < u) →
    getF l p f k (a : Int) = (((a + u * 128 ^ k : Nat) : Int), k + (encF f u).length, 0)
  | 0, k, u, a, r, hf, hd, hu, ha, h0 => by
    exfalso
    have hk : k = 10 := by omega
    subst hk
    have e : (128 : Nat) ^ 10 = 1180591620717411303424 := by decide
    rw [e] at hu
    have := h0 (by omega)
    omega
  | f + 1, k, u, a, r, hf, hd, hu, ha, h0 => by
    have hk9 : k ≤ 9 := by omega
    have hp := p128_le hk9
    have ha64 : a < 18446744073709551616 := by omega
    have ha2 : a < 2 ^ (7 * k) := by rw [pow128]; exact ha
    have hpos : 0 < 128 ^ k := Nat.pow_pos (by decide)
    have h9 : k = 9 → u < 2 := by
      intro h
      subst h
      have e : (128 : Nat) ^ 9 = 9223372036854775808 := by decide
      rw [e] at hu
      omega
    have hget : ∀ x (t : List UInt8), l.drop (p + k) = x :: t → l[p + k]? = some x := by
      intro x t h
      have := congrArg (fun z => z[0]?) h
      simpa using this
    by_cases hs : u < 128
    · rw [encF_last f u hs] at hd
      have hx := hget _ _ hd
      have hc : (UInt8.ofNat u).toNat = u := by rw [UInt8.toNat_ofNat']; omega
      have hg := gadd_sum k u a ha2 ha64 (by rw [Nat.mod_eq_of_lt hs, pow128]; exact hu)
      rw [Nat.mod_eq_of_lt hs, pow128] at hg
      rw [getF, hx]
      simp only
      rw [hc, if_neg (by rintro (⟨h1, h2⟩ | ⟨h1, h2⟩)
                         · have := h9 h1; omega
                         · have := h0 h1; omega), if_pos hs, hg, encF_last f u hs]
      simp
    · rw [encF_more f u hs] at hd
      have hx := hget _ _ hd
      have hk8 : k ≤ 8 := by
        by_cases h : k = 9
        · have := h9 h; omega
        · omega
      have hc : (UInt8.ofNat (u % 128 + 128)).toNat = u % 128 + 128 := by rw [UInt8.toNat_ofNat']; omega
      have hm : (u % 128 + 128) % 128 = u % 128 := by omega
      have hle : u % 128 * 128 ^ k ≤ u * 128 ^ k := Nat.mul_le_mul_right _ (Nat.mod_le u 128)
      have hg := gadd_sum k (u % 128 + 128) a ha2 ha64 (by rw [hm, pow128]; omega)
      rw [hm, pow128] at hg
      have hsplit : u / 128 * 128 ^ (k + 1) + u % 128 * 128 ^ k = u * 128 ^ k := by
        rw [Nat.pow_succ, Nat.mul_comm (128 ^ k) 128, ← Nat.mul_assoc, ← Nat.add_mul]
        congr 1
        omega
      have ih := getF_put l p f (k + 1) (u / 128) (a + u % 128 * 128 ^ k) r (by omega) (by
        have := congrArg List.tail hd
        rw [List.tail_drop] at this
        exact this) (by omega) (by
        rw [Nat.pow_succ]
        have h1 : u % 128 * 128 ^ k ≤ 127 * 128 ^ k := Nat.mul_le_mul_right _ (by omega)
        omega) (by omega)
      rw [getF, hx]
      simp only
      rw [hc, if_neg (by rintro (⟨h1, h2⟩ | ⟨h1, h2⟩) <;> omega), if_neg (by omega), hg, ih, encF_more f u hs]
      have e1 : a + u % 128 * 128 ^ k + u / 128 * 128 ^ (k + 1) = a + u * 128 ^ k := by omega
      rw [e1]
      simp
      omega
theorem getN_put {l : List UInt8} {p u : Nat} {r : List UInt8} (h : l.drop p = encN u ++ r) (hu : u < 18446744073709551616) : getN l p = ((u : Int), (encN u).length, 0) := by
  have := getF_put l p 10 0 u 0 r rfl (by rw [Nat.add_zero]; exact h) (by simpa using hu) (by decide) (by omega)
  simpa [getN, encN] using this
theorem supG_put {e a n : Nat} (h : okS e (a : Int) (n : Int)) (he : e < 18446744073709551616) : supG (supB e a n) = some (e, a, n) := by
  have hl := supB_len e a n
  have ha : a ≤ 1024 := by unfold okS at h; omega
  have hn : n ≤ 1024 := by unfold okS at h; omega
  obtain ⟨l, hL⟩ : ∃ l, supB e a n = l := ⟨_, rfl⟩
  have hd : l.drop 4 = encN e ++ (encN a ++ (encN n ++ List.replicate (60 - (told e a n).length) 0)) := by
    rw [← hL]
    unfold supB
    rw [show (4 : Nat) = (le4 (sumS (restS e a n))).length from rfl, List.drop_left]
    unfold restS told
    simp [List.append_assoc]
  have h1 := getN_put hd he
  have hd2 : l.drop (4 + (encN e).length) = encN a ++ (encN n ++ List.replicate (60 - (told e a n).length) 0) := by
    rw [← List.drop_drop, hd, List.drop_left' rfl]
  have h2 := getN_put hd2 (by omega)
  have hd3 : l.drop (4 + (encN e).length + (encN a).length) = encN n ++ List.replicate (60 - (told e a n).length) 0 := by
    rw [← List.drop_drop, hd2, List.drop_left' rfl]
  have h3 := getN_put hd3 (by omega)
  rw [hL] at hl ⊢
  have Q0 : q0 l = (4, 0) := by unfold q0; rw [if_pos (by omega)]
  have Q1 : q1 l = ((e : Int), 4 + (encN e).length, 0) := by unfold q1; rw [Q0]; exact rnum_ok h1
  have Q2 : q2 l = ((a : Int), 4 + (encN e).length + (encN a).length, 0) := by unfold q2; rw [Q1]; exact rnum_ok h2
  have Q3 : q3 l = ((n : Int), 4 + (encN e).length + (encN a).length + (encN n).length, 0) := by unfold q3; rw [Q2]; exact rnum_ok h3
  have := supG_ok (l := l) (by
    rw [Q1, Q2, Q3]
    dsimp only
    rw [Int.toNat_natCast, Int.toNat_natCast, Int.toNat_natCast]
    exact ⟨rfl, h, hL⟩)
  rw [Q1, Q2, Q3] at this
  dsimp only at this
  rw [Int.toNat_natCast, Int.toNat_natCast, Int.toNat_natCast] at this
  exact this
theorem supG_back {l : List UInt8} {e a n : Nat} (h : supG l = some (e, a, n)) : okS e (a : Int) (n : Int) ∧ supB e a n = l := by
  by_cases hc : ((q3 l).2.2 = 0 ∧ okS (q1 l).1.toNat (q2 l).1 (q3 l).1 ∧ supB (q1 l).1.toNat (q2 l).1.toNat (q3 l).1.toNat = l)
  · rw [supG_ok hc] at h
    simp only [Option.some.injEq, Prod.mk.injEq] at h
    obtain ⟨rfl, rfl, rfl⟩ := h
    obtain ⟨_, h2, h3⟩ := hc
    refine ⟨?_, h3⟩
    unfold okS at h2 ⊢
    omega
  · rw [supG_no hc] at h
    cases h
end Go.Proofs
end

section
set_option maxRecDepth 100000
namespace Go.Proofs
open Go.FM
theorem Tryz.mixedZ : Tryz.prog.follows .mixedOrders = true := by decide +kernel
theorem Tryz.body_of {f : FuncId} {fn : Func} (h1 : Tryz.prog.funcs[f]? = some fn) (h2 : fn.body.isSome = true) (h3 : (fn.name == "runtime.NumGoroutine") = false) : Body Tryz.prog f := by
  obtain ⟨cd, h⟩ := Option.isSome_iff_exists.1 h2
  exact ⟨fn, cd, h1, h, h3⟩
theorem Tryz.body22 : Body Tryz.prog 22 := Tryz.body_of (fn := Tryz.f22) (by kernel_rfl) (by kernel_rfl) (by kernel_rfl)
noncomputable def Tryz.ext0 (f : FuncId) : Option Hook := (Nat.beq f 22).casesOn none (some (sumH 6))
theorem Tryz.ext0_ok : ExtOk Tryz.prog 6 Tryz.ext0 := by
  intro f q h
  unfold Tryz.ext0 at h
  cases hf : Nat.beq f 22 with
  | false => rw [hf] at h; cases h
  | true =>
    rw [hf] at h
    have := Nat.eq_of_beq_eq_true hf
    subst this
    simp only [Option.some.injEq] at h; subst h
    exact sumW_ok Tryz.body22 Tryz.sum
theorem Tryz.known4c : isTrue (callX Tryz.prog 6 10000000 Tryz.ext0 60 4 [] .nil 0) = true := by decide +kernel
theorem Tryz.known4 (w : World) : Calls Tryz.prog 4 #[] w fun e w' => e = .returned (.bool true) ∧ Go.RowKit.Below w.heap.size w w' :=
  (law_fast Tryz.mixedZ Tryz.ext0_ok Tryz.known4c (vs := []) args_nil w).2
end Go.Proofs
end
