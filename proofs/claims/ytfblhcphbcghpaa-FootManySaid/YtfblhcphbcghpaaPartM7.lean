/-
  Texts of a proof over the translated program: proved evaluators and walks, part 7 of 14.
-/
import Derived.Test.YtfblhcphbcghpaaPartM6
import Derived.Below
import Derived.Deep.Cut
import Derived.Deep.RegionHeld3
import Derived.Deep.RegionWith
import Derived.Handy
import Derived.IntWalk
import Derived.Laws.BitsLemmas
import Derived.Laws.BytesArg
import Derived.Laws.BytesString
import Derived.Laws.Closers25b
import Derived.Laws.CopyOwn
import Derived.Laws.MakeOwn
import Derived.Lib.Hide
import Derived.Lib.SlBytesRow
import Derived.LoopTactic
import Derived.Outline
import Derived.OwnWalk
import Derived.Scope
import Derived.ScopeJumps
import Derived.Test.YtfblhcphbcghpaaProg
import Derived.WalkKit
import Derived.WalkMore
import Derived.WalkSpells
set_option linter.unusedVariables false
set_option linter.unusedSimpArgs false
set_option linter.unusedSectionVars false
set_option linter.unnecessarySimpa false
section
namespace Go.Proofs.Ytfblhcphbcghpaa
open Go.RowKit
set_option maxRecDepth 100000
theorem wpList_make_lc {P : Program} (w : World) {ops : Array Oper} {rest : List Oper} {o : Oper} {a : Act} {Q : Exit → Act → World → Prop}
    (hg : o.guard = none) (l c : Operand) (t : TypeId) (hop : o.op = Op.makeSlice t l c)
    (e : TypeId) (i : TypeInfo) (z : Value) (h1 : P.underlying t = some (.slice e)) (h2 : P.info? e = some i) (h3 : i.zero = some z) (h4 : i.size = 1) (h5 : i.bytes = 1) (h6 : z.cells = #[z])
    (kl kc : IntKind) (L C : Int) (n m : Nat) (hl : a.eval l = .int kl L) (hc : a.eval c = .int kc C) (hL : L = (n : Int)) (hC : C = (m : Int)) (hnm : n ≤ m) (hm : m ≤ 65536)
    (hK : wpList P ops Q rest (a.put o.dst (.slice (some ⟨w.heap.size, 0, none⟩) n m)) (w.alloc (.cells (List.replicate m z).toArray e))) :
    wpList P ops Q (o :: rest) a w := by
  refine wpList_plain hg fun K hK' => ?_
  subst hL
  subst hC
  have hr := run_make (P := P) w t e i z h1 h2 h3 kl kc n m (by omega) (by omega) (by rw [h5]; omega) (by omega)
  have hmc : madeCells z.cells ((m : Int).toNat * i.size) = (List.replicate m z).toArray := by
    rw [h4, h6, Int.toNat_natCast, Nat.mul_one]
    apply Array.toList_inj.1
    rw [toList_madeCells_one]
  rw [hmc] at hr
  simp only [Int.toNat_natCast] at hr
  unfold Oper.wp
  simp [execOp, hop, hl, hc, hr, Result.andThen]
  exact hK' _ _ hK
theorem info5 : ∃ i, Try.prog.info? 5 = some i ∧ i.zero = some (.int .u8 0) ∧ i.size = 1 ∧ i.bytes = 1 := by
  have h : (Try.prog.info? 5).map (fun i => (i.zero, i.size, i.bytes)) = some (some (.int .u8 0), 1, 1) := by kernel_rfl
  rcases hi : Try.prog.info? 5 with _ | i
  · rw [hi] at h; simp at h
  · rw [hi] at h
    simp only [Option.map_some, Option.some.injEq, Prod.mk.injEq] at h
    exact ⟨i, rfl, h.1, h.2.1, h.2.2⟩
theorem u8v_one (l : List UInt8) : ∀ u ∈ l.map u8v, u.oneCell' = true := by
  intro u hu
  obtain ⟨x, _, rfl⟩ := List.mem_map.1 hu
  rfl
theorem u8v_ofNat (y : Nat) (h : y < 256) : u8v (UInt8.ofNat y) = .int .u8 (y : Int) := by
  unfold u8v
  rw [UInt8.toNat_ofNat', Nat.mod_eq_of_lt h]
def OB (w : World) (B : Nat) (v : Value) (l : List UInt8) : Prop := w.ownsRow B 5 1 v l.length (l.map u8v)
theorem OB.di {w : World} {B : Nat} {v : Value} {l : List UInt8} (h : OB w B v l) : ∃ A c, v = .slice A l.length c ∧ DI w A l.length c l := by
  have h0 : w.ownsRow B 5 1 v l.length (l.map u8v) := h
  rcases h0.2 with ⟨rfl, hz⟩ | ⟨g, cap, cur, rfl, hb, hg, h1, h2, h3, h4⟩
  · obtain rfl := List.eq_nil_of_length_eq_zero hz
    exact ⟨none, 0, rfl, rfl, Nat.le_refl _, Nat.zero_le _, fun j q hj => by simp at hj⟩
  · refine ⟨_, cap, rfl, rfl, h1, h2, fun j x hj => ⟨⟨g, 0, none⟩, rfl, ?_⟩⟩
    have hj' := (List.getElem?_eq_some_iff.1 hj).1
    rw [Addr.add_lit, Nat.zero_add, h0.cellAt j (by omega), List.getElem?_map, hj]
    rfl
theorem splice_zero (l : List UInt8) (m : Nat) (z : Value) (h : l.length ≤ m) : (splice (List.replicate m z) 0 (l.map u8v)).take l.length = l.map u8v := by
  unfold splice
  rw [List.take_zero, List.nil_append, List.take_append_of_le_length (by simp)]
  exact List.take_of_length_le (by simp)
theorem splice_ob {w : World} {B g m : Nat} {l : List UInt8} (h : w.heap[g]? = some (.cells (splice (List.replicate m (.int .u8 0)) 0 (l.map u8v)).toArray 5 (0, 0))) (hB : B ≤ g) (hl : l.length ≤ m) (hm : m ≤ 65536) : OB w B (.slice (some ⟨g, 0, none⟩) l.length m) l := by
  refine ⟨by simp, .inr ⟨g, m, _, rfl, hB, h, hl, by unfold maxLen; omega, ?_, ?_⟩⟩
  · rw [List.size_toArray, length_splice _ _ _ (by simp; exact hl)]; simp
  · rw [Nat.mul_one]
    exact splice_zero l m _ hl
theorem built_byte (w : World) (y : Nat) (hy : y < 256) : ∀ j u, ([UInt8.ofNat y].map u8v)[j]? = some u → (w.alloc (.cells #[.int .u8 (y : Int)] 5)).cell? ((⟨w.heap.size, 0, none⟩ : Addr).add j) = some u := by
  intro j u hj
  rw [Addr.add_lit, Nat.zero_add, cell_of_row _ _ j _ 5 _ (heap_alloc_new w _), ← hj, List.map_singleton, u8v_ofNat y hy]
  simp
theorem or128 (y : Nat) (h : y < 256) : bits .or .u8 (y : Int) 128 = ((y % 128 + 128 : Nat) : Int) := by
  have e : (128 : Int) = ((128 : Nat) : Int) := rfl
  have hy : y % 2 ^ IntKind.u8.bits = y := Nat.mod_eq_of_lt h
  have h7 : 128 % 2 ^ IntKind.u8.bits = 128 := by decide
  have hm : ∀ y : Fin 256, y.val ||| 128 = y.val % 128 + 128 := by decide
  rw [e]
  simp only [bits, BitVec.ofInt_natCast, BitVec.toNat_or, BitVec.toNat_ofNat, hy, h7]
  rw [hm ⟨y, h⟩, IntKind.wrap_u8]
  dsimp only
  omega
structure PutR (w : World) (l : List UInt8) (u0 k u : Nat) (v : Value) (wr : World) : Prop where
  o : ∃ L, OB wr w.heap.size v L ∧ L.length = l.length + k ∧ L ++ encF (10 - k) u = l ++ encN u0
  b : Below w.heap.size w wr
  s : u * 128 ^ k < 18446744073709551616
def PutP (w : World) (l : List UInt8) (u : Nat) (x : Ending) (w' : World) : Prop := ∃ v, x = .returned v ∧ OB w' w.heap.size v (l ++ encN u) ∧ Below w.heap.size w w'
theorem PutR.k9 {w wr : World} {l : List UInt8} {u0 k u : Nat} {v : Value} (h : PutR w l u0 k u v wr) (hk : k ≤ 9) (hu : ¬ u < 128) : k ≤ 8 := by
  by_cases h9 : k = 9
  · subst h9
    have := h.s
    have e : (128 : Nat) ^ 9 = 9223372036854775808 := by decide
    rw [e] at this
    omega
  · omega
theorem PutR.step {w wr w5 : World} {l : List UInt8} {u0 k u : Nat} {v v' : Value} (h : PutR w l u0 k u v wr) (hk : k ≤ 8) (hu : ¬ u < 128) {L : List UInt8} (hL : L.length = l.length + k ∧ L ++ encF (10 - k) u = l ++ encN u0)
    (ho : OB w5 w.heap.size v' (L ++ [UInt8.ofNat (u % 128 + 128)])) (hb : Below w.heap.size w w5) : PutR w l u0 (k + 1) (u / 128) v' w5 := by
  refine ⟨⟨_, ho, by simp; omega, ?_⟩, hb, ?_⟩
  · rw [← hL.2, show 10 - k = (10 - (k + 1)) + 1 by omega, encF_more _ _ hu, List.append_assoc]
    rfl
  · have h1 := h.s
    have : u / 128 * 128 ^ (k + 1) ≤ u * 128 ^ k := by
      rw [Nat.pow_succ, Nat.mul_comm (128 ^ k) 128, ← Nat.mul_assoc]
      exact Nat.mul_le_mul_right _ (Nat.div_mul_le_self u 128)
    omega
theorem DI.src {w w' : World} {A : Option Addr} {n c : Nat} {l : List UInt8} (h : DI w A n c l) (hb : Below w.heap.size w w') : 0 < (l.map u8v).length → ∃ ad, A = some ad ∧ ∀ j v, (l.map u8v)[j]? = some v → w'.cell? (ad.add j) = some v := by
  intro h0
  rw [List.length_map] at h0
  obtain ⟨X, hX, _⟩ := h.at' 0 (l[0]'h0) (List.getElem?_eq_getElem h0)
  refine ⟨X, hX, fun j v hv => ?_⟩
  rw [List.getElem?_map] at hv
  obtain ⟨x, hx, rfl⟩ := Option.map_eq_some_iff.1 hv
  obtain ⟨Y, hY, hc⟩ := (h.below hb).at' j x hx
  rw [hX] at hY
  cases hY
  exact hc
theorem size5 : (Try.prog.info? 5).map (·.size) = some 1 := by kernel_rfl
set_option maxHeartbeats 4000000 in
theorem Try.put (w : World) {A : Option Addr} {n c : Nat} {l : List UInt8} (hD : DI w A n c l) (hn : n ≤ 60000) (u0 : Nat) (hu0 : u0 < 18446744073709551616) :
    Calls Try.prog 24 #[.slice A n c, .int .u64 u0] w (PutP w l u0) := by
  have hln := hD.len
  obtain ⟨ii, hi0, hz0, hz1, hz2⟩ := info5
  have s1 : IntKind.i64.wrap ((n : Int) + 10) = ((n + 10 : Nat) : Int) := by rw [wrapi (by omega) (by omega)]; omega
  have HP := Lib.hid (hD.src ((Below.refl _ w).alloc (Nat.le_refl _) (.cells (List.replicate (n + 10) (.int .u8 0)).toArray 5)))
  have HL1 : Hid ((l.map u8v).length = Nat.min n n) := Lib.hid (by rw [List.length_map, hln]; exact (Nat.min_self n).symm)
  have HL2 : Hid (0 + (l.map u8v).length ≤ (List.replicate (n + 10) (Value.int .u8 0)).length) := Lib.hid (by rw [List.length_map, List.length_replicate]; omega)
  have HU := Lib.hid hu0
  obtain ⟨cs, hcs⟩ : ∃ cs, l.map u8v = cs := ⟨_, rfl⟩
  have HCS := Lib.hid hcs
  have HONE : Hid (∀ u ∈ cs, u.oneCell' = true) := Lib.hid (by rw [← hcs]; exact u8v_one l)
  rw [hcs] at HP HL1 HL2
  have HLN := Lib.hid hln
  clear hD hu0 hcs hln
  go_enter Try.func24, Try.ntmps24
  go_wp2
  refine wp_scope_once 0 (fun a' wr => ∃ (k u : Nat) (v : Value), k ≤ 9 ∧ PutR w l u0 k u v wr ∧ ∃ u2 u3 u6 u7 u8 u9 u10 u11 u12 u13 u14 u15 u16 u17 u18 u19 u20 u21 u22 u23 u24 u25 u26 u27 u28 u29 : Value, a' = { tmps := #[.slice A n c, .int .u64 u, u2, u3, .slice none 0 0, v, u6, u7, u8, u9, u10, u11, u12, u13, u14, u15, u16, u17, u18, u19, u20, u21, u22, u23, u24, u25, u26, u27, u28, u29], defers := [] }) (fun a' _ => (intOf (a'.tmps.getD 1 undef)).toNat) rfl ?_ ?_
  · intro hL
    go_wp2_with (first
      | (at_make; refine wpList_make_lc _ rfl _ _ 50 rfl 5 ii (.int .u8 0) Try.underlying50 hi0 hz0 hz1 hz2 rfl _ _ _ _ n (n + 10) rfl rfl (by omega) (by omega) (by omega) (by omega) ?_)
      | (refine wpList_copy_splice rfl (.tmp 12) (.tmp 13) 50 50 rfl 5 Try.underlying50 size5 _ _ n (n + 10) n c rfl rfl w.heap.size 0 (List.replicate (n + 10) (.int .u8 0)) 5 (heap_alloc_new w _) cs HL1.out (fun h => ⟨rfl, HP.out h⟩) HL2.out HONE.out w.heap.size w ((Below.refl _ w).alloc (Nat.le_refl _) _) (Nat.le_refl _) ?_))
    intro w2 hg2 hb2
    rw [← HCS.out] at hg2
    have ho2 := splice_ob hg2.out (Nat.le_refl _) (by rw [HLN.out]; omega) (by omega)
    rw [HLN.out] at ho2
    have HPR : Hid (PutR w l u0 0 u0 (.slice (some ⟨w.heap.size, 0, none⟩) n (n + 10)) w2) := Lib.hid ⟨⟨l, ho2, rfl, rfl⟩, hb2, by simpa using HU.out⟩
    clear hg2 hb2 ho2
    go_wp2_with (refine wp_label ?_; rename_i Q0 K0 hK; refine hK _ _ (hL _ _ ?_); exact ⟨0, u0, _, by omega, HPR.out, _, _, _, _, _, _, _, _, _, _, _, _, _, _, _, _, _, _, _, _, _, _, _, _, _, _, rfl⟩)
  · rintro a' wr ⟨k, u, v, hk, hr, u2, u3, u6, u7, u8, u9, u10, u11, u12, u13, u14, u15, u16, u17, u18, u19, u20, u21, u22, u23, u24, u25, u26, u27, u28, u29, rfl⟩
    have HR := Lib.hid hr
    obtain ⟨L, ho, hL1, hL2⟩ := hr.o
    have HO := Lib.hid ho
    have HL := Lib.hid (And.intro hL1 hL2)
    have hus := hr.s
    have hu64 : u < 18446744073709551616 := Nat.lt_of_le_of_lt (Nat.le_mul_of_pos_right _ (Nat.pow_pos (by omega))) hus
    have hLl : L.length ≤ 60010 := by rw [hL1, HLN.out]; omega
    clear hr ho hL1 hL2 hus HP HL1 HL2
    by_cases hu : u < 128
    · have d1 : decide ((u : Int) < 128) = true := decide_eq_true (by omega)
      have d1' : decide (u < 128) = true := decide_eq_true hu
      have s2 : IntKind.u8.wrap (u : Int) = (u : Int) := by rw [IntKind.wrap_u8]; omega
      have OA := Lib.hid (((show wr.ownsRow w.heap.size 5 1 v L.length (L.map u8v) from HO.out)).alloc (.cells #[.int .u8 (u : Int)] 5))
      have CA := Lib.hid (built_byte wr u (by omega))
      have BA := Lib.hid ((HR.out).b.alloc (HR.out).b.size (.cells #[.int .u8 (u : Int)] 5))
      have HE : Hid (L ++ [UInt8.ofNat u] = l ++ encN u0) := Lib.hid (by rw [← (HL.out).2, show 10 - k = (9 - k) + 1 by omega, encF_last _ _ hu])
      obtain ⟨lv, hlv⟩ : ∃ lv, L.map u8v = lv := ⟨_, rfl⟩
      obtain ⟨ll, hll⟩ : ∃ ll, L.length = ll := ⟨_, rfl⟩
      rw [hlv, hll] at OA
      have HLV := Lib.hid hlv
      have HLL := Lib.hid hll
      rw [hll] at hLl
      clear hu hlv hll
      go_wp2_with (at_builtin; refine wpList_append_own _ rfl (.tmp 17) (.tmp 20) 50 rfl w.heap.size 5 ii (.int .u8 0) 1 1 Try.underlying50 hi0 hz0 hz1 hz2 rfl (by decide) _ _ _ rfl (OA.out) _ _ _ ([UInt8.ofNat u].map u8v) rfl rfl (CA.out) (u8v_one _) ?a1 ?a2 ?a3 ?a4)
      case a1 => unfold maxLen; omega
      case a2 => omega
      case a3 => have := (HR.out).b.size; simp; omega
      case a4 =>
        intro v' w5 hown1 hg5 hne
        have B5 := Lib.hid ((BA.out).grown hg5 (BA.out).size (fun k hk => ((OA.out).lt k hk).1))
        have O5 : Hid (OB w5 w.heap.size v' (l ++ encN u0)) := Lib.hid (by
          rw [← HE.out]
          have h : w5.ownsRow w.heap.size 5 1 v' (L.length + 1) (L.map u8v ++ [u8v (UInt8.ofNat u)]) := by rw [HLV.out, HLL.out]; exact hown1
          have e : (L ++ [UInt8.ofNat u]).length = L.length + 1 := by simp
          have e2 : (L ++ [UInt8.ofNat u]).map u8v = L.map u8v ++ [u8v (UInt8.ofNat u)] := by simp
          unfold OB
          rw [e, e2]
          exact h)
        clear hown1 hg5 hne
        go_wp2_with fail
        simp only [Exit.jump]
        go_ret
        exact ⟨_, rfl, O5.out, B5.out⟩
    · have hk8 := (HR.out).k9 hk hu
      have d1 : decide ((u : Int) < 128) = false := decide_eq_false (by omega)
      have d1' : decide (u < 128) = false := decide_eq_false hu
      have s2 : IntKind.u8.wrap (u : Int) = (u : Int) % 256 := by rw [IntKind.wrap_u8]
      have ho1 : bits .or .u8 ((u : Int) % 256) 128 = ((u % 256 % 128 + 128 : Nat) : Int) := by
        have e : (u : Int) % 256 = ((u % 256 : Nat) : Int) := by omega
        rw [e]; exact or128 (u % 256) (Nat.mod_lt _ (by decide))
      obtain ⟨y, hy⟩ : ∃ y, u % 256 % 128 + 128 = y := ⟨_, rfl⟩
      have hy2 : y < 256 := by omega
      have HY : Hid (u % 128 + 128 = y) := Lib.hid (by omega)
      rw [hy] at ho1
      have OA := Lib.hid (((show wr.ownsRow w.heap.size 5 1 v L.length (L.map u8v) from HO.out)).alloc (.cells #[.int .u8 (y : Int)] 5))
      have CA := Lib.hid (built_byte wr y hy2)
      have BA := Lib.hid ((HR.out).b.alloc (HR.out).b.size (.cells #[.int .u8 (y : Int)] 5))
      obtain ⟨lv, hlv⟩ : ∃ lv, L.map u8v = lv := ⟨_, rfl⟩
      obtain ⟨ll, hll⟩ : ∃ ll, L.length = ll := ⟨_, rfl⟩
      rw [hlv, hll] at OA
      have HLV := Lib.hid hlv
      have HLL := Lib.hid hll
      rw [hll] at hLl
      have HNU := Lib.hid hu
      have hdl : u / 128 < u := by omega
      clear hu hlv hll hy
      go_wp2_with (at_builtin; refine wpList_append_own _ rfl (.tmp 22) (.tmp 26) 50 rfl w.heap.size 5 ii (.int .u8 0) 1 1 Try.underlying50 hi0 hz0 hz1 hz2 rfl (by decide) _ _ _ rfl (OA.out) _ _ _ ([UInt8.ofNat y].map u8v) rfl rfl (CA.out) (u8v_one _) ?b1 ?b2 ?b3 ?b4)
      case b1 => unfold maxLen; omega
      case b2 => omega
      case b3 => have := (HR.out).b.size; simp; omega
      case b4 =>
        intro v' w5 hown1 hg5 hne
        have B5 := Lib.hid ((BA.out).grown hg5 (BA.out).size (fun k hk => ((OA.out).lt k hk).1))
        have HN : Hid (PutR w l u0 (k + 1) (u / 128) v' w5) := Lib.hid ((HR.out).step hk8 HNU.out HL.out (by
          rw [HY.out]
          have h : w5.ownsRow w.heap.size 5 1 v' (L.length + 1) (L.map u8v ++ [u8v (UInt8.ofNat y)]) := by rw [HLV.out, HLL.out]; exact hown1
          have e : (L ++ [UInt8.ofNat y]).length = L.length + 1 := by simp
          have e2 : (L ++ [UInt8.ofNat y]).map u8v = L.map u8v ++ [u8v (UInt8.ofNat y)] := by simp
          unfold OB
          rw [e, e2]
          exact h) B5.out)
        clear hown1 hg5 hne
        go_wp2_with fail
        go_step3
        exact ⟨rfl, ⟨k + 1, u / 128, v', by omega, HN.out, _, _, _, _, _, _, _, _, _, _, _, _, _, _, _, _, _, _, _, _, _, _, _, _, _, _, rfl⟩, by simp [intOf]; omega⟩
end Go.Proofs.Ytfblhcphbcghpaa
end
