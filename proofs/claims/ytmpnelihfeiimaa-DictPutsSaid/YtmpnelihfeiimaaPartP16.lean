/-
  Texts of a proof over the translated program: proved evaluators and walks, part 16 of 19.
-/
import Derived.Test.YtmpnelihfeiimaaPartP15
import Derived.Below
import Derived.Deep.Cut
import Derived.Deep.RegionHeld3
import Derived.Deep.RegionLaw
import Derived.Deep.RegionLawGrows
import Derived.Deep.RegionWith
import Derived.Handy
import Derived.IntWalk
import Derived.Laws.AppendOwn
import Derived.Laws.BitsLemmas
import Derived.Laws.BytesArg
import Derived.Laws.BytesString
import Derived.Laws.Closers25b
import Derived.Laws.CopyOwn
import Derived.Laws.MakeOwn
import Derived.Lib.Hide
import Derived.Lib.SlBytesRow
import Derived.LoopTactic
import Derived.Outline
import Derived.OwnWalk
import Derived.Scope
import Derived.ScopeJumps
import Derived.Shelf.Slices.CompactS
import Derived.Shelf.Spec.SearchS
import Derived.Sort.EncStr
import Derived.Sort.Walk0
import Derived.Test.YtmpnelihfeiimaaProg
import Derived.WalkKit
import Derived.WalkMore
import Derived.WalkSpells
import Derived.Great.BuildSlice
import Derived.KernelRfl
import Derived.Laws.IdiomStrings
import Derived.Orders
set_option linter.unusedVariables false
set_option linter.unusedSimpArgs false
set_option linter.unusedSectionVars false
set_option linter.unnecessarySimpa false
section
namespace Go.Proofs
open Go.RowKit
set_option maxRecDepth 100000
theorem wpList_make_lc {P : Program} (w : World) {ops : Array Oper} {rest : List Oper} {o : Oper} {a : Act} {Q : Exit → Act → World → Prop}
    (hg : o.guard = none) (l c : Operand) (t : TypeId) (hop : o.op = Op.makeSlice t l c)
    (e : TypeId) (i : TypeInfo) (z : Value) (h1 : P.underlying t = some (.slice e)) (h2 : P.info? e = some i) (h3 : i.zero = some z) (h4 : i.size = 1) (h5 : i.bytes = 1) (h6 : z.cells = #[z])
    (kl kc : IntKind) (L C : Int) (n m : Nat) (hl : a.eval l = .int kl L) (hc : a.eval c = .int kc C) (hL : L = (n : Int)) (hC : C = (m : Int)) (hnm : n ≤ m) (hm : m ≤ 65536)
    (hK : wpList P ops Q rest (a.put o.dst (.slice (some ⟨w.heap.size, 0, none⟩) n m)) (w.alloc (.cells (List.replicate m z).toArray e))) :
    wpList P ops Q (o :: rest) a w := by
  refine wpList_plain hg fun K hK' => ?_
  subst hL
  subst hC
  have hr := run_make (P := P) w t e i z h1 h2 h3 kl kc n m (by omega) (by omega) (by rw [h5]; omega) (by omega)
  have hmc : madeCells z.cells ((m : Int).toNat * i.size) = (List.replicate m z).toArray := by
    rw [h4, h6, Int.toNat_natCast, Nat.mul_one]
    apply Array.toList_inj.1
    rw [toList_madeCells_one]
  rw [hmc] at hr
  simp only [Int.toNat_natCast] at hr
  unfold Oper.wp
  simp [execOp, hop, hl, hc, hr, Result.andThen]
  exact hK' _ _ hK
theorem info5 : ∃ i, Try.prog.info? 5 = some i ∧ i.zero = some (.int .u8 0) ∧ i.size = 1 ∧ i.bytes = 1 := by
  have h : (Try.prog.info? 5).map (fun i => (i.zero, i.size, i.bytes)) = some (some (.int .u8 0), 1, 1) := by kernel_rfl
  rcases hi : Try.prog.info? 5 with _ | i
  · rw [hi] at h; simp at h
  · rw [hi] at h
    simp only [Option.map_some, Option.some.injEq, Prod.mk.injEq] at h
    exact ⟨i, rfl, h.1, h.2.1, h.2.2⟩
theorem u8v_one (l : List UInt8) : ∀ u ∈ l.map u8v, u.oneCell' = true := by
  intro u hu
  obtain ⟨x, _, rfl⟩ := List.mem_map.1 hu
  rfl
theorem u8v_ofNat (y : Nat) (h : y < 256) : u8v (UInt8.ofNat y) = .int .u8 (y : Int) := by
  unfold u8v
  rw [UInt8.toNat_ofNat', Nat.mod_eq_of_lt h]
def OB (w : World) (B : Nat) (v : Value) (l : List UInt8) : Prop := w.ownsRow B 5 1 v l.length (l.map u8v)
theorem OB.di {w : World} {B : Nat} {v : Value} {l : List UInt8} (h : OB w B v l) : ∃ A c, v = .slice A l.length c ∧ DI w A l.length c l := by
  have h0 : w.ownsRow B 5 1 v l.length (l.map u8v) := h
  rcases h0.2 with ⟨rfl, hz⟩ | ⟨g, cap, cur, rfl, hb, hg, h1, h2, h3, h4⟩
  · obtain rfl := List.eq_nil_of_length_eq_zero hz
    exact ⟨none, 0, rfl, rfl, Nat.le_refl _, Nat.zero_le _, fun j q hj => by simp at hj⟩
  · refine ⟨_, cap, rfl, rfl, h1, h2, fun j x hj => ⟨⟨g, 0, none⟩, rfl, ?_⟩⟩
    have hj' := (List.getElem?_eq_some_iff.1 hj).1
    rw [Addr.add_lit, Nat.zero_add, h0.cellAt j (by omega), List.getElem?_map, hj]
    rfl
theorem splice_zero (l : List UInt8) (m : Nat) (z : Value) (h : l.length ≤ m) : (splice (List.replicate m z) 0 (l.map u8v)).take l.length = l.map u8v := by
  unfold splice
  rw [List.take_zero, List.nil_append, List.take_append_of_le_length (by simp)]
  exact List.take_of_length_le (by simp)
theorem splice_ob {w : World} {B g m : Nat} {l : List UInt8} (h : w.heap[g]? = some (.cells (splice (List.replicate m (.int .u8 0)) 0 (l.map u8v)).toArray 5 (0, 0))) (hB : B ≤ g) (hl : l.length ≤ m) (hm : m ≤ 65536) : OB w B (.slice (some ⟨g, 0, none⟩) l.length m) l := by
  refine ⟨by simp, .inr ⟨g, m, _, rfl, hB, h, hl, by unfold maxLen; omega, ?_, ?_⟩⟩
  · rw [List.size_toArray, length_splice _ _ _ (by simp; exact hl)]; simp
  · rw [Nat.mul_one]
    exact splice_zero l m _ hl
theorem built_byte (w : World) (y : Nat) (hy : y < 256) : ∀ j u, ([UInt8.ofNat y].map u8v)[j]? = some u → (w.alloc (.cells #[.int .u8 (y : Int)] 5)).cell? ((⟨w.heap.size, 0, none⟩ : Addr).add j) = some u := by
  intro j u hj
  rw [Addr.add_lit, Nat.zero_add, cell_of_row _ _ j _ 5 _ (heap_alloc_new w _), ← hj, List.map_singleton, u8v_ofNat y hy]
  simp
theorem or128 (y : Nat) (h : y < 256) : bits .or .u8 (y : Int) 128 = ((y % 128 + 128 : Nat) : Int) := by
  have e : (128 : Int) = ((128 : Nat) : Int) := rfl
  have hy : y % 2 ^ IntKind.u8.bits = y := Nat.mod_eq_of_lt h
  have h7 : 128 % 2 ^ IntKind.u8.bits = 128 := by decide
  have hm : ∀ y : Fin 256, y.val ||| 128 = y.val % 128 + 128 := by decide
  rw [e]
  simp only [bits, BitVec.ofInt_natCast, BitVec.toNat_or, BitVec.toNat_ofNat, hy, h7]
  rw [hm ⟨y, h⟩, IntKind.wrap_u8]
  dsimp only
  omega
structure PutR (w : World) (l : List UInt8) (u0 k u : Nat) (v : Value) (wr : World) : Prop where
  o : ∃ L, OB wr w.heap.size v L ∧ L.length = l.length + k ∧ L ++ encF (10 - k) u = l ++ encN u0
  b : Below w.heap.size w wr
  s : u * 128 ^ k < 18446744073709551616
def PutP (w : World) (l : List UInt8) (u : Nat) (x : Ending) (w' : World) : Prop := ∃ v, x = .returned v ∧ OB w' w.heap.size v (l ++ encN u) ∧ Below w.heap.size w w'
theorem PutR.k9 {w wr : World} {l : List UInt8} {u0 k u : Nat} {v : Value} (h : PutR w l u0 k u v wr) (hk : k ≤ 9) (hu : ¬ u < 128) : k ≤ 8 := by
  by_cases h9 : k = 9
  · subst h9
    have := h.s
    have e : (128 : Nat) ^ 9 = 9223372036854775808 := by decide
    rw [e] at this
    omega
  · omega
theorem PutR.step {w wr w5 : World} {l : List UInt8} {u0 k u : Nat} {v v' : Value} (h : PutR w l u0 k u v wr) (hk : k ≤ 8) (hu : ¬ u < 128) {L : List UInt8} (hL : L.length = l.length + k ∧ L ++ encF (10 - k) u = l ++ encN u0)
    (ho : OB w5 w.heap.size v' (L ++ [UInt8.ofNat (u % 128 + 128)])) (hb : Below w.heap.size w w5) : PutR w l u0 (k + 1) (u / 128) v' w5 := by
  refine ⟨⟨_, ho, by simp; omega, ?_⟩, hb, ?_⟩
  · rw [← hL.2, show 10 - k = (10 - (k + 1)) + 1 by omega, encF_more _ _ hu, List.append_assoc]
    rfl
  · have h1 := h.s
    have : u / 128 * 128 ^ (k + 1) ≤ u * 128 ^ k := by
      rw [Nat.pow_succ, Nat.mul_comm (128 ^ k) 128, ← Nat.mul_assoc]
      exact Nat.mul_le_mul_right _ (Nat.div_mul_le_self u 128)
    omega
theorem DI.src {w w' : World} {A : Option Addr} {n c : Nat} {l : List UInt8} (h : DI w A n c l) (hb : Below w.heap.size w w') : 0 < (l.map u8v).length → ∃ ad, A = some ad ∧ ∀ j v, (l.map u8v)[j]? = some v → w'.cell? (ad.add j) = some v := by
  intro h0
  rw [List.length_map] at h0
  obtain ⟨X, hX, _⟩ := h.at' 0 (l[0]'h0) (List.getElem?_eq_getElem h0)
  refine ⟨X, hX, fun j v hv => ?_⟩
  rw [List.getElem?_map] at hv
  obtain ⟨x, hx, rfl⟩ := Option.map_eq_some_iff.1 hv
  obtain ⟨Y, hY, hc⟩ := (h.below hb).at' j x hx
  rw [hX] at hY
  cases hY
  exact hc
theorem size5 : (Try.prog.info? 5).map (·.size) = some 1 := by kernel_rfl
set_option maxHeartbeats 4000000 in
theorem Try.put (w : World) {A : Option Addr} {n c : Nat} {l : List UInt8} (hD : DI w A n c l) (hn : n ≤ 400) (u0 : Nat) (hu0 : u0 < 18446744073709551616) :
    Calls Try.prog 20 #[.slice A n c, .int .u64 u0] w (PutP w l u0) := by
  have hln := hD.len
  obtain ⟨ii, hi0, hz0, hz1, hz2⟩ := info5
  have s1 : IntKind.i64.wrap ((n : Int) + 10) = ((n + 10 : Nat) : Int) := by rw [wrapi (by omega) (by omega)]; omega
  have HP := Lib.hid (hD.src ((Below.refl _ w).alloc (Nat.le_refl _) (.cells (List.replicate (n + 10) (.int .u8 0)).toArray 5)))
  have HL1 : Hid ((l.map u8v).length = Nat.min n n) := Lib.hid (by rw [List.length_map, hln]; exact (Nat.min_self n).symm)
  have HL2 : Hid (0 + (l.map u8v).length ≤ (List.replicate (n + 10) (Value.int .u8 0)).length) := Lib.hid (by rw [List.length_map, List.length_replicate]; omega)
  have HU := Lib.hid hu0
  obtain ⟨cs, hcs⟩ : ∃ cs, l.map u8v = cs := ⟨_, rfl⟩
  have HCS := Lib.hid hcs
  have HONE : Hid (∀ u ∈ cs, u.oneCell' = true) := Lib.hid (by rw [← hcs]; exact u8v_one l)
  rw [hcs] at HP HL1 HL2
  have HLN := Lib.hid hln
  clear hD hu0 hcs hln
  go_enter Try.func20, Try.ntmps20
  go_wp2
  refine wp_scope_once 0 (fun a' wr => ∃ (k u : Nat) (v : Value), k ≤ 9 ∧ PutR w l u0 k u v wr ∧ ∃ u2 u3 u6 u7 u8 u9 u10 u11 u12 u13 u14 u15 u16 u17 u18 u19 u20 u21 u22 u23 u24 u25 u26 u27 u28 u29 : Value, a' = { tmps := #[.slice A n c, .int .u64 u, u2, u3, .slice none 0 0, v, u6, u7, u8, u9, u10, u11, u12, u13, u14, u15, u16, u17, u18, u19, u20, u21, u22, u23, u24, u25, u26, u27, u28, u29], defers := [] }) (fun a' _ => (intOf (a'.tmps.getD 1 undef)).toNat) rfl ?_ ?_
  · intro hL
    go_wp2_with (first
      | (at_make; refine wpList_make_lc _ rfl _ _ 28 rfl 5 ii (.int .u8 0) Try.underlying28 hi0 hz0 hz1 hz2 rfl _ _ _ _ n (n + 10) rfl rfl (by omega) (by omega) (by omega) (by omega) ?_)
      | (refine wpList_copy_splice rfl (.tmp 12) (.tmp 13) 28 28 rfl 5 Try.underlying28 size5 _ _ n (n + 10) n c rfl rfl w.heap.size 0 (List.replicate (n + 10) (.int .u8 0)) 5 (heap_alloc_new w _) cs HL1.out (fun h => ⟨rfl, HP.out h⟩) HL2.out HONE.out w.heap.size w ((Below.refl _ w).alloc (Nat.le_refl _) _) (Nat.le_refl _) ?_))
    intro w2 hg2 hb2
    rw [← HCS.out] at hg2
    have ho2 := splice_ob hg2.out (Nat.le_refl _) (by rw [HLN.out]; omega) (by omega)
    rw [HLN.out] at ho2
    have HPR : Hid (PutR w l u0 0 u0 (.slice (some ⟨w.heap.size, 0, none⟩) n (n + 10)) w2) := Lib.hid ⟨⟨l, ho2, rfl, rfl⟩, hb2, by simpa using HU.out⟩
    clear hg2 hb2 ho2
    go_wp2_with (refine wp_label ?_; rename_i Q0 K0 hK; refine hK _ _ (hL _ _ ?_); exact ⟨0, u0, _, by omega, HPR.out, _, _, _, _, _, _, _, _, _, _, _, _, _, _, _, _, _, _, _, _, _, _, _, _, _, _, rfl⟩)
  · rintro a' wr ⟨k, u, v, hk, hr, u2, u3, u6, u7, u8, u9, u10, u11, u12, u13, u14, u15, u16, u17, u18, u19, u20, u21, u22, u23, u24, u25, u26, u27, u28, u29, rfl⟩
    have HR := Lib.hid hr
    obtain ⟨L, ho, hL1, hL2⟩ := hr.o
    have HO := Lib.hid ho
    have HL := Lib.hid (And.intro hL1 hL2)
    have hus := hr.s
    have hu64 : u < 18446744073709551616 := Nat.lt_of_le_of_lt (Nat.le_mul_of_pos_right _ (Nat.pow_pos (by omega))) hus
    have hLl : L.length ≤ 410 := by rw [hL1, HLN.out]; omega
    clear hr ho hL1 hL2 hus HP HL1 HL2
    by_cases hu : u < 128
    · have d1 : decide ((u : Int) < 128) = true := decide_eq_true (by omega)
      have d1' : decide (u < 128) = true := decide_eq_true hu
      have s2 : IntKind.u8.wrap (u : Int) = (u : Int) := by rw [IntKind.wrap_u8]; omega
      have OA := Lib.hid (((show wr.ownsRow w.heap.size 5 1 v L.length (L.map u8v) from HO.out)).alloc (.cells #[.int .u8 (u : Int)] 5))
      have CA := Lib.hid (built_byte wr u (by omega))
      have BA := Lib.hid ((HR.out).b.alloc (HR.out).b.size (.cells #[.int .u8 (u : Int)] 5))
      have HE : Hid (L ++ [UInt8.ofNat u] = l ++ encN u0) := Lib.hid (by rw [← (HL.out).2, show 10 - k = (9 - k) + 1 by omega, encF_last _ _ hu])
      obtain ⟨lv, hlv⟩ : ∃ lv, L.map u8v = lv := ⟨_, rfl⟩
      obtain ⟨ll, hll⟩ : ∃ ll, L.length = ll := ⟨_, rfl⟩
      rw [hlv, hll] at OA
      have HLV := Lib.hid hlv
      have HLL := Lib.hid hll
      rw [hll] at hLl
      clear hu hlv hll
      go_wp2_with (at_builtin; refine wpList_append_own _ rfl (.tmp 17) (.tmp 20) 28 rfl w.heap.size 5 ii (.int .u8 0) 1 1 Try.underlying28 hi0 hz0 hz1 hz2 rfl (by decide) _ _ _ rfl (OA.out) _ _ _ ([UInt8.ofNat u].map u8v) rfl rfl (CA.out) (u8v_one _) ?a1 ?a2 ?a3 ?a4)
      case a1 => unfold maxLen; omega
      case a2 => omega
      case a3 => have := (HR.out).b.size; simp; omega
      case a4 =>
        intro v' w5 hown1 hg5 hne
        have B5 := Lib.hid ((BA.out).grown hg5 (BA.out).size (fun k hk => ((OA.out).lt k hk).1))
        have O5 : Hid (OB w5 w.heap.size v' (l ++ encN u0)) := Lib.hid (by
          rw [← HE.out]
          have h : w5.ownsRow w.heap.size 5 1 v' (L.length + 1) (L.map u8v ++ [u8v (UInt8.ofNat u)]) := by rw [HLV.out, HLL.out]; exact hown1
          have e : (L ++ [UInt8.ofNat u]).length = L.length + 1 := by simp
          have e2 : (L ++ [UInt8.ofNat u]).map u8v = L.map u8v ++ [u8v (UInt8.ofNat u)] := by simp
          unfold OB
          rw [e, e2]
          exact h)
        clear hown1 hg5 hne
        go_wp2_with fail
        simp only [Exit.jump]
        go_ret
        exact ⟨_, rfl, O5.out, B5.out⟩
    · have hk8 := (HR.out).k9 hk hu
      have d1 : decide ((u : Int) < 128) = false := decide_eq_false (by omega)
      have d1' : decide (u < 128) = false := decide_eq_false hu
      have s2 : IntKind.u8.wrap (u : Int) = (u : Int) % 256 := by rw [IntKind.wrap_u8]
      have ho1 : bits .or .u8 ((u : Int) % 256) 128 = ((u % 256 % 128 + 128 : Nat) : Int) := by
        have e : (u : Int) % 256 = ((u % 256 : Nat) : Int) := by omega
        rw [e]; exact or128 (u % 256) (Nat.mod_lt _ (by decide))
      obtain ⟨y, hy⟩ : ∃ y, u % 256 % 128 + 128 = y := ⟨_, rfl⟩
      have hy2 : y < 256 := by omega
      have HY : Hid (u % 128 + 128 = y) := Lib.hid (by omega)
      rw [hy] at ho1
      have OA := Lib.hid (((show wr.ownsRow w.heap.size 5 1 v L.length (L.map u8v) from HO.out)).alloc (.cells #[.int .u8 (y : Int)] 5))
      have CA := Lib.hid (built_byte wr y hy2)
      have BA := Lib.hid ((HR.out).b.alloc (HR.out).b.size (.cells #[.int .u8 (y : Int)] 5))
      obtain ⟨lv, hlv⟩ : ∃ lv, L.map u8v = lv := ⟨_, rfl⟩
      obtain ⟨ll, hll⟩ : ∃ ll, L.length = ll := ⟨_, rfl⟩
      rw [hlv, hll] at OA
      have HLV := Lib.hid hlv
      have HLL := Lib.hid hll
      rw [hll] at hLl
      have HNU := Lib.hid hu
      have hdl : u / 128 < u := by omega
      clear hu hlv hll hy
      go_wp2_with (at_builtin; refine wpList_append_own _ rfl (.tmp 22) (.tmp 26) 28 rfl w.heap.size 5 ii (.int .u8 0) 1 1 Try.underlying28 hi0 hz0 hz1 hz2 rfl (by decide) _ _ _ rfl (OA.out) _ _ _ ([UInt8.ofNat y].map u8v) rfl rfl (CA.out) (u8v_one _) ?b1 ?b2 ?b3 ?b4)
      case b1 => unfold maxLen; omega
      case b2 => omega
      case b3 => have := (HR.out).b.size; simp; omega
      case b4 =>
        intro v' w5 hown1 hg5 hne
        have B5 := Lib.hid ((BA.out).grown hg5 (BA.out).size (fun k hk => ((OA.out).lt k hk).1))
        have HN : Hid (PutR w l u0 (k + 1) (u / 128) v' w5) := Lib.hid ((HR.out).step hk8 HNU.out HL.out (by
          rw [HY.out]
          have h : w5.ownsRow w.heap.size 5 1 v' (L.length + 1) (L.map u8v ++ [u8v (UInt8.ofNat y)]) := by rw [HLV.out, HLL.out]; exact hown1
          have e : (L ++ [UInt8.ofNat y]).length = L.length + 1 := by simp
          have e2 : (L ++ [UInt8.ofNat y]).map u8v = L.map u8v ++ [u8v (UInt8.ofNat y)] := by simp
          unfold OB
          rw [e, e2]
          exact h) B5.out)
        clear hown1 hg5 hne
        go_wp2_with fail
        go_step3
        exact ⟨rfl, ⟨k + 1, u / 128, v', by omega, HN.out, _, _, _, _, _, _, _, _, _, _, _, _, _, _, _, _, _, _, _, _, _, _, _, _, _, _, rfl⟩, by simp [intOf]; omega⟩
end Go.Proofs
end

section
namespace Go.Proofs
open Go.RowKit Go.AbsM
set_option maxRecDepth 100000
def iv (l : List UInt8) : List Int := l.map (fun x => (x.toNat : Int))
def bv (ns : List Int) : List UInt8 := ns.map (fun n => UInt8.ofNat n.toNat)
def uv (P : List Nat) : List Int := P.map (fun x : Nat => (x : Int))
def vu (ns : List Int) : List Nat := ns.map Int.toNat
theorem iv_len (l : List UInt8) : (iv l).length = l.length := by simp [iv]
theorem bv_len (l : List Int) : (bv l).length = l.length := by simp [bv]
theorem uv_len (l : List Nat) : (uv l).length = l.length := by simp [uv]
theorem vu_uv (l : List Nat) : vu (uv l) = l := by
  unfold vu uv
  rw [List.map_map]
  exact (List.map_congr_left fun x hx => by simp).trans (List.map_id l)
theorem iv_bytes (l : List UInt8) : Sp.bytes (iv l) := fun x hx => by
  obtain ⟨y, _, rfl⟩ := List.mem_map.1 hx
  have := y.toNat_lt
  omega
def U64 (P : List Nat) : Prop := ∀ x ∈ P, x < 18446744073709551616
theorem uv_in {P : List Nat} (h : U64 P) : Sp.inU (uv P) := fun x hx => by
  obtain ⟨y, hy, rfl⟩ := List.mem_map.1 hx
  have := h y hy
  omega
theorem bv_u8v {ns : List Int} (h : Sp.bytes ns) : (bv ns).map u8v = ns.map (Value.int .u8) := by
  unfold bv
  rw [List.map_map]
  refine List.map_congr_left fun n hn => ?_
  have := h n hn
  simp only [Function.comp, u8v]
  congr 1
  simp only [UInt8.toNat_ofNat']
  omega
theorem iv_bv {ns : List Int} (h : Sp.bytes ns) : iv (bv ns) = ns := by
  unfold bv iv
  rw [List.map_map]
  refine (List.map_congr_left fun n hn => ?_).trans (List.map_id ns)
  have := h n hn
  simp only [Function.comp, UInt8.toNat_ofNat', id]
  omega
structure DU (w : World) (A : Option Addr) (n c : Nat) (l : List Nat) : Prop where
  len : l.length = n
  le : n ≤ c
  max : c ≤ maxLen
  at' : ∀ j x, l[j]? = some x → ∃ X, A = some X ∧ w.cell? (X.add j) = some (u64v x)
theorem DU.below {w w' : World} {A : Option Addr} {n c : Nat} {l : List Nat} (h : DU w A n c l) (hb : Below w.heap.size w w') : DU w' A n c l :=
  ⟨h.len, h.le, h.max, fun j x hx => by obtain ⟨X, e, hc⟩ := h.at' j x hx; exact ⟨X, e, cellW hc hb⟩⟩
theorem arg_gen {w : World} {k : IntKind} {e : TypeId} (h51 : 0 < Try.prog.cellsOf e) (h1 : ∀ n : Int, (Value.int k n).cells.size = Try.prog.cellsOf e) {a : Option Addr} {n c : Nat} {ns : List Int} (hl : ns.length = n) (hn : n ≤ c) (hc : c ≤ maxLen) (hX : ∀ j x, ns[j]? = some x → ∃ X, a = some X ∧ w.cell? (X.add j) = some (.int k x)) :
    Arg Try.prog w (.sl e (ns.map (AV.int k))) (.slice a n c) := by
  have hxl : (ns.map (AV.int k)).length = n := by rw [List.length_map, hl]
  refine Rep.sl (P := Try.prog) (e := e) (xs := ns.map (AV.int k)) (us := ns.map (Value.int k)) hxl.symm (by rw [List.length_map, List.length_map]) (by omega) hc h51 (fun i x u hx hu => ?_) (fun u hu => ?_) fun hne => ?_
  · simp only [List.getElem?_map, Option.map_eq_some_iff] at hx hu
    obtain ⟨n, h1, rfl⟩ := hx
    obtain ⟨m, h2, rfl⟩ := hu
    rw [h1] at h2
    simp only [Option.some.injEq] at h2; subst h2
    exact .x rfl
  · obtain ⟨n, _, rfl⟩ := List.mem_map.1 hu
    exact h1 n
  · obtain ⟨x, hx⟩ : ∃ x, ns[0]? = some x := by
      cases ns with
      | nil => exact absurd rfl hne
      | cons x r => exact ⟨x, rfl⟩
    obtain ⟨⟨b, o, sp⟩, rfl, hcell⟩ := hX 0 x hx
    have hs : sp = none := by simpa [Addr.add] using World.cell?_spot hcell
    subst hs
    refine ⟨b, o, rfl, fun j cv hj => ?_⟩
    rw [flat_ints] at hj
    rw [List.getElem?_map, Option.map_eq_some_iff] at hj
    obtain ⟨y, hy, rfl⟩ := hj
    obtain ⟨X, hX1, h1⟩ := hX j y hy
    cases hX1
    have ha : Addr.add ⟨b, o, none⟩ j = ⟨b, o + j, none⟩ := by simp [Addr.add]
    rw [ha] at h1
    exact ⟨h1, block_lt_of_cell h1⟩
theorem DI.arg {w : World} {A : Option Addr} {n c : Nat} {l : List UInt8} (h : DI w A n c l) : Arg Try.prog w (.sl 5 ((iv l).map (AV.int .u8))) (.slice A n c) :=
  arg_gen (of_decide_eq_true (by kernel_rfl)) (fun n => by kernel_rfl) (by rw [iv_len, h.len]) h.le h.max fun j x hx => by
    unfold iv at hx
    rw [List.getElem?_map, Option.map_eq_some_iff] at hx
    obtain ⟨y, hy, rfl⟩ := hx
    exact h.at' j y hy
theorem DU.arg {w : World} {A : Option Addr} {n c : Nat} {l : List Nat} (h : DU w A n c l) : Arg Try.prog w (.sl 39 ((uv l).map (AV.int .u64))) (.slice A n c) :=
  arg_gen (of_decide_eq_true (by kernel_rfl)) (fun n => by kernel_rfl) (by rw [uv_len, h.len]) h.le h.max fun j x hx => by
    unfold uv at hx
    rw [List.getElem?_map, Option.map_eq_some_iff] at hx
    obtain ⟨y, hy, rfl⟩ := hx
    exact h.at' j y hy
theorem outrow_cell {w : World} {b : Nat} {e : TypeId} {k : IntKind} {ns : List Int} {cap : Nat} (h : OutRow w b e k ns cap) {j : Nat} {x : Int} (hx : ns[j]? = some x) : w.cell? (Addr.add ⟨b, 0, none⟩ j) = some (.int k x) := by
  obtain ⟨cur, h1, h2, h3, h4⟩ := h
  have hj := (List.getElem?_eq_some_iff.1 hx).1
  rw [Addr.add_lit, Nat.zero_add, cell_of_row w b j _ e (0, 0) h1]
  have := congrArg (fun l => l[j]?) h4
  simp only [List.getElem?_map, hx, Option.map_some] at this
  rw [List.getElem?_take, if_pos hj] at this
  simpa using this
theorem outrow_di {w : World} {b : Nat} {ns : List Int} {cap c : Nat} (h : OutRow w b 5 .u8 ns cap) (hb : Sp.bytes ns) (hn : ns.length ≤ c) (hc : c ≤ cap) : DI w (some ⟨b, 0, none⟩) ns.length c (bv ns) :=
  ⟨bv_len ns, hn, by obtain ⟨cur, h1, h2, h3, h4⟩ := h; omega, fun j x hx => ⟨_, rfl, by
    have e := congrArg (fun l => l[j]?) (bv_u8v hb)
    simp only [List.getElem?_map, hx, Option.map_some] at e
    obtain ⟨y, hy, hyx⟩ := Option.map_eq_some_iff.1 e.symm
    rw [outrow_cell h hy, hyx]⟩⟩
theorem outrow_du {w : World} {b : Nat} {ns : List Int} {cap c : Nat} (h : OutRow w b 39 .u64 ns cap) (hb : ∀ x ∈ ns, 0 ≤ x) (hn : ns.length ≤ c) (hc : c ≤ cap) : DU w (some ⟨b, 0, none⟩) ns.length c (vu ns) :=
  ⟨by simp [vu], hn, by obtain ⟨cur, h1, h2, h3, h4⟩ := h; omega, fun j x hx => ⟨_, rfl, by
    unfold vu at hx
    rw [List.getElem?_map, Option.map_eq_some_iff] at hx
    obtain ⟨y, hy, rfl⟩ := hx
    rw [outrow_cell h hy]
    have := hb y (List.mem_of_getElem? hy)
    unfold u64v
    congr 2
    omega⟩⟩
def pkw (P : List Nat) : Nat := (Sp.width (uv P)).toNat
def pkd (P : List Nat) : List UInt8 := bv (Sp.outP (uv P) (Sp.width (uv P)))
theorem pkw_eq {P : List Nat} : Sp.width (uv P) = (pkw P : Int) := by
  have := Sp.width_nonneg (uv P)
  unfold pkw; omega
theorem pkw_le {P : List Nat} (h : U64 P) : pkw P ≤ 64 := by
  have := Sp.width64 (uv_in h)
  rw [pkw_eq] at this; omega
theorem pk_err {P : List Nat} (h : U64 P) (hn : P.length ≤ 65536) : Sp.err (uv P) (Sp.width (uv P)) = 0 :=
  Sp.err_is (Sp.width_nonneg _) (Sp.width64 (uv_in h)) (Int.le_refl _) (by rw [uv_len]; exact hn)
theorem pkd_len (P : List Nat) : (pkd P).length ≤ 524288 := by
  unfold pkd; rw [bv_len]; exact Sp.outP_len _ _
theorem width_by {f : Nat} (hf : ∃ c : TCtr, GoodC Try.prog c ∧ c = .det f [.l 39 (.int .u64)] (fun (d : List Int × Unit) => Sp.inU d.1 ∧ d.1.length < 9223372036854775807) (fun (d : List Int × Unit) => TV.int .i64 (Sp.width d.1)) (fun _ => rfl)) (w : World) (A : Option Addr) (n c : Nat) (P : List Nat) (hD : DU w A n c P) (hP : U64 P) (hn : n ≤ 65536) :
    Calls Try.prog f #[.slice A n c] w fun e w' => e = .returned (.int .i64 (pkw P)) ∧ Below w.heap.size w w' := by
  obtain ⟨c', hc, rfl⟩ := hf
  have hm := hD.max
  have hl := hD.len
  have hle := hD.le
  unfold maxLen at hm
  refine (GoodC.out hc (uv P, ()) ⟨uv_in hP, by rw [uv_len]; omega⟩ [.slice A n c] ⟨hD.arg, trivial⟩).mono ?_
  rintro e w' ⟨v, g', rfl, hb, hR⟩
  have hR' : ResRep Try.prog (fun b => w.heap.size ≤ b) w' g' [] (.x (.int .i64 (Sp.width (uv P)))) v := hR
  obtain rfl := res_x hR'
  rw [pkw_eq]
  exact ⟨rfl, hb⟩
theorem Try.width (w : World) (A : Option Addr) (n c : Nat) (P : List Nat) (hD : DU w A n c P) (hP : U64 P) (hn : n ≤ 65536) : Calls Try.prog 21 #[.slice A n c] w fun e w' => e = .returned (.int .i64 (pkw P)) ∧ Below w.heap.size w w' :=
  width_by ⟨_, Ytmpnelihfeiimaa.good21, rfl⟩ w A n c P hD hP hn
theorem Try.rwidth (w : World) (A : Option Addr) (n c : Nat) (P : List Nat) (hD : DU w A n c P) (hP : U64 P) (hn : n ≤ 65536) : Calls Try.prog 25 #[.slice A n c] w fun e w' => e = .returned (.int .i64 (pkw P)) ∧ Below w.heap.size w w' :=
  width_by ⟨_, Ytmpnelihfeiimaa.good25, rfl⟩ w A n c P hD hP hn
def PkP (w : World) (P : List Nat) (e : Ending) (w' : World) : Prop := ∃ b cc, e = .returned (.tuple #[.slice (some ⟨b, 0, none⟩) (pkd P).length cc, .int .i64 0]) ∧ w.heap.size ≤ b ∧ DI w' (some ⟨b, 0, none⟩) (pkd P).length cc (pkd P) ∧ Below w.heap.size w w'
theorem pput_by {f : Nat} (hf : GoodC Try.prog (Ytmpnelihfeiimaa.ctrPut f)) (w : World) (A : Option Addr) (n c : Nat) (P : List Nat) (hD : DU w A n c P) (hP : U64 P) (hn : n ≤ 65536) :
    Calls Try.prog f #[.slice A n c, .int .i64 (pkw P)] w (PkP w P) := by
  have hl := hD.len
  refine (GoodC.out hf (uv P, (pkw P : Int), ()) ⟨uv_in hP, by rw [uv_len]; omega⟩ [.slice A n c, .int .i64 (pkw P)] ⟨hD.arg, Arg.int, trivial⟩).mono ?_
  rintro e w' ⟨v, g', rfl, hb, hR⟩
  have he := pk_err hP (by omega)
  have ho : (Ytmpnelihfeiimaa.ctrPut f).out (uv P, (pkw P : Int), ()) = .tup [.own 5 (.int .u8) (Sp.outP (uv P) (pkw P)), .c (.a (.x (.int .i64 0)))] := by
    show (if Sp.err (uv P) (pkw P) = 0 then _ else _) = _
    rw [← pkw_eq, if_pos he]
  have hR' : ResRep Try.prog (fun b => w.heap.size ≤ b) w' g' [] (((Ytmpnelihfeiimaa.ctrPut f).out (uv P, (pkw P : Int), ())).emb []) v := hR
  rw [ho] at hR'
  obtain ⟨b, cc, cap, rfl, h1, h2, h3, h4⟩ := res_own (ns := Sp.outP (uv P) (pkw P)) (by kernel_rfl) rfl hR'
  have hby := (Sp.put_got (uv_in hP) he).2.1
  rw [← pkw_eq] at h2 h4 ⊢
  have := outrow_di h4 hby h2 h3
  have hx : (pkd P).length = (Sp.outP (uv P) (Sp.width (uv P))).length := bv_len _
  rw [← hx] at this ⊢
  exact ⟨b, cc, rfl, h1, this, hb⟩
theorem Try.pput (w : World) (A : Option Addr) (n c : Nat) (P : List Nat) (hD : DU w A n c P) (hP : U64 P) (hn : n ≤ 65536) : Calls Try.prog 22 #[.slice A n c, .int .i64 (pkw P)] w (PkP w P) := pput_by Ytmpnelihfeiimaa.good22 w A n c P hD hP hn
theorem Try.rpput (w : World) (A : Option Addr) (n c : Nat) (P : List Nat) (hD : DU w A n c P) (hP : U64 P) (hn : n ≤ 65536) : Calls Try.prog 24 #[.slice A n c, .int .i64 (pkw P)] w (PkP w P) := pput_by Ytmpnelihfeiimaa.good24 w A n c P hD hP hn
theorem Try.pget (w : World) (A : Option Addr) (m c : Nat) (P : List Nat) (hD : DI w A m c (pkd P)) (hP : U64 P) (n : Nat) (hn : P.length = n) (hn2 : n ≤ 65536) :
    Calls Try.prog 38 #[.slice A m c, .int .i64 n, .int .i64 (pkw P)] w fun e w' => ∃ b cc, e = .returned (.tuple #[.slice (some ⟨b, 0, none⟩) n cc, .int .i64 0]) ∧ w.heap.size ≤ b ∧ DU w' (some ⟨b, 0, none⟩) n cc P ∧ Below w.heap.size w w' := by
  subst hn
  have hl := hD.len
  have hpl := pkd_len P
  have he := pk_err hP hn2
  obtain ⟨p1, p2, p3, p4, p5⟩ := Sp.put_got (uv_in hP) he
  have hi : iv (pkd P) = Sp.outP (uv P) (Sp.width (uv P)) := iv_bv p2
  refine (GoodC.out Ytmpnelihfeiimaa.good38 (iv (pkd P), (P.length : Int), (pkw P : Int), ()) ⟨iv_bytes _, by rw [iv_len]; omega⟩ [.slice A m c, .int .i64 P.length, .int .i64 (pkw P)] ⟨hD.arg, Arg.int, Arg.int, trivial⟩).mono ?_
  rintro e w' ⟨v, g', rfl, hb, hR⟩
  rw [uv_len] at p3 p4
  rw [← hi, pkw_eq] at p3 p4
  have ho : Ytmpnelihfeiimaa.ctr38.out (iv (pkd P), (P.length : Int), (pkw P : Int), ()) = .tup [.own 39 (.int .u64) (uv P), .c (.a (.x (.int .i64 0)))] := by
    show (if Sp.gerr (iv (pkd P)) P.length (pkw P) = 0 then _ else _) = _
    rw [if_pos p3, p4]
  have hR' : ResRep Try.prog (fun b => w.heap.size ≤ b) w' g' [] ((Ytmpnelihfeiimaa.ctr38.out (iv (pkd P), (P.length : Int), (pkw P : Int), ())).emb []) v := hR
  rw [ho] at hR'
  obtain ⟨b, cc, cap, rfl, h1, h2, h3, h4⟩ := res_own (ns := uv P) (by kernel_rfl) rfl hR'
  have := outrow_du h4 (fun x hx => (uv_in hP x hx).1) h2 h3
  rw [vu_uv, uv_len] at this
  rw [uv_len] at h2 ⊢
  exact ⟨b, cc, rfl, h1, this, hb⟩
end Go.Proofs
end

section
namespace Go.Proofs
open Go.RowKit NT Go.Shelf Go.Lib Go.Sort
set_option maxRecDepth 100000
theorem Try.few_no (a : Option Addr) (n m : Nat) (w : World) (h : 100 < n) : Calls Try.prog 7 #[.slice a n m] w fun e w' => e = .returned (.bool false) ∧ w' = w := by
  have d1 : decide ((100 : Int) < n) = true := decide_eq_true (by omega)
  have d1' : decide (100 < n) = true := decide_eq_true h
  go_enter Try.func7, Try.ntmps7
  go_wp2_with fail
  go_ret
  exact ⟨rfl, rfl⟩
theorem Try.few (a : Option Addr) (n m : Nat) (w : World) (h : n ≤ 100) (l : List Str) (hl : l.length = n) (hc : ∀ j x, l[j]? = some x → ∃ A, a = some A ∧ w.cell? (A.add j) = some (encStr x)) :
    Calls Try.prog 7 #[.slice a n m] w fun e w' => e = .returned (.bool (decide (∀ x ∈ l, x.length ≤ 400))) ∧ w' = w := by
  have d0 : decide ((100 : Int) < n) = false := decide_eq_false (by omega)
  have d0' : decide (100 < n) = false := decide_eq_false (by omega)
  have HC := Lib.hid hc
  have HL := Lib.hid hl
  clear hc hl
  go_enter Try.func7, Try.ntmps7
  go_wp2_with fail
  go_loopw [3] (fun t wr => ∃ i : Nat, i ≤ n ∧ t = .int .i64 i ∧ wr = w ∧ Hid (∀ x ∈ l.take i, x.length ≤ 400)) (fun t _ => n - (intO t).toNat)
  case atStart => exact ⟨0, Nat.zero_le _, rfl, rfl, Lib.hid (by simp)⟩
  case round =>
    obtain ⟨i, hi, rfl, rfl, HJ⟩ := hrel
    by_cases hlt : i < n
    · have d1 : decide ((i : Int) < n) = true := decide_eq_true (by omega)
      have d1' : decide (i < n) = true := decide_eq_true hlt
      obtain ⟨x, hx⟩ : ∃ x, l[i]? = some x := ⟨_, List.getElem?_eq_getElem (by rw [HL.out]; exact hlt)⟩
      obtain ⟨A, hA, hcx⟩ := HC.out i x hx
      subst hA
      have HX := Lib.hid hx
      clear hx
      by_cases h4 : 400 < x.length
      · have e1 : decide ((400 : Int) < x.length) = true := decide_eq_true (by omega)
        have e1' : decide (400 < x.length) = true := decide_eq_true h4
        have HE : Hid (decide (∀ x ∈ l, x.length ≤ 400) = false) := Lib.hid (decide_eq_false fun q => by have := q x (List.mem_of_getElem? HX.out); omega)
        clear h4
        go_wp2_with fail
        go_ret
        rw [HE.out]
        exact ⟨rfl, rfl⟩
      · have e1 : decide ((400 : Int) < x.length) = false := decide_eq_false (by omega)
        have e1' : decide (400 < x.length) = false := decide_eq_false h4
        have HE : Hid (∀ y ∈ l.take (i + 1), y.length ≤ 400) := Lib.hid (by
          intro y hy
          have hi' := (List.getElem?_eq_some_iff.1 HX.out).1
          rw [List.take_succ_eq_append_getElem hi', (List.getElem?_eq_some_iff.1 HX.out).2, List.mem_append, List.mem_singleton] at hy
          rcases hy with hy | rfl
          · exact HJ.out y hy
          · omega)
        clear h4
        go_wp2_with fail
        exact ⟨⟨i + 1, by omega, rfl, by trivial, HE⟩, by simp [intO]; omega⟩
    · obtain rfl : i = n := by omega
      have d1 : decide ((i : Int) < i) = false := by simp
      have d1' : decide (i < i) = false := by simp
      have HE : Hid (decide (∀ x ∈ l, x.length ≤ 400) = true) := Lib.hid (decide_eq_true fun x hx => HJ.out x (by rw [List.take_of_length_le (by rw [HL.out]; exact Nat.le_refl _)]; exact hx))
      go_wp2_with fail
      go_ret
      rw [HE.out]
      exact ⟨rfl, rfl⟩
end Go.Proofs
end

section
namespace Go.Proofs
open Go.RowKit NT Go.Shelf Go.Lib Go.Sort
set_option maxRecDepth 100000
theorem add_none (b o i : Nat) : (⟨b, o, none⟩ : Addr).add i = ⟨b, o + i, none⟩ := by unfold Addr.add; split <;> simp_all
def RW (w : World) (a : Option Addr) (l : List Str) : Prop := ∀ j x, l[j]? = some x → ∃ A, a = some A ∧ w.cell? (A.add j) = some (encStr x)
theorem SY.rw {w : World} {b : Nat} {S r : List Str} {c : Nat} (h : SY w b (S ++ r) c) : RW w (some ⟨b, 0, none⟩) S := by
  intro j x hj
  refine ⟨_, rfl, ?_⟩
  rw [add_none, Nat.zero_add]
  exact h.cell (by rw [List.getElem?_append_left (List.getElem?_eq_some_iff.1 hj).1]; exact hj)
theorem Try.words (a b : Option Addr) (n m m' : Nat) (w : World) (l : List Str) (hl : l.length = n) (hn : n ≤ 65536) (ha : RW w a l) (hb : RW w b l) :
    Calls Try.prog 12 #[.slice a n m, .slice b n m'] w fun e w' => e = .returned (.bool true) ∧ Below w.heap.size w w' := by
  have HA := Lib.hid ha
  have HB := Lib.hid hb
  have HL := Lib.hid hl
  clear ha hb hl
  go_enter Try.func12, Try.ntmps12
  go_wp2_with fail
  go_loopw [5] (fun t wr => ∃ i : Nat, i ≤ n ∧ t = .int .i64 i ∧ Hid (Below w.heap.size w wr)) (fun t _ => n - (intO t).toNat)
  case atStart => exact ⟨0, Nat.zero_le _, rfl, Lib.hid (Below.refl _ _)⟩
  case round =>
    obtain ⟨i, hi, rfl, HJ⟩ := hrel
    by_cases hlt : i < n
    · have d1 : decide ((i : Int) < n) = true := decide_eq_true (by omega)
      have d1' : decide (i < n) = true := decide_eq_true hlt
      obtain ⟨x, hx⟩ : ∃ x, l[i]? = some x := ⟨_, List.getElem?_eq_getElem (by rw [HL.out]; exact hlt)⟩
      obtain ⟨X, hX, k0⟩ := HA.out i x hx
      obtain ⟨Y, hY, k1⟩ := HB.out i x hx
      subst hX
      subst hY
      have c0 : wr.cell? (X.add i) = some (encStr x) := (World.cell?_of_block (HJ.out.block _ (block_lt_of_cell k0))).trans k0
      have c1 : wr.cell? (Y.add i) = some (encStr x) := (World.cell?_of_block (HJ.out.block _ (block_lt_of_cell k1))).trans k1
      clear hx k0 k1
      go_upto_region 6 with fail
      refine wp_region_noPanic ?_
      refine wp_region_held_drew (S := (fun W => W.cell? (X.add i) = some (encStr x) ∧ W.cell? (Y.add i) = some (encStr x))) (by kernel_rfl) ?_ (fun hHeld => ?_)
      · exact ⟨c0, c1⟩
      refine wpAnyH_take (i := 0) (oi := { dst := some 17, op := Op.move (Operand.tmp 0), type := 22, pos := "law.go:16", after := #[], guard := none }) (v := ?_) rfl (by kernel_rfl) (by kernel_rfl) (by kernel_rfl) (fun _ _ _ h => h) (Or.inl ⟨by rfl, ?_⟩) (by assumption) ?_
      rotate_left
      · (intro w hSw; (try dsimp only at hSw); go_simp; try with_reducible rfl)
      try simp only [Act.put, List.setIfInBounds_toArray, List.set_cons_zero, List.set_cons_succ]
      refine wpAnyH_take (i := 1) (oi := { dst := some 18, op := Op.move (Operand.tmp 5), type := 3, pos := "law.go:16", after := #[], guard := none }) (v := ?_) rfl (by kernel_rfl) (by kernel_rfl) (by kernel_rfl) (fun _ _ _ h => h) (Or.inl ⟨by rfl, ?_⟩) (by assumption) ?_
      rotate_left
      · (intro w hSw; (try dsimp only at hSw); go_simp; try with_reducible rfl)
      try simp only [Act.put, List.setIfInBounds_toArray, List.set_cons_zero, List.set_cons_succ]
      refine wpAnyH_take (i := 2) (oi := { dst := some 19, op := Op.indexAddr 22 (Operand.tmp 17) (Operand.tmp 18), type := 0, pos := "law.go:16", after := #[{ on := 0, ground := Ground.data }, { on := 1, ground := Ground.data }], guard := none }) (v := ?_) rfl (by kernel_rfl) (by kernel_rfl) (by kernel_rfl) (fun _ _ _ h => h) (Or.inl ⟨by rfl, ?_⟩) (by assumption) ?_
      rotate_left
      · (intro w hSw; (try dsimp only at hSw); go_simp; try with_reducible rfl)
      try simp only [Act.put, List.setIfInBounds_toArray, List.set_cons_zero, List.set_cons_succ]
      refine wpAnyH_take (i := 3) (oi := { dst := some 20, op := Op.load 9 (Operand.tmp 19), type := 9, pos := "law.go:16", after := #[{ on := 2, ground := Ground.data }], guard := none }) (v := ?_) rfl (by kernel_rfl) (by kernel_rfl) (by kernel_rfl) (fun _ _ _ h => h) (Or.inl ⟨by rfl, ?_⟩) (by assumption) ?_
      rotate_left
      · (intro w hSw; (try dsimp only at hSw); go_simp; try with_reducible rfl)
      try simp only [Act.put, List.setIfInBounds_toArray, List.set_cons_zero, List.set_cons_succ]
      refine wpAnyH_take (i := 4) (oi := { dst := some 21, op := Op.move (Operand.tmp 1), type := 22, pos := "law.go:16", after := #[], guard := none }) (v := ?_) rfl (by kernel_rfl) (by kernel_rfl) (by kernel_rfl) (fun _ _ _ h => h) (Or.inl ⟨by rfl, ?_⟩) (by assumption) ?_
      rotate_left
      · (intro w hSw; (try dsimp only at hSw); go_simp; try with_reducible rfl)
      try simp only [Act.put, List.setIfInBounds_toArray, List.set_cons_zero, List.set_cons_succ]
      refine wpAnyH_take (i := 5) (oi := { dst := some 22, op := Op.move (Operand.tmp 5), type := 3, pos := "law.go:16", after := #[], guard := none }) (v := ?_) rfl (by kernel_rfl) (by kernel_rfl) (by kernel_rfl) (fun _ _ _ h => h) (Or.inl ⟨by rfl, ?_⟩) (by assumption) ?_
      rotate_left
      · (intro w hSw; (try dsimp only at hSw); go_simp; try with_reducible rfl)
      try simp only [Act.put, List.setIfInBounds_toArray, List.set_cons_zero, List.set_cons_succ]
      refine wpAnyH_take (i := 6) (oi := { dst := some 23, op := Op.indexAddr 22 (Operand.tmp 21) (Operand.tmp 22), type := 0, pos := "law.go:16", after := #[{ on := 4, ground := Ground.data }, { on := 5, ground := Ground.data }], guard := none }) (v := ?_) rfl (by kernel_rfl) (by kernel_rfl) (by kernel_rfl) (fun _ _ _ h => h) (Or.inl ⟨by rfl, ?_⟩) (by assumption) ?_
      rotate_left
      · (intro w hSw; (try dsimp only at hSw); go_simp; try with_reducible rfl)
      try simp only [Act.put, List.setIfInBounds_toArray, List.set_cons_zero, List.set_cons_succ]
      refine wpAnyH_take (i := 7) (oi := { dst := some 24, op := Op.load 9 (Operand.tmp 23), type := 9, pos := "law.go:16", after := #[{ on := 6, ground := Ground.data }], guard := none }) (v := ?_) rfl (by kernel_rfl) (by kernel_rfl) (by kernel_rfl) (fun _ _ _ h => h) (Or.inl ⟨by rfl, ?_⟩) (by assumption) ?_
      rotate_left
      · (intro w hSw; (try dsimp only at hSw); go_simp; try with_reducible rfl)
      try simp only [Act.put, List.setIfInBounds_toArray, List.set_cons_zero, List.set_cons_succ]
      refine wpAnyH_take (i := 8) (oi := { dst := some 25, op := Op.binOp BinOp.neq 9 (Operand.tmp 20) (Operand.tmp 24) 9, type := 4, pos := "law.go:16", after := #[{ on := 3, ground := Ground.data }, { on := 7, ground := Ground.data }], guard := none }) (v := ?_) rfl (by kernel_rfl) (by kernel_rfl) (by kernel_rfl) (fun _ _ _ h => h) (Or.inl ⟨by rfl, ?_⟩) (by assumption) ?_
      rotate_left
      · (intro w hSw; (try dsimp only at hSw); go_simp; try with_reducible rfl)
      try simp only [Act.put, List.setIfInBounds_toArray, List.set_cons_zero, List.set_cons_succ]
      refine wpAnyH_done (by kernel_rfl) ?_ _
      refine NoPanic.normal ?_
      go_wp2_with fail
      exact ⟨⟨i + 1, by omega, rfl, Lib.hid (HJ.out).drew⟩, by simp [intO]; omega⟩
    · obtain rfl : i = n := by omega
      have d1 : decide ((i : Int) < i) = false := by simp
      have d1' : decide (i < i) = false := by simp
      go_wp2_with fail
      go_ret
      exact ⟨rfl, HJ.out⟩
end Go.Proofs
end

section
namespace Go.Proofs
open Go.RowKit NT Go.Shelf Go.Lib Go.Sort
set_option maxRecDepth 100000
def Em (w : World) (e : Ending) (w' : World) : Prop := (∃ a c, e = .returned (.slice a 0 c)) ∧ Below w.heap.size w w'
theorem Try.clone0 (a : Option Addr) (m : Nat) (w : World) (hm : a = none → m = 0) : Calls Try.prog 28 #[.slice a 0 m] w (Em w) := by
  cases a with
  | none =>
    obtain rfl := hm rfl
    clear hm
    have hnil := Lib.run_eql_slice_nil w 22 9 none 0 0 0 0 Try.underlying22
    go_enter Try.func28, Try.ntmps28
    go_wp2_with fail
    go_ret
    exact ⟨⟨_, _, rfl⟩, Below.refl _ _⟩
  | some A =>
    refine (Try.clone A 0 m w (Nat.zero_le _) [] rfl (by simp)).mono ?_
    rintro e w' ⟨b, c, rfl, _, _, _, h⟩
    exact ⟨⟨_, _, rfl⟩, h⟩
theorem Try.compact0 (a : Option Addr) (c : Nat) (w : World) : Calls Try.prog 15 #[.slice a 0 c] w fun e w' => e = .returned (.slice a 0 c) ∧ w' = w := Any.slices_Compact_string_empty Try.compactA a c w
theorem Try.clip0 (a : Option Addr) (c : Nat) (w : World) : Calls Try.prog 18 #[.slice a 0 c] w (Em w) := by
  go_enter Try.func18, Try.ntmps18
  go_wp2_with fail
  go_ret
  exact ⟨⟨_, _, rfl⟩, Below.refl _ _⟩
set_option maxHeartbeats 1000000 in
theorem Try.sorted0 (a : Option Addr) (m : Nat) (w : World) (hm : a = none → m = 0) : Calls Try.prog 16 #[.slice a 0 m] w (Em w) := by
  go_enter Try.func16, Try.ntmps16
  go_wp2_with fail
  refine wp_scope_once 0 (fun a' wr => Hid (Below w.heap.size w wr) ∧ ∃ (a1 : Option Addr) (c1 : Nat) (u1 u4 u6 u7 u8 u9 u10 u11 u12 u13 u14 u15 u16 u17 u18 u19 u20 u21 u22 u23 u24 u25 u26 u27 u28 u29 u30 u31 u32 u33 u34 u35 u36 u37 u38 u39 u40 u41 u42 u43 u44 u45 u46 u47 u48 u49 u50 u51 u52 u53 u54 u55 u56 : Value), a' = { tmps := #[.slice a 0 m, u1, .slice none 0 0, .slice a1 0 c1, u4, .int .i64 1, u6, u7, u8, u9, u10, u11, u12, u13, u14, u15, u16, u17, u18, u19, u20, u21, u22, u23, u24, u25, u26, u27, u28, u29, u30, u31, u32, u33, u34, u35, u36, u37, u38, u39, u40, u41, u42, u43, u44, u45, u46, u47, u48, u49, u50, u51, u52, u53, u54, u55, u56], defers := [] }) (fun a' _ => 0) rfl ?_ ?_
  · intro hL
    go_upto_region 1 with fail
    refine Code.wp_mono ?_ (?_ : Code.wp Try.prog _ (fun e a2 w2 => e = .normal ∧ ∃ (a1 : Option Addr) (c1 : Nat) (v4 u9 u10 u11 u12 u13 : Value), a2 = ⟨#[.slice a 0 m, undef, .slice none 0 0, .slice a1 0 c1, v4, undef, undef, undef, undef, u9, u10, u11, u12, u13, undef, undef, undef, undef, undef, undef, undef, undef, undef, undef, undef, undef, undef, undef, undef, undef, undef, undef, undef, undef, undef, undef, undef, undef, undef, undef, undef, undef, undef, undef, undef, undef, undef, undef, undef, undef, undef, undef, undef, undef, undef, undef, undef], []⟩ ∧ Hid (Below w.heap.size w w2)) _ _)
    rotate_left
    · skip
      refine wp_region_noPanic ?_
      refine wp_region_held_drew (S := (fun _ => True)) (by kernel_rfl) trivial (fun hHeld => ?_)
      refine wpAnyH_take (i := 0) (oi := { dst := some 9, op := Op.move (Operand.tmp 0), type := 22, pos := "dict.go:27", after := #[], guard := none }) (v := ?_) rfl (by kernel_rfl) (by kernel_rfl) (by kernel_rfl) (fun _ _ _ h => h) (Or.inl ⟨by rfl, ?_⟩) trivial ?_
      rotate_left
      · (intro w hSw; go_simp; try with_reducible rfl)
      try simp only [Act.put, List.setIfInBounds_toArray, List.set_cons_zero, List.set_cons_succ]
      refine wpAnyH_take (i := 2) (oi := { dst := some 11, op := Op.move (Operand.tmp 0), type := 22, pos := "dict.go:27", after := #[], guard := none }) (v := ?_) rfl (by kernel_rfl) (by kernel_rfl) (by kernel_rfl) (fun _ _ _ h => h) (Or.inl ⟨by rfl, ?_⟩) trivial ?_
      rotate_left
      · (intro w hSw; go_simp; try with_reducible rfl)
      try simp only [Act.put, List.setIfInBounds_toArray, List.set_cons_zero, List.set_cons_succ]
      refine wpAnyH_take (i := 3) (oi := { dst := some 12, op := Op.call { callee := Callee.builtin Builtin.len, args := #[Operand.tmp 11], argTypes := #[22] }, type := 3, pos := "dict.go:27", after := #[{ on := 2, ground := Ground.data }], guard := none }) (v := ?_) rfl (by kernel_rfl) (by kernel_rfl) (by kernel_rfl) (fun _ _ _ h => h) (Or.inl ⟨by rfl, ?_⟩) trivial ?_
      rotate_left
      · (intro w hSw; go_simp; try with_reducible rfl)
      try simp only [Act.put, List.setIfInBounds_toArray, List.set_cons_zero, List.set_cons_succ]
      refine wpAnyH_ready (rs := [1, 4]) (by kernel_rfl) (by simp) ?_
      refine AllReadyH.cons (o := { dst := some 10, op := Op.call { callee := Callee.value (Operand.func 28), args := #[Operand.tmp 9], argTypes := #[22] }, type := 22, pos := "dict.go:27", after := #[{ on := 0, ground := Ground.data }], guard := none }) rfl (fun K hK => ?_) ?_
      · skip
        go_simp
        refine (Try.clone0 a m _ hm).mono ?_
        rintro x2 w2 ⟨⟨a1, c1, rfl⟩, hbl1⟩
        refine hK.out _ _ trivial (fun hHeld => ?_)
        clear hK K
        try simp only [Act.put, List.setIfInBounds_toArray, List.set_cons_zero, List.set_cons_succ]
        refine wpAnyH_take (i := 5) (oi := { dst := some 3, op := Op.assign (Operand.tmp 10), type := 22, pos := "dict.go:27", after := #[{ on := 1, ground := Ground.data }, { on := 1, ground := Ground.chain }, { on := 0, ground := Ground.phase }, { on := 1, ground := Ground.phase }, { on := 2, ground := Ground.textOnly Departure.lateStores }, { on := 3, ground := Ground.textOnly Departure.lateStoresUnsure }, { on := 4, ground := Ground.textOnly Departure.lateStoresUnsure }], guard := none }) (v := ?_) rfl (by kernel_rfl) (by kernel_rfl) (by kernel_rfl) (fun _ _ _ h => h) (Or.inl ⟨by rfl, ?_⟩) trivial ?_
        rotate_left
        · (intro w hSw; go_simp; try with_reducible rfl)
        try simp only [Act.put, List.setIfInBounds_toArray, List.set_cons_zero, List.set_cons_succ]
        refine wpAnyH_ready (rs := [4]) (by kernel_rfl) (by simp) ?_
        refine AllReadyH.cons (o := { dst := some 13, op := Op.makeSlice 22 (Operand.tmp 12) (Operand.tmp 12), type := 22, pos := "dict.go:27", after := #[{ on := 3, ground := Ground.data }, { on := 3, ground := Ground.data }], guard := none }) rfl (fun K hK => ?_) ?_
        · skip
          refine oper_mk _ _ rfl 0 (by omega) rfl rfl ?_
          intro w3 hs2 hbl2 hlt2
          refine hK.out _ _ trivial (fun hHeld => ?_)
          clear hK K
          try simp only [Act.put, List.setIfInBounds_toArray, List.set_cons_zero, List.set_cons_succ]
          refine wpAnyH_take (i := 6) (oi := { dst := some 4, op := Op.assign (Operand.tmp 13), type := 22, pos := "dict.go:27", after := #[{ on := 4, ground := Ground.data }, { on := 5, ground := Ground.chain }, { on := 0, ground := Ground.phase }, { on := 1, ground := Ground.phase }, { on := 2, ground := Ground.phase }, { on := 3, ground := Ground.phase }, { on := 4, ground := Ground.phase }, { on := 5, ground := Ground.phase }], guard := none }) (v := ?_) rfl (by kernel_rfl) (by kernel_rfl) (by kernel_rfl) (fun _ _ _ h => h) (Or.inl ⟨by rfl, ?_⟩) trivial ?_
          rotate_left
          · (intro w hSw; go_simp; try with_reducible rfl)
          try simp only [Act.put, List.setIfInBounds_toArray, List.set_cons_zero, List.set_cons_succ]
          refine wpAnyH_done (by kernel_rfl) ?_ _
          refine NoPanic.normal ?_
          refine ⟨rfl, _, _, _, _, _, _, _, _, rfl, Lib.hid ?_⟩
          exact ((Below.refl _ w).drew).trans (hbl1.trans (hbl2.mono hbl1.size))
        exact AllReadyH.nil
      refine AllReadyH.cons (o := { dst := some 13, op := Op.makeSlice 22 (Operand.tmp 12) (Operand.tmp 12), type := 22, pos := "dict.go:27", after := #[{ on := 3, ground := Ground.data }, { on := 3, ground := Ground.data }], guard := none }) rfl (fun K hK => ?_) ?_
      · skip
        refine oper_mk _ _ rfl 0 (by omega) rfl rfl ?_
        intro w3 hs2 hbl2 hlt2
        refine hK.out _ _ trivial (fun hHeld => ?_)
        clear hK K
        try simp only [Act.put, List.setIfInBounds_toArray, List.set_cons_zero, List.set_cons_succ]
        refine wpAnyH_ready (rs := [1]) (by kernel_rfl) (by simp) ?_
        refine AllReadyH.cons (o := { dst := some 10, op := Op.call { callee := Callee.value (Operand.func 28), args := #[Operand.tmp 9], argTypes := #[22] }, type := 22, pos := "dict.go:27", after := #[{ on := 0, ground := Ground.data }], guard := none }) rfl (fun K hK => ?_) ?_
        · skip
          go_simp
          refine (Try.clone0 a m _ hm).mono ?_
          rintro x2 w2 ⟨⟨a1, c1, rfl⟩, hbl1⟩
          refine hK.out _ _ trivial (fun hHeld => ?_)
          clear hK K
          try simp only [Act.put, List.setIfInBounds_toArray, List.set_cons_zero, List.set_cons_succ]
          refine wpAnyH_take (i := 5) (oi := { dst := some 3, op := Op.assign (Operand.tmp 10), type := 22, pos := "dict.go:27", after := #[{ on := 1, ground := Ground.data }, { on := 1, ground := Ground.chain }, { on := 0, ground := Ground.phase }, { on := 1, ground := Ground.phase }, { on := 2, ground := Ground.textOnly Departure.lateStores }, { on := 3, ground := Ground.textOnly Departure.lateStoresUnsure }, { on := 4, ground := Ground.textOnly Departure.lateStoresUnsure }], guard := none }) (v := ?_) rfl (by kernel_rfl) (by kernel_rfl) (by kernel_rfl) (fun _ _ _ h => h) (Or.inl ⟨by rfl, ?_⟩) trivial ?_
          rotate_left
          · (intro w hSw; go_simp; try with_reducible rfl)
          try simp only [Act.put, List.setIfInBounds_toArray, List.set_cons_zero, List.set_cons_succ]
          refine wpAnyH_take (i := 6) (oi := { dst := some 4, op := Op.assign (Operand.tmp 13), type := 22, pos := "dict.go:27", after := #[{ on := 4, ground := Ground.data }, { on := 5, ground := Ground.chain }, { on := 0, ground := Ground.phase }, { on := 1, ground := Ground.phase }, { on := 2, ground := Ground.phase }, { on := 3, ground := Ground.phase }, { on := 4, ground := Ground.phase }, { on := 5, ground := Ground.phase }], guard := none }) (v := ?_) rfl (by kernel_rfl) (by kernel_rfl) (by kernel_rfl) (fun _ _ _ h => h) (Or.inl ⟨by rfl, ?_⟩) trivial ?_
          rotate_left
          · (intro w hSw; go_simp; try with_reducible rfl)
          try simp only [Act.put, List.setIfInBounds_toArray, List.set_cons_zero, List.set_cons_succ]
          refine wpAnyH_done (by kernel_rfl) ?_ _
          refine NoPanic.normal ?_
          refine ⟨rfl, _, _, _, _, _, _, _, _, rfl, Lib.hid ?_⟩
          exact ((Below.refl _ w).drew).trans (hbl2.trans (hbl1.mono hbl2.size))
        exact AllReadyH.nil
      exact AllReadyH.nil
    rintro e a2 w2 ⟨rfl, a1, c1, v4, u9, u10, u11, u12, u13, rfl, HS⟩
    go_wp2_with (refine wp_label ?_; rename_i Q0 K0 hK; refine hK _ _ (hL _ _ ?_); exact ⟨HS, a1, c1, _, _, _, _, _, _, _, _, _, _, _, _, _, _, _, _, _, _, _, _, _, _, _, _, _, _, _, _, _, _, _, _, _, _, _, _, _, _, _, _, _, _, _, _, _, _, _, _, _, _, _, _, _, rfl⟩)
  · rintro a' wr ⟨HS, a1, c1, u1, u4, u6, u7, u8, u9, u10, u11, u12, u13, u14, u15, u16, u17, u18, u19, u20, u21, u22, u23, u24, u25, u26, u27, u28, u29, u30, u31, u32, u33, u34, u35, u36, u37, u38, u39, u40, u41, u42, u43, u44, u45, u46, u47, u48, u49, u50, u51, u52, u53, u54, u55, u56, rfl⟩
    go_wp2_with fail
    simp only [Exit.jump]
    go_returns
    exact ⟨⟨_, _, rfl⟩, HS.out⟩
end Go.Proofs
end

section
namespace Go.Proofs
open Go.RowKit NT Go.Shelf Go.Lib Go.Sort
set_option maxRecDepth 100000
namespace NT
theorem lt_asymm {a b : Str} (h : lt a b = true) (h' : lt b a = true) : False := by
  rw [asymm h] at h'; cases h'
theorem sup_unique : ∀ {a b : List Str}, Sup a → Sup b → (∀ x, x ∈ a ↔ x ∈ b) → a = b
  | [], [], _, _, _ => rfl
  | [], y :: b, _, _, h => absurd ((h y).2 (List.mem_cons_self ..)) (by simp)
  | x :: a, [], _, _, h => absurd ((h x).1 (List.mem_cons_self ..)) (by simp)
  | x :: a, y :: b, ha, hb, h => by
    have ha' := List.pairwise_cons.1 ha
    have hb' := List.pairwise_cons.1 hb
    have hxy : x = y := by
      have h1 := (h x).1 (List.mem_cons_self ..)
      have h2 := (h y).2 (List.mem_cons_self ..)
      rcases List.mem_cons.1 h1 with e | h1
      · exact e
      · rcases List.mem_cons.1 h2 with e | h2
        · exact e.symm
        · exact (lt_asymm (ha'.1 y h2) (hb'.1 x h1)).elim
    subst hxy
    congr 1
    refine sup_unique ha'.2 hb'.2 fun z => ?_
    have hz := h z
    rw [List.mem_cons, List.mem_cons] at hz
    constructor
    · intro hza
      rcases hz.1 (.inr hza) with e | q
      · have := ha'.1 z hza
        rw [e, lt_irrefl] at this; cases this
      · exact q
    · intro hzb
      rcases hz.2 (.inr hzb) with e | q
      · have := hb'.1 z hzb
        rw [e, lt_irrefl] at this; cases this
      · exact q
end NT
theorem BLD.same {w w1 w2 : World} {w' : World} {n n' : Nat} {l l' : List Str} {b k c pb b' k' c' pb' : Nat} {S r S' r' : List Str} (h : BLD w w1 n l b k c pb S r) (h' : BLD w' w2 n' l' b' k' c' pb' S' r') (hm : ∀ x, x ∈ l ↔ x ∈ l') : S = S' :=
  sup_unique h.up h'.up fun x => (h.mem x).trans ((hm x).trans (h'.mem x).symm)
theorem BLD.below {w w1 w2 : World} {n : Nat} {l : List Str} {b k c pb : Nat} {S r : List Str} (h : BLD w w1 n l b k c pb S r) (hb : Below w1.heap.size w1 w2) : BLD w w2 n l b k c pb S r :=
  ⟨h.sy.congr (hb.block _ h.sy.lt), h.uy.congr (hb.block _ h.uy.lt), h.ne, h.g1, h.g2, h.kl, h.up, h.mem, h.bel.trans (hb.mono h.bel.size), h.kn⟩
theorem RW.below {w w1 : World} {a : Option Addr} {l : List Str} (h : RW w a l) (hb : Below w.heap.size w w1) : RW w1 a l := by
  intro j x hx
  obtain ⟨A, hA, hc⟩ := h j x hx
  exact ⟨A, hA, (World.cell?_of_block (hb.block _ (block_lt_of_cell hc))).trans hc⟩
theorem RW.cells {w : World} {A : Addr} {l : List Str} (h : RW w (some A) l) : ∀ j u, (l.map encStr)[j]? = some u → w.cell? (A.add j) = some u := by
  intro j u hu
  rw [List.getElem?_map] at hu
  obtain ⟨x, hx, rfl⟩ := Option.map_eq_some_iff.1 hu
  obtain ⟨B, hB, hc⟩ := h j x hx
  cases hB
  exact hc
end Go.Proofs
end
