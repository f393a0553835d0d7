/-
  Texts of a proof over the translated program: proved evaluators and walks, part 17 of 19.
-/
import Derived.Test.YtmpnelihfeiimaaPartP16
import Derived.Below
import Derived.Deep.Cut
import Derived.Deep.RegionHeld3
import Derived.Deep.RegionLaw
import Derived.Deep.RegionLawGrows
import Derived.Deep.RegionWith
import Derived.Great.BuildSlice
import Derived.Handy
import Derived.IntWalk
import Derived.KernelRfl
import Derived.Laws.AppendOwn
import Derived.Laws.BitsLemmas
import Derived.Laws.BytesArg
import Derived.Laws.BytesString
import Derived.Laws.Closers25b
import Derived.Laws.CopyOwn
import Derived.Laws.IdiomStrings
import Derived.Laws.MakeOwn
import Derived.Lib.AppendStr
import Derived.Lib.Hide
import Derived.Lib.SlBytesRow
import Derived.LoopTactic
import Derived.Orders
import Derived.Outline
import Derived.OwnWalk
import Derived.Scope
import Derived.ScopeJumps
import Derived.Shelf.Slices.CompactS
import Derived.Shelf.Spec.SearchS
import Derived.Sort.EncStr
import Derived.Sort.Walk0
import Derived.Test.YtmpnelihfeiimaaProg
import Derived.WalkKit
import Derived.WalkMore
import Derived.WalkSpells
set_option linter.unusedVariables false
set_option linter.unusedSimpArgs false
set_option linter.unusedSectionVars false
set_option linter.unnecessarySimpa false
section
namespace Go.Proofs
open Go.RowKit NT Go.Shelf Go.Lib Go.Sort
set_option maxRecDepth 100000
theorem own_below {w w' : World} {B : Nat} {e : TypeId} {size : Nat} {v : Value} {n : Nat} {xs : List Value} (h : w.ownsRow B e size v n xs) (hb : Below w.heap.size w w') : w'.ownsRow B e size v n xs := by
  refine ⟨h.1, ?_⟩
  rcases h.2 with q | ⟨g, cap, cur, rfl, q, hg, r⟩
  · exact .inl q
  · exact .inr ⟨g, cap, cur, rfl, q, (hb.block g (by by_cases hx : g < w.heap.size; exact hx; rw [Array.getElem?_eq_none (by omega)] at hg; cases hg)).trans hg, r⟩
theorem OB.below {w w' : World} {B : Nat} {v : Value} {l : List UInt8} (h : OB w B v l) (hb : Below w.heap.size w w') : OB w' B v l := own_below h hb
theorem OB.mono {w : World} {B B' : Nat} {v : Value} {l : List UInt8} (h : OB w B v l) (hb : B' ≤ B) : OB w B' v l := by
  refine ⟨h.1, ?_⟩
  rcases h.2 with q | ⟨g, cap, cur, rfl, q, r⟩
  · exact .inl q
  · exact .inr ⟨g, cap, cur, rfl, by omega, r⟩
theorem wpList_ob_app {ops : Array Oper} {rest : List Oper} {o : Oper} {a : Act} {w : World} {Q : Exit → Act → World → Prop} (hgd : o.guard = none) (s x : Operand)
    (ho : o.op = .call { callee := .builtin .append, args := #[s, x], argTypes := #[28, 28] }) (hty : o.type = 28)
    (w0 : World) (v : Value) (l l2 : List UInt8) (hs : a.eval s = v) (hown : OB w w0.heap.size v l) (X : Addr) (m c : Nat) (hx : a.eval x = .slice (some X) m c) (hD : DI w (some X) m c l2)
    (hsum : l.length + l2.length ≤ 16777216) (hb : Below w0.heap.size w0 w)
    (h : ∀ v' w', OB w' w0.heap.size v' (l ++ l2) → Below w0.heap.size w0 w' → w.grownBy w' v.ownBlock → wpList Try.prog ops Q rest (a.put o.dst v') w') : wpList Try.prog ops Q (o :: rest) a w := by
  obtain ⟨ii, hi0, hz0, hz1, hz2⟩ := info5
  have hm := hD.len
  have hown' : w.ownsRow w0.heap.size 5 1 v l.length (l.map u8v) := hown
  refine wpList_append_own w hgd s x 28 ho w0.heap.size 5 ii (.int .u8 0) 1 1 Try.underlying28 hi0 hz0 hz1 hz2 rfl (by decide) v l.length (l.map u8v) hs hown' X m c (l2.map u8v) hx (by rw [List.length_map, hm, Nat.mul_one]) ?_ (u8v_one _) (by unfold maxLen; omega) (by omega) hb.size ?_
  · intro j u hj
    rw [List.getElem?_map] at hj
    obtain ⟨y, hy, rfl⟩ := Option.map_eq_some_iff.1 hj
    obtain ⟨Y, hY, hc⟩ := hD.at' j y hy
    cases hY
    exact hc
  · intro v' w' h1 h2 _
    refine h v' w' ?_ (hb.grown h2 hb.size (fun k hk => (hown'.lt k hk).1)) h2
    unfold OB
    rw [List.length_append, List.map_append, hm]
    exact h1
theorem DI.grown {w w' : World} {b n c : Nat} {l : List UInt8} {r : Option Nat} (h : DI w (some ⟨b, 0, none⟩) n c l) (hg : w.grownBy w' r) (hr : r ≠ some b) : DI w' (some ⟨b, 0, none⟩) n c l :=
  ⟨h.len, h.le, h.max, fun j x hx => by
    obtain ⟨X, e, hc⟩ := h.at' j x hx
    cases e
    rw [Addr.add_lit, Nat.zero_add] at hc
    refine ⟨_, rfl, ?_⟩
    rw [Addr.add_lit, Nat.zero_add]
    exact (World.cell?_of_block (hg.block _ (block_lt_of_cell hc) (Ne.symm hr))).trans hc⟩
theorem strCells_u8v (x : List UInt8) : strCells (strOf x) = x.map u8v := by
  unfold strCells strOf
  rfl
theorem wpList_ob_str {ops : Array Oper} {rest : List Oper} {o : Oper} {a : Act} {w : World} {Q : Exit → Act → World → Prop} (hgd : o.guard = none) (s x : Operand)
    (ho : o.op = .call { callee := .builtin .append, args := #[s, x], argTypes := #[28, 9] }) (hty : o.type = 28)
    (w0 : World) (v : Value) (l l2 : List UInt8) (hs : a.eval s = v) (hown : OB w w0.heap.size v l) (hx : a.eval x = encStr l2)
    (hsum : l.length + l2.length ≤ 16777216) (hb : Below w0.heap.size w0 w)
    (h : ∀ v' w', OB w' w0.heap.size v' (l ++ l2) → Below w0.heap.size w0 w' → wpList Try.prog ops Q rest (a.put o.dst v') w') : wpList Try.prog ops Q (o :: rest) a w := by
  obtain ⟨ii, hi0, hz0, hz1, hz2⟩ := info5
  have hown' : w.ownsRow w0.heap.size 5 1 v l.length (l.map u8v) := hown
  have hsz : (strOf l2).size = l2.length := strOf_size l2
  refine wpList_append_own_string w hgd s x 28 9 ho w0.heap.size 5 ii Try.underlying28 Try.underlying9 hi0 hz0 hz1 hz2 v l.length (l.map u8v) hs hown' (strOf l2) hx (by rw [hsz]; unfold maxLen; omega) (by rw [hsz]; omega) hb.size ?_
  intro v' w' h1 h2 _
  refine h v' w' ?_ (hb.grown h2 hb.size (fun k hk => (hown'.lt k hk).1))
  unfold OB
  rw [List.length_append, List.map_append]
  rw [hsz, strCells_u8v] at h1
  exact h1
theorem DU.nil (w : World) (A : Option Addr) : DU w A 0 0 [] := ⟨rfl, Nat.le_refl _, Nat.zero_le _, fun j x h => by simp at h⟩
theorem Try.build00 (a : Option Addr) (m : Nat) (w : World) (hm : a = none → m = 0) :
    Calls Try.prog 8 #[.slice a 0 m] w fun e w' => (∃ a1 c1 b, e = .returned (.tuple #[.slice a1 0 c1, .slice b 0 0])) ∧ Below w.heap.size w w' := by
  obtain ⟨i39, hi39, hz0, hz1, hz2⟩ := info_parts Try.info39
  go_enter Try.func8, Try.ntmps8
  go_wp2_with fail
  refine (Try.sorted0 a m w hm).mono ?_
  rintro e1 w1 ⟨⟨a1, c1, rfl⟩, hb1⟩
  go_wp2_with fail
  refine (Try.compact0 a1 c1 w1).mono ?_
  rintro e2 w2 ⟨rfl, rfl⟩
  go_wp2_with (at_make; refine wpList_mk _ rfl _ _ 25 rfl 39 i39 (.int .u64 0) Try.underlying25 hi39 hz0 hz1 (by omega) rfl _ _ _ _ 0 0 rfl rfl (by omega) (by omega) (Nat.le_refl _) (by omega) ?_)
  have HB0 := Lib.hid hb1
  generalize hw3 : w2.alloc _ = w3
  have HB : Hid (Below w.heap.size w w3) := Lib.hid (by rw [← hw3]; exact HB0.out.alloc HB0.out.size _)
  clear hw3 hb1 HB0
  go_loopw [18] (fun t wr => t = .int .i64 0 ∧ Hid (Below w.heap.size w wr)) (fun t _ => 0)
  case atStart => exact ⟨rfl, HB⟩
  case round =>
    obtain ⟨rfl, HJ⟩ := hrel
    go_wp2_with fail
    refine (Try.clip0 a1 c1 wr).mono ?_
    rintro e4 w4 ⟨⟨a4, c4, rfl⟩, hb4⟩
    have HE := Lib.hid (HJ.out.trans (hb4.mono HJ.out.size))
    clear hb4
    go_wp2_with fail
    go_ret2
    exact ⟨⟨_, _, _, rfl⟩, HE.out⟩
structure Wds (l S : List Str) : Prop where
  up : Sup S
  mem : ∀ x, x ∈ S ↔ x ∈ l
structure BU (w w' : World) (n : Nat) (l S : List Str) (k : Nat) (A B : Option Addr) (c c' : Nat) : Prop where
  kl : S.length = k
  kn : k ≤ n
  rw : RW w' A S
  du : DU w' B n c' (l.map (S.idxOf ·))
  bel : Below w.heap.size w w'
theorem Try.buildU (a : Option Addr) (n m : Nat) (w : World) (hn : n ≤ 65536) (hm : a = none → m = 0) (l S : List Str) (hl : l.length = n) (ha : RW w a l) (hS : Wds l S) :
    Calls Try.prog 8 #[.slice a n m] w fun e w' => ∃ k A B c c', e = .returned (.tuple #[.slice A k c, .slice B n c']) ∧ BU w w' n l S k A B c c' := by
  by_cases h0 : n = 0
  · subst h0
    obtain rfl := List.eq_nil_of_length_eq_zero hl
    have hS0 : S = [] := by
      cases S with
      | nil => rfl
      | cons x r => exact absurd ((hS.mem x).1 (List.mem_cons_self ..)) (by simp)
    subst hS0
    refine (Try.build00 a m w hm).mono ?_
    rintro e w' ⟨⟨a1, c1, b, rfl⟩, hb⟩
    exact ⟨0, a1, b, c1, 0, rfl, rfl, Nat.le_refl _, fun j x h => by simp at h, DU.nil w' b, hb⟩
  · obtain ⟨x, hx⟩ : ∃ x, l[0]? = some x := ⟨_, List.getElem?_eq_getElem (by omega)⟩
    obtain ⟨A, rfl, _⟩ := ha 0 x hx
    refine (Try.build A n m w (by omega) hn l hl ha.cells).mono ?_
    rintro e w' ⟨b, k, c, pb, S', r, rfl, hB⟩
    have hSS : S' = S := sup_unique hB.up hS.up fun x => (hB.mem x).trans (hS.mem x).symm
    subst hSS
    refine ⟨k, some ⟨b, 0, none⟩, some ⟨pb, 0, none⟩, k, n, rfl, hB.kl, hB.kn, hB.sy.rw, ⟨by rw [List.length_map, hl], Nat.le_refl _, by unfold maxLen; omega, fun j x hj => ⟨_, rfl, ?_⟩⟩, hB.bel⟩
    rw [add_none, Nat.zero_add]
    exact hB.uy.cell hj
end Go.Proofs
end

section
namespace Go.Proofs
open Go.RowKit NT Go.Shelf Go.Lib Go.Sort
set_option maxRecDepth 100000
def encS (S : List Str) : List UInt8 := S.flatMap (fun x => encN x.length ++ x)
def plc (l S : List Str) : List Nat := l.map (S.idxOf ·)
def dk (l S : List Str) : List UInt8 := encN S.length ++ encS S ++ [UInt8.ofNat (pkw (plc l S))] ++ pkd (plc l S)
theorem encN_len (u : Nat) : (encN u).length ≤ 10 := encF_len 10 u
theorem encS_app (a b : List Str) : encS (a ++ b) = encS a ++ encS b := by simp [encS]
theorem encS_one (x : Str) : encS [x] = encN x.length ++ x := by simp [encS]
theorem encS_len : ∀ (S : List Str), (∀ x ∈ S, x.length ≤ 255) → (encS S).length ≤ 265 * S.length
  | [], _ => by simp [encS]
  | x :: S, h => by
    have := encS_len S fun y hy => h y (List.mem_cons_of_mem _ hy)
    have h1 := h x (List.mem_cons_self ..)
    have h2 := encN_len x.length
    rw [show x :: S = [x] ++ S from rfl, encS_app, encS_one]
    simp only [List.length_append, List.length_cons, List.length_nil]
    omega
theorem plc_u64 {l S : List Str} (hS : S.length ≤ 65536) : U64 (plc l S) := fun x hx => by
  obtain ⟨y, _, rfl⟩ := List.mem_map.1 hx
  have := List.idxOf_le_length (a := y) (l := S)
  omega
theorem OB.cons {w : World} {B : Nat} {v : Value} {x : UInt8} {l : List UInt8} (h : OB w B v (x :: l)) : ∃ X c, v = .slice (some X) (x :: l).length c ∧ DI w (some X) (x :: l).length c (x :: l) := by
  obtain ⟨A, c, rfl, hD⟩ := h.di
  obtain ⟨X, rfl, _⟩ := hD.at' 0 x rfl
  exact ⟨X, c, rfl, hD⟩
theorem encN_cons (u : Nat) : ∃ x r, encN u = x :: r := by
  by_cases h : u < 128
  · exact ⟨_, _, encF_last 9 u h⟩
  · exact ⟨_, _, encF_more 9 u h⟩
theorem OB.enc {w : World} {B : Nat} {v : Value} {u : Nat} (h : OB w B v (encN u)) : ∃ X n c, v = .slice (some X) n c ∧ DI w (some X) n c (encN u) := by
  obtain ⟨x, r, he⟩ := encN_cons u
  rw [he] at h ⊢
  obtain ⟨X, c, rfl, hD⟩ := h.cons
  exact ⟨X, _, c, rfl, hD⟩
theorem encS_step {S : List Str} {i : Nat} {x : Str} (hx : S[i]? = some x) : encS (S.take (i + 1)) = encS (S.take i) ++ encN x.length ++ x := by
  rw [List.take_add_one, hx, encS_app, show (some x).toList = [x] from rfl, encS_one, List.append_assoc]
theorem DI.nil0 (w : World) : DI w none 0 0 [] := ⟨rfl, Nat.le_refl _, Nat.zero_le _, fun j x h => by simp at h⟩
def DPut (w : World) (l S : List Str) (e : Ending) (w' : World) : Prop :=
  Below w.heap.size w w' ∧ ((l.length ≤ 4096 ∧ (∀ x ∈ S, x.length ≤ 255) ∧ ∃ v, e = .returned (.tuple #[v, .int .i64 0]) ∧ OB w' w.heap.size v (dk l S)) ∨
    (¬ (l.length ≤ 4096 ∧ ∀ x ∈ S, x.length ≤ 255) ∧ e = .returned (.tuple #[.slice none 0 0, .int .i64 4])))
set_option maxHeartbeats 4000000 in
theorem Try.dput (a : Option Addr) (n m : Nat) (w : World) (hm : a = none → m = 0) (l S : List Str) (hl : l.length = n) (ha : RW w a l) (hS : Wds l S) (hn : n ≤ 65536) :
    Calls Try.prog 10 #[.slice a n m] w (DPut w l S) := by
  have HA := Lib.hid ha
  have HL := Lib.hid hl
  have HS := Lib.hid hS
  by_cases h4 : 4096 < n
  · have d1 : decide ((4096 : Int) < n) = true := decide_eq_true (by omega)
    have d1' : decide (4096 < n) = true := decide_eq_true h4
    clear ha hl hS
    go_enter Try.func10, Try.ntmps10
    go_wp2_with fail
    go_ret2
    exact ⟨Below.refl _ w, .inr ⟨fun h => by have := HL.out; omega, rfl⟩⟩
  have d1 : decide ((4096 : Int) < n) = false := decide_eq_false (by omega)
  have d1' : decide (4096 < n) = false := decide_eq_false h4
  clear ha hl hS
  go_enter Try.func10, Try.ntmps10
  go_wp2_with fail
  refine (Try.buildU a n m w (by omega) hm l S HL.out HA.out HS.out).mono ?_
  rintro e1 w1 ⟨k, A, B, c, c', rfl, hB⟩
  have HB := Lib.hid hB
  have hkn := hB.kn
  have s1 : IntKind.u64.wrap (k : Int) = k := wrapu (by omega) (by omega)
  clear hB
  go_wp2_with fail
  refine (Try.put w1 (DI.nil0 w1) (by omega) k (by omega)).mono ?_
  rintro e2 w2 ⟨v2, rfl, ho2, hb2⟩
  rw [List.nil_append] at ho2
  have HO2 := Lib.hid ho2
  have HB2 := Lib.hid hb2
  clear ho2 hb2
  go_wp2_with fail
  go_loopw [6, 26] (fun t6 t26 wr => ∃ i : Nat, i ≤ k ∧ t26 = .int .i64 i ∧ Hid (OB wr w1.heap.size t6 (encN k ++ encS (S.take i))) ∧ Hid (Below w1.heap.size w1 wr) ∧ Hid (∀ x ∈ S.take i, x.length ≤ 255)) (fun _ t26 _ => k - (intO t26).toNat)
  case atStart => exact ⟨0, Nat.zero_le _, rfl, Lib.hid (by rw [List.take_zero, show encS [] = [] from rfl, List.append_nil]; exact HO2.out), HB2, Lib.hid (by simp)⟩
  case round =>
    obtain ⟨i, hi, rfl, HO, HW, HX⟩ := hrel
    by_cases hlt : i < k
    · have d2 : decide ((i : Int) < k) = true := decide_eq_true (by omega)
      have d2' : decide (i < k) = true := decide_eq_true hlt
      obtain ⟨x, hx⟩ : ∃ x, S[i]? = some x := ⟨_, List.getElem?_eq_getElem (by rw [HB.out.kl]; exact hlt)⟩
      obtain ⟨X, hX, k0⟩ := (HB.out.rw.below HW.out) i x hx
      subst hX
      have HXX := Lib.hid hx
      have HE := Lib.hid (encS_step hx)
      clear hx
      by_cases h255 : 255 < x.length
      · have d3 : decide ((255 : Int) < x.length) = true := decide_eq_true (by omega)
        have d3' : decide (255 < x.length) = true := decide_eq_true h255
        have HN : Hid (¬ (l.length ≤ 4096 ∧ ∀ x ∈ S, x.length ≤ 255)) := Lib.hid fun q => by have := q.2 x (List.mem_of_getElem? HXX.out); omega
        clear h255
        go_wp2_with fail
        go_ret2
        exact ⟨HB.out.bel.trans (HW.out.mono HB.out.bel.size), .inr ⟨HN.out, rfl⟩⟩
      · have d3 : decide ((255 : Int) < x.length) = false := decide_eq_false (by omega)
        have d3' : decide (255 < x.length) = false := decide_eq_false h255
        have s2 : IntKind.u64.wrap (x.length : Int) = x.length := wrapu (by omega) (by omega)
        have HX2 : Hid (∀ y ∈ S.take (i + 1), y.length ≤ 255) := Lib.hid (by
          intro y hy
          rw [List.take_add_one, HXX.out, List.mem_append] at hy
          rcases hy with hy | hy
          · exact HX.out y hy
          · simp at hy; subst hy; omega)
        have HLEN : Hid ((encN k ++ encS (S.take i)).length ≤ 1200000) := Lib.hid (by
          have h1 := encN_len k
          have h2 := encS_len _ HX.out
          rw [List.length_take] at h2
          rw [List.length_append]
          omega)
        obtain ⟨xl, hxl⟩ : ∃ xl, x.length = xl := ⟨_, rfl⟩
        have HXL := Lib.hid hxl
        rw [hxl] at s2 d3 d3' h255
        go_wp2_with (rw [HXL.out])
        refine (Try.put wr (DI.nil0 wr) (by omega) xl (by omega)).mono ?_
        rintro e3 w3 ⟨v3, rfl, ho3, hb3⟩
        rw [List.nil_append] at ho3
        obtain ⟨X3, n3, c3, rfl, hd3⟩ := ho3.enc
        have HD3 := Lib.hid hd3
        have HB3 := Lib.hid (HW.out.trans (hb3.mono HW.out.size))
        have HO3 := Lib.hid (HO.out.below hb3)
        clear ho3 hb3 hd3
        go_wp2_with (refine wpList_ob_app rfl (.tmp 33) (.tmp 37) rfl rfl w1 _ _ _ rfl HO3.out X3 n3 c3 rfl HD3.out ?a1 HB3.out ?a2)
        case a1 => have := HLEN.out; have := encN_len xl; omega
        intro v4 w4 ho4 hb4 _
        have HO4 := Lib.hid ho4
        have HB4 := Lib.hid hb4
        clear ho4 hb4
        go_wp2_with (refine wpList_ob_str rfl (.tmp 38) (.tmp 39) rfl rfl w1 _ _ _ rfl HO4.out rfl ?b1 HB4.out ?b2)
        case b1 =>
          have h1 := HLEN.out; have h2 := encN_len xl; have h3 := HXL.out
          rw [List.length_append] at h1 ⊢
          rw [List.length_append]
          omega
        intro v5 w5 ho5 hb5
        have HO5 : Hid (OB w5 w1.heap.size v5 (encN k ++ encS (S.take (i + 1)))) := Lib.hid (by rw [HE.out, HXL.out]; simpa [List.append_assoc] using ho5)
        have HB5 := Lib.hid hb5
        clear ho5 hb5
        go_wp2_with fail
        exact ⟨⟨i + 1, by omega, rfl, HO5, HB5, HX2⟩, by simp [intO]; omega⟩
    · obtain rfl : i = k := by omega
      have d2 : decide ((i : Int) < i) = false := by simp
      have d2' : decide (i < i) = false := by simp
      have HTK : Hid (S.take i = S) := Lib.hid (List.take_of_length_le (by rw [HB.out.kl]; exact Nat.le_refl _))
      rw [HTK.out] at HO HX
      have HDU := Lib.hid (HB.out.du.below HW.out)
      have hU : U64 (l.map (S.idxOf ·)) := plc_u64 (by rw [HB.out.kl]; omega)
      have HU := Lib.hid hU
      have hw64 := pkw_le hU
      have hpl := pkd_len (plc l S)
      obtain ⟨wd, hwd⟩ : ∃ wd, pkw (plc l S) = wd := ⟨_, rfl⟩
      have HWD := Lib.hid hwd
      have hw64' : wd ≤ 64 := by rw [← hwd]; exact hw64
      clear hU hw64 hwd
      go_wp2_with fail
      refine (Try.width _ B n c' _ HDU.out HU.out (by omega)).mono ?_
      rintro e3 w3 ⟨rfl, hb3⟩
      have HDU3 := Lib.hid (HDU.out.below hb3)
      have HO3 := Lib.hid (HO.out.below hb3)
      have HW3 := Lib.hid (HW.out.trans (hb3.mono HW.out.size))
      rw [show (pkw (l.map (S.idxOf ·)) : Int) = (wd : Int) by rw [← HWD.out]; rfl]
      clear hb3 HDU HO HW
      go_wp2_with fail
      refine (show Calls Try.prog 22 #[.slice B n c', .int .i64 wd] w3 (PkP w3 (plc l S)) by rw [← HWD.out]; exact Try.pput w3 B n c' _ HDU3.out HU.out (by omega)).mono ?_
      rintro e4 w4 ⟨b4, c4, rfl, hb4, hd4, hbl4⟩
      have HD4 := Lib.hid hd4
      have HG4 : Hid (∀ k, Value.ownBlock u6 = some k → k ≠ b4) := Lib.hid fun k hk => by have := ((show w3.ownsRow w1.heap.size 5 1 _ _ _ from HO3.out).lt k hk).2; omega
      have HO4 := Lib.hid (HO3.out.below hbl4)
      have HW4 := Lib.hid (HW3.out.trans (hbl4.mono HW3.out.size))
      obtain ⟨pl, hpl'⟩ : ∃ pl, (pkd (plc l S)).length = pl := ⟨_, rfl⟩
      have HPL := Lib.hid hpl'
      rw [hpl'] at HD4 hpl
      rw [hpl']
      have s3 : IntKind.u8.wrap (wd : Int) = wd := by rw [IntKind.wrap_u8]; omega
      clear hb4 hd4 hbl4 HO3 HW3 HDU3 hpl'
      have OA := Lib.hid ((show w4.ownsRow w1.heap.size 5 1 _ _ _ from HO4.out).alloc (.cells #[.int .u8 (wd : Int)] 5))
      have BA := Lib.hid (HW4.out.alloc HW4.out.size (.cells #[.int .u8 (wd : Int)] 5))
      have DA := Lib.hid (HD4.out.below ((Below.refl _ w4).alloc (Nat.le_refl _) (.cells #[.int .u8 (wd : Int)] 5)))
      have DW : Hid (DI (w4.alloc (.cells #[.int .u8 (wd : Int)] 5)) (some ⟨w4.heap.size, 0, none⟩) 1 1 [UInt8.ofNat wd]) := Lib.hid ⟨rfl, Nat.le_refl _, by unfold maxLen; omega, fun j x hx => ⟨_, rfl, built_byte w4 wd (by omega) j (u8v x) (by rw [List.getElem?_map, hx]; rfl)⟩⟩
      have HLEN : Hid ((encN i ++ encS S).length ≤ 1200000) := Lib.hid (by
        have h1 := encN_len i
        have h2 := encS_len _ HX.out
        have h3 := HB.out.kl
        rw [List.length_append]
        omega)
      go_wp2_with (refine wpList_ob_app rfl (.tmp 53) (.tmp 56) rfl rfl w1 _ _ _ rfl OA.out _ _ _ rfl DW.out ?e1 BA.out ?e2)
      case e1 => have := HLEN.out; simp only [List.length_cons, List.length_nil]; omega
      intro v5 w5 ho5 hb5 hg5
      have HO5 := Lib.hid ho5
      have HB5 := Lib.hid hb5
      have HD5 := Lib.hid ((HD4.out.below ((Below.refl _ w4).alloc (Nat.le_refl _) (.cells #[.int .u8 (wd : Int)] 5))).grown hg5 (fun q => HG4.out _ q rfl))
      clear ho5 hb5 hg5
      go_wp2_with (refine wpList_ob_app rfl (.tmp 57) (.tmp 58) rfl rfl w1 _ _ _ rfl HO5.out _ _ _ rfl HD5.out ?f1 HB5.out ?f2)
      case f1 =>
        have h1 := HLEN.out
        have h2 := HPL.out
        rw [List.length_append] at h1 ⊢
        rw [List.length_append]
        simp only [List.length_cons, List.length_nil]
        omega
      intro v6 w6 ho6 hb6 _
      have HO6 : Hid (OB w6 w.heap.size v6 (dk l S)) := Lib.hid (by
        have h1 := ho6.mono HB.out.bel.size
        have h2 := HB.out.kl
        unfold dk
        rw [h2, HWD.out]
        simpa [List.append_assoc] using h1)
      have HB6 := Lib.hid hb6
      clear ho6 hb6
      go_wp2_with fail
      go_ret2
      exact ⟨HB.out.bel.trans (HB6.out.mono HB.out.bel.size), .inl ⟨by have := HL.out; omega, HX.out, _, rfl, HO6.out⟩⟩
end Go.Proofs
end

section
namespace Go.Proofs
open Go.RowKit NT
set_option maxRecDepth 100000
theorem addr_add (X : Addr) (p j : Nat) : (X.add p).add j = X.add (p + j) := Addr.add_add X p j
theorem DI.str {w : World} {A : Option Addr} {n c : Nat} {l : List UInt8} (h : DI w A n c l) (X : Addr) (hX : A = some X) (p U m : Nat) (hp : p + U ≤ n) : (convert 28 9 (.slice (some (X.add p)) U m)).run Try.prog w = .ok (.string (strOf ((l.drop p).take U))) w := by
  have hl := h.len
  refine str_arg (fun j u hu => ?_) U m (by rw [List.length_take, List.length_drop]; omega)
  rw [List.getElem?_map] at hu
  obtain ⟨x, hx, rfl⟩ := Option.map_eq_some_iff.1 hu
  rw [List.getElem?_take] at hx
  split at hx
  · rw [List.getElem?_drop] at hx
    obtain ⟨X', e, hc⟩ := h.at' _ _ hx
    rw [hX] at e
    cases e
    rw [addr_add]
    exact hc
  · cases hx
def gw (l : List UInt8) (a : Nat) : List UInt8 × Nat × Int :=
  if (getN l a).2.2 = 0 then (if 255 < (getN l a).1 then ([], 0, 4) else if (l.length : Int) < a + (getN l a).2.1 + (getN l a).1 then ([], 0, 5) else ((l.drop (a + (getN l a).2.1)).take (getN l a).1.toNat, (getN l a).2.1 + (getN l a).1.toNat, 0)) else ([], 0, (getN l a).2.2)
set_option maxHeartbeats 4000000 in
theorem Try.getWord (w : World) {A : Option Addr} {n c : Nat} {l : List UInt8} (hD : DI w A n c l) (hn : n ≤ 2000000) (a : Nat) (ha : a ≤ n) :
    Calls Try.prog 37 #[.slice A n c, .int .i64 a] w fun e w' => e = .returned (.tuple #[.string (strOf (gw l a).1), .int .i64 ((gw l a).2.1 : Nat), .int .i64 (gw l a).2.2]) ∧ w' = w := by
  obtain ⟨R, hR⟩ : ∃ R, gw l a = R := ⟨_, rfl⟩
  rw [hR]
  have HR := Lib.hid hR
  have HD := Lib.hid hD
  have hlc := hD.le
  have hln := hD.len
  have hok := getN_ok l a
  obtain ⟨g, hg⟩ : ∃ g, getN l a = g := ⟨_, rfl⟩
  rw [hg] at hok
  obtain ⟨u, k, e⟩ := g
  have HG := Lib.hid hg
  clear hR hD hg
  go_enter Try.func37, Try.ntmps37
  go_wp2_with fail
  refine (Try.get w HD.out hn a ha).mono ?_
  rintro x w1 ⟨rfl, hw1⟩
  rw [hw1, HG.out]
  clear hw1 w1
  dsimp only
  by_cases he : e = 0
  · subst he
    have hin := hok.ok rfl
    dsimp only at hin
    obtain ⟨U, hU⟩ : ∃ U : Nat, u = (U : Int) := ⟨u.toNat, by omega⟩
    subst hU
    clear hok
    by_cases h5 : 255 < U
    · have g1 : decide ((255 : Int) < (U : Int)) = true := decide_eq_true (by omega)
      have g1' : decide (255 < U) = true := decide_eq_true h5
      have HE : Hid (R = ([], 0, 4)) := Lib.hid (by have := HR.out; unfold gw at this; rw [HG.out] at this; dsimp only at this; rw [if_pos rfl, if_pos (by omega)] at this; exact this.symm)
      clear h5 hin
      go_wp2_with fail
      go_ret3
      have := HE.out
      subst this
      exact ⟨rfl, rfl⟩
    · have g1 : decide ((255 : Int) < (U : Int)) = false := decide_eq_false (by omega)
      have g1' : decide (255 < U) = false := decide_eq_false h5
      obtain ⟨p, hp⟩ : ∃ p, a + k = p := ⟨_, rfl⟩
      have hq0 : ((a : Int) + k) = (p : Int) := by omega
      have s4 : IntKind.i64.wrap (p : Int) = (p : Int) := wrapi (by omega) (by omega)
      have s5 : IntKind.i64.wrap ((p : Int) + U) = ((p + U : Nat) : Int) := by rw [wrapi (by omega) (by omega)]; omega
      have s7 : IntKind.i64.wrap (U : Int) = (U : Int) := wrapi (by omega) (by omega)
      obtain ⟨q, hq⟩ : ∃ q, p + U = q := ⟨_, rfl⟩
      rw [hq] at s5
      have s8 : IntKind.i64.wrap ((q : Int) - a) = (q : Int) - a := wrapi (by omega) (by omega)
      by_cases hs : n < q
      · have g2 : decide ((n : Int) < q) = true := decide_eq_true (by omega)
        have g2' : decide (n < q) = true := decide_eq_true hs
        have HE : Hid (R = ([], 0, 5)) := Lib.hid (by have := HR.out; unfold gw at this; rw [HG.out] at this; dsimp only at this; rw [if_pos rfl, if_neg (by omega), if_pos (by omega)] at this; exact this.symm)
        clear hs h5
        go_wp2_with fail
        go_ret3
        have := HE.out
        subst this
        exact ⟨rfl, rfl⟩
      · have g2 : decide ((n : Int) < q) = false := decide_eq_false (by omega)
        have g2' : decide (n < q) = false := decide_eq_false hs
        have HE : Hid (R = ((l.drop p).take U, q - a, 0)) := Lib.hid (by have := HR.out; unfold gw at this; rw [HG.out] at this; dsimp only at this; rw [if_pos rfl, if_neg (by omega), if_neg (by omega), Int.toNat_natCast, hp] at this; rw [← this]; congr 2; omega)
        have HQ := Lib.hid hq
        have hQA : ((q : Int) - a) = ((q - a : Nat) : Int) := by omega
        have HQA := Lib.hid hQA
        have hpq : p ≤ q := by omega
        have hqn : q ≤ c := by omega
        have hqn' : (q : Int) ≤ c := by omega
        have hpq' : (p : Int) ≤ q := by omega
        by_cases hU0 : U = 0
        · subst hU0
          obtain rfl : p = q := by omega
          have hc0 := str_sl0 w
          have HE2 : Hid (R = ([], p - a, 0)) := Lib.hid (by simpa using HE.out)
          clear HE s5 s7 g1 g1' hs h5 hQA hq
          have g1 : decide ((255 : Int) < 0) = false := by decide
          go_wp2_with fail
          all_goals
            go_ret3
            have := HE2.out
            subst this
            exact ⟨by rw [HQA.out]; rfl, rfl⟩
        · have hp0 : ¬ c = p := by omega
          have hpU : p + U ≤ n := by omega
          obtain ⟨X, hX, -⟩ := (HD.out).at' p (l[p]'(by omega)) (List.getElem?_eq_getElem (by omega))
          subst hX
          have hst : ∀ m, (convert 28 9 (.slice (some (X.add p)) (q - p) m)).run Try.prog w = .ok (.string (strOf ((l.drop p).take U))) w := fun m => by
            rw [show q - p = U by omega]
            exact (HD.out).str X rfl p U m hpU
          clear hs h5 hQA hq
          go_wp2_with fail
          go_ret3
          have := HE.out
          subst this
          exact ⟨by rw [HQA.out]; rfl, rfl⟩
  · have g1 : (e == 0) = false := by simpa using he
    have g2 : decide (e = 0) = false := by simpa using he
    have hno := hok.no he
    dsimp only at hno
    have HE : Hid (R = ([], 0, e)) := Lib.hid (by have := HR.out; unfold gw at this; rw [HG.out] at this; dsimp only at this; rw [if_neg he] at this; exact this.symm)
    clear hok hno he
    go_wp2_with fail
    go_ret3
    have := HE.out
    subst this
    exact ⟨rfl, rfl⟩
end Go.Proofs
end

section
namespace Go.Proofs
open Go.RowKit NT Go.Shelf Go.Lib Go.Sort
set_option maxRecDepth 100000
def gwl (l : List UInt8) : Nat → Nat → List Str → List Str × Nat × Int
  | 0, at', acc => (acc, at', 0)
  | c + 1, at', acc =>
    if (gw l at').2.2 ≠ 0 then ([], 0, (gw l at').2.2)
    else if acc.getLast?.any (fun y => !lt y (gw l at').1) then ([], 0, 2)
    else gwl l c (at' + (gw l at').2.1) (acc ++ [(gw l at').1])
def gws (l : List UInt8) (most : Nat) : List Str × Nat × Int :=
  if (getN l 0).2.2 ≠ 0 then ([], 0, (getN l 0).2.2) else if (most : Int) < (getN l 0).1 then ([], 0, 4) else gwl l (getN l 0).1.toNat (getN l 0).2.1 []
theorem leq_str (x y : Str) : binOp .leq 9 (encStr x) (encStr y) = pure (.bool (!lt y x)) := by
  have h := lss_str x y
  simp only [binOp, Op.stringOp, encStr]
  rw [h, Lib.toList_data, Lib.toList_data]
  have e : (lt x y || x == y) = !lt y x := by
    by_cases h1 : lt x y = true
    · rw [h1, asymm h1]; rfl
    · have h1' : lt x y = false := by simpa using h1
      by_cases h2 : lt y x = true
      · have : x ≠ y := fun e => by rw [e, lt_irrefl] at h2; cases h2
        rw [h1', h2]; simpa using this
      · have h2' : lt y x = false := by simpa using h2
        obtain rfl := tri h1' h2'
        rw [h1']; simp
  have := congrArg (fun b => (pure (Value.bool b) : Sem Value)) e
  simpa using this
theorem gw_ok {l : List UInt8} {a : Nat} (h : (gw l a).2.2 = 0) : a + (gw l a).2.1 ≤ l.length ∧ (gw l a).1.length ≤ 255 := by
  have hok := getN_ok l a
  unfold gw at h ⊢
  by_cases h0 : (getN l a).2.2 = 0
  · have hin := hok.ok h0
    rw [if_pos h0] at h ⊢
    by_cases h1 : 255 < (getN l a).1
    · rw [if_pos h1] at h; simp at h
    · rw [if_neg h1] at h ⊢
      by_cases h2 : (l.length : Int) < a + (getN l a).2.1 + (getN l a).1
      · rw [if_pos h2] at h; simp at h
      · rw [if_neg h2]
        simp only [List.length_take, List.length_drop]
        omega
  · rw [if_neg h0] at h
    exact absurd h h0
structure GWs (w : World) (R : List Str × Nat × Int) (v : Value) (w' : World) : Prop where
  bel : Below w.heap.size w w'
  ok : R.2.2 = 0 → w'.ownsRow w.heap.size 9 1 v R.1.length (R.1.map encStr)
  no : R.2.2 ≠ 0 → v = .slice none 0 0
theorem made_nil (w : World) (m : Nat) (hm : m ≤ 65536) : (w.alloc (.cells (Array.replicate m (.string ByteArray.empty)) 9)).ownsRow w.heap.size 9 1 (.slice (some ⟨w.heap.size, 0, none⟩) 0 m) 0 [] :=
  ⟨rfl, .inr ⟨w.heap.size, m, _, rfl, Nat.le_refl _, heap_alloc_new w _, Nat.zero_le _, by unfold maxLen; omega, by simp, by simp⟩⟩
theorem gwl_bad {l : List UInt8} {c at' : Nat} {acc : List Str} (h : (gw l at').2.2 ≠ 0) : gwl l (c + 1) at' acc = ([], 0, (gw l at').2.2) := by rw [gwl, if_pos h]
theorem gwl_form {l : List UInt8} {c at' : Nat} {acc : List Str} (h : (gw l at').2.2 = 0) {y : Str} (hy : acc.getLast? = some y) (hl : lt y (gw l at').1 = false) : gwl l (c + 1) at' acc = ([], 0, 2) := by
  rw [gwl, if_neg (by simpa using h), hy]; simp [hl]
theorem gwl_next {l : List UInt8} {c at' : Nat} {acc : List Str} (h : (gw l at').2.2 = 0) (hl : ∀ y, acc.getLast? = some y → lt y (gw l at').1 = true) : gwl l (c + 1) at' acc = gwl l c (at' + (gw l at').2.1) (acc ++ [(gw l at').1]) := by
  rw [gwl, if_neg (by simpa using h)]
  rw [if_neg]
  cases hy : acc.getLast? with
  | none => simp
  | some y => simp [hl y hy]
set_option maxHeartbeats 4000000 in
theorem Try.getWords (w : World) {A : Option Addr} {n c : Nat} {l : List UInt8} (hD : DI w A n c l) (hn : n ≤ 2000000) (most : Nat) (hmost : most ≤ 65536) :
    Calls Try.prog 26 #[.slice A n c, .int .i64 most] w fun e w' => ∃ v, e = .returned (.tuple #[v, .int .i64 ((gws l most).2.1 : Nat), .int .i64 (gws l most).2.2]) ∧ GWs w (gws l most) v w' := by
  obtain ⟨R, hR⟩ : ∃ R, gws l most = R := ⟨_, rfl⟩
  rw [hR]
  have HR := Lib.hid hR
  have HD := Lib.hid hD
  have hln := hD.len
  have hok := getN_ok l 0
  obtain ⟨g, hg⟩ : ∃ g, getN l 0 = g := ⟨_, rfl⟩
  rw [hg] at hok
  obtain ⟨u, k, e⟩ := g
  have HG := Lib.hid hg
  obtain ⟨i9, hi9, hz0, hz1, hz2⟩ := info_parts Try.info9
  have s0 : IntKind.u64.wrap (most : Int) = most := wrapu (by omega) (by omega)
  clear hR hD hg
  go_enter Try.func26, Try.ntmps26
  go_wp2_with fail
  refine (Try.get w HD.out hn 0 (by omega)).mono ?_
  rintro x w1 ⟨rfl, hw1⟩
  rw [hw1, HG.out]
  clear hw1 w1
  dsimp only
  by_cases he : e = 0
  rotate_left
  · have g1 : (e == 0) = false := by simpa using he
    have g2 : decide (e = 0) = false := by simpa using he
    have HE : Hid (R = ([], 0, e)) := Lib.hid (by have := HR.out; unfold gws at this; rw [HG.out] at this; dsimp only at this; rw [if_pos he] at this; exact this.symm)
    have HNE := Lib.hid he
    clear hok he
    go_wp2_with fail
    go_ret3
    have := HE.out
    subst this
    exact ⟨_, rfl, Below.refl _ w, fun h => absurd h HNE.out, fun _ => rfl⟩
  subst he
  have hin := hok.ok rfl
  dsimp only at hin
  obtain ⟨U, hU⟩ : ∃ U : Nat, u = (U : Int) := ⟨u.toNat, by omega⟩
  subst hU
  clear hok
  by_cases hc : most < U
  · have g1 : decide ((most : Int) < (U : Int)) = true := decide_eq_true (by omega)
    have g1' : decide (most < U) = true := decide_eq_true hc
    have HE : Hid (R = ([], 0, 4)) := Lib.hid (by have := HR.out; unfold gws at this; rw [HG.out] at this; dsimp only at this; rw [if_neg (by simp), if_pos (by omega)] at this; exact this.symm)
    clear hc hin
    go_wp2_with fail
    go_ret3
    have := HE.out
    subst this
    exact ⟨_, rfl, Below.refl _ w, fun h => absurd h (by decide), fun _ => rfl⟩
  have g1 : decide ((most : Int) < (U : Int)) = false := decide_eq_false (by omega)
  have g1' : decide (most < U) = false := decide_eq_false hc
  have HE : Hid (gwl l U k [] = R) := Lib.hid (by have := HR.out; unfold gws at this; rw [HG.out] at this; dsimp only at this; rw [if_neg (by simp), if_neg (by omega), Int.toNat_natCast] at this; exact this)
  have s7 : IntKind.i64.wrap (U : Int) = (U : Int) := wrapi (by omega) (by omega)
  have hUm : U ≤ 65536 := by omega
  have hkn : k ≤ n := by omega
  clear hin
  go_wp2_with (at_make; refine wpList_mk _ rfl _ _ 22 rfl 9 i9 (.string ByteArray.empty) Try.underlying22 hi9 hz0 hz1 (by omega) rfl _ _ _ _ 0 U rfl rfl (by omega) (by omega) (Nat.zero_le _) hUm ?_)
  have hmn := made_nil w U hUm
  have hbw : Below w.heap.size w (w.alloc (.cells (Array.replicate U (Value.string ByteArray.empty)) 9)) := (Below.refl _ w).alloc (Nat.le_refl _) _
  generalize w.alloc (.cells (Array.replicate U (Value.string ByteArray.empty)) 9) = w2 at hmn hbw ⊢
  have HM := Lib.hid hmn
  have HBW := Lib.hid hbw
  clear hmn hbw
  go_loopw [8, 10, 32] (fun t8 t10 t32 wr => ∃ (i at' : Nat) (acc : List Str), i ≤ U ∧ at' ≤ n ∧ t8 = .int .i64 at' ∧ t32 = .int .i64 i ∧ acc.length = i ∧ Hid (gwl l (U - i) at' acc = R) ∧ Hid (wr.ownsRow w.heap.size 9 1 t10 i (acc.map encStr)) ∧ Hid (Below w.heap.size w wr)) (fun _ _ t32 _ => U - (intO t32).toNat)
  case atStart => exact ⟨0, k, [], Nat.zero_le _, hkn, rfl, rfl, rfl, HE, HM, HBW⟩
  case round =>
    obtain ⟨i, at', acc, hi, hat, rfl, rfl, hacc, HJ, HO, HW⟩ := hrel
    have HA := Lib.hid hacc
    by_cases hlt : i < U
    · have d1 : decide ((i : Int) < U) = true := decide_eq_true (by omega)
      have d1' : decide (i < U) = true := decide_eq_true hlt
      obtain ⟨gr, hgr⟩ : ∃ gr, gw l at' = gr := ⟨_, rfl⟩
      obtain ⟨x, q, e⟩ := gr
      have HGR := Lib.hid hgr
      have HU : Hid (U - i = (U - (i + 1)) + 1) := Lib.hid (by omega)
      clear hgr hacc
      go_wp2_with fail
      refine (Try.getWord wr (HD.out.below HW.out) hn at' hat).mono ?_
      rintro e3 w3 ⟨rfl, hw3⟩
      rw [hw3, HGR.out]
      clear hw3 w3
      dsimp only
      by_cases he : e = 0
      rotate_left
      · have g3 : (e == 0) = false := by simpa using he
        have g4 : decide (e = 0) = false := by simpa using he
        have HE2 : Hid (R = ([], 0, e)) := Lib.hid (by
          have := HJ.out
          rw [HU.out, gwl_bad (by rw [HGR.out]; exact he), HGR.out] at this
          exact this.symm)
        have HNE := Lib.hid he
        clear he
        go_wp2_with fail
        go_ret3
        have := HE2.out
        subst this
        exact ⟨_, rfl, HW.out, fun h => absurd h HNE.out, fun _ => rfl⟩
      subst he
      have hgk := gw_ok (l := l) (a := at') (by rw [HGR.out])
      rw [HGR.out, hln] at hgk
      dsimp only at hgk
      have hx255 := hgk.2
      have haq := hgk.1
      have s8 : IntKind.i64.wrap ((at' : Int) + q) = ((at' + q : Nat) : Int) := by rw [wrapi (by omega) (by omega)]; omega
      clear hgk hx255
      by_cases hi0 : i = 0
      · have d3 : decide ((0 : Int) < (i : Int)) = false := decide_eq_false (by omega)
        have d3' : decide (0 < i) = false := decide_eq_false (by omega)
        have hord : True := trivial
        have HN : Hid (Hid (gwl l (U - (i + 1)) (at' + q) (acc ++ [x]) = R)) := Lib.hid (Lib.hid (by
          have := HJ.out
          have ha0 : acc = [] := List.eq_nil_of_length_eq_zero (by rw [HA.out]; exact hi0)
          rw [HU.out, gwl_next (by rw [HGR.out]) (by rw [ha0]; simp), HGR.out] at this
          exact this))
        have d0 : decide (0 < (0 : Int)) = false := by decide
        subst hi0
        have OA := Lib.hid (HO.out.alloc (.cells #[.string (strOf x)] 9))
        have CA : Hid (∀ j' u, ([x].map encStr)[j']? = some u → (wr.alloc (.cells #[.string (strOf x)] 9)).cell? ((⟨wr.heap.size, 0, none⟩ : Addr).add j') = some u) := Lib.hid (by
          intro j' u hu
          rw [add_none, Nat.zero_add, cell_of_row _ _ _ _ 9 (0, 0) (heap_alloc_new _ _)]
          have h2 : ([Value.string (strOf x)])[j']? = some u := hu
          simpa using h2)
        have BA := Lib.hid (HW.out.alloc HW.out.size (.cells #[.string (strOf x)] 9))
        clear hord
        go_wp2_with (at_builtin; refine wpList_append_own _ rfl (.tmp 56) (.tmp 58) 22 rfl w.heap.size 9 i9 (.string ByteArray.empty) 1 16 Try.underlying22 hi9 hz0 hz1 hz2 rfl (by decide) _ _ _ rfl (OA.out) _ _ _ ([x].map encStr) rfl rfl (CA.out) (str_one _) ?a1 ?a2 (BA.out).size ?a3)
        case a1 => unfold maxLen; omega
        case a2 => omega
        intro v' w5 ho5 hg5 _
        have H5 := Lib.hid (BA.out.grown hg5 (BA.out).size (fun q hq => (OA.out.lt q hq).1))
        have O5 : Hid (w5.ownsRow w.heap.size 9 1 v' (0 + 1) ((acc ++ [x]).map encStr)) := Lib.hid (by simpa [List.map_append] using ho5)
        clear ho5 hg5
        go_wp2_with fail
        exact ⟨⟨0 + 1, at' + q, acc ++ [x], by omega, by omega, rfl, rfl, by rw [List.length_append, HA.out]; rfl, HN.out, O5, H5⟩, by simp [intO]; omega⟩
      · obtain ⟨j, hj⟩ : ∃ j, i = j + 1 := ⟨i - 1, by omega⟩
        obtain ⟨y, hy⟩ : ∃ y, acc[j]? = some y := ⟨_, List.getElem?_eq_getElem (by rw [HA.out]; omega)⟩
        have hlast : acc.getLast? = some y := by rw [List.getLast?_eq_getElem?, HA.out, hj, Nat.add_sub_cancel]; exact hy
        have hv : u10 ≠ Value.slice none 0 0 := by
          intro e
          have := HO.out
          rw [e] at this
          rcases this.2 with ⟨_, q⟩ | ⟨_, _, _, q, _⟩
          · omega
          · cases q
        obtain ⟨hrl, g, c2, rfl, hg, hjc, hsy2⟩ := SY.own HO.out hv
        have hcy := hsy2.cell hy
        have d3 : decide ((0 : Int) < (i : Int)) = true := decide_eq_true (by omega)
        have d3' : decide (0 < i) = true := decide_eq_true (by omega)
        have s9 : IntKind.i64.wrap ((i : Int) - 1) = (j : Int) := by rw [wrapi (by omega) (by omega)]; omega
        have d4 : decide ((j : Int) < (i : Int)) = true := decide_eq_true (by omega)
        have d4' : decide (j < i) = true := decide_eq_true (by omega)
        have hji : j < i := by omega
        have HLA := Lib.hid hlast
        clear hy hlast hv hrl hg hjc hsy2 hj
        by_cases hord : lt y x = true
        · have hleq : binOp .leq 9 (.string (strOf x)) (encStr y) = pure (.bool false) := (leq_str x y).trans (by rw [hord]; rfl)
          have HN : Hid (Hid (gwl l (U - (i + 1)) (at' + q) (acc ++ [x]) = R)) := Lib.hid (Lib.hid (by
            have := HJ.out
            rw [HU.out, gwl_next (by rw [HGR.out]) (by rw [HLA.out, HGR.out]; intro z hz; cases hz; exact hord), HGR.out] at this
            exact this))
          have OA := Lib.hid (HO.out.alloc (.cells #[.string (strOf x)] 9))
          have CA : Hid (∀ j' u, ([x].map encStr)[j']? = some u → (wr.alloc (.cells #[.string (strOf x)] 9)).cell? ((⟨wr.heap.size, 0, none⟩ : Addr).add j') = some u) := Lib.hid (by
            intro j' u hu
            rw [add_none, Nat.zero_add, cell_of_row _ _ _ _ 9 (0, 0) (heap_alloc_new _ _)]
            have h2 : ([Value.string (strOf x)])[j']? = some u := hu
            simpa using h2)
          have BA := Lib.hid (HW.out.alloc HW.out.size (.cells #[.string (strOf x)] 9))
          clear hord
          go_wp2_with (at_builtin; refine wpList_append_own _ rfl (.tmp 56) (.tmp 58) 22 rfl w.heap.size 9 i9 (.string ByteArray.empty) 1 16 Try.underlying22 hi9 hz0 hz1 hz2 rfl (by decide) _ _ _ rfl (OA.out) _ _ _ ([x].map encStr) rfl rfl (CA.out) (str_one _) ?c1 ?c2 (BA.out).size ?c3)
          case c1 => unfold maxLen; omega
          case c2 => omega
          intro v' w5 ho5 hg5 _
          have H5 := Lib.hid (BA.out.grown hg5 (BA.out).size (fun q hq => (OA.out.lt q hq).1))
          have O5 : Hid (w5.ownsRow w.heap.size 9 1 v' (i + 1) ((acc ++ [x]).map encStr)) := Lib.hid (by simpa [List.map_append] using ho5)
          clear ho5 hg5
          go_wp2_with fail
          exact ⟨⟨i + 1, at' + q, acc ++ [x], by omega, by omega, rfl, rfl, by rw [List.length_append, HA.out]; rfl, HN.out, O5, H5⟩, by simp [intO]; omega⟩
        · have hord' : lt y x = false := by simpa using hord
          have hleq : binOp .leq 9 (.string (strOf x)) (encStr y) = pure (.bool true) := (leq_str x y).trans (by rw [hord']; rfl)
          have HE2 : Hid (R = ([], 0, 2)) := Lib.hid (by
            have := HJ.out
            rw [HU.out, gwl_form (by rw [HGR.out]) HLA.out (by rw [HGR.out]; exact hord')] at this
            exact this.symm)
          clear hord hord'
          go_wp2_with fail
          go_ret3
          have := HE2.out
          subst this
          exact ⟨_, rfl, HW.out, fun h => absurd h (by decide), fun _ => rfl⟩
    · obtain rfl : i = U := by omega
      have d1 : decide ((i : Int) < i) = false := by simp
      have d1' : decide (i < i) = false := by simp
      have HE2 : Hid (R = (acc, at', 0)) := Lib.hid (by
        have := HJ.out
        rw [Nat.sub_self, gwl] at this
        exact this.symm)
      clear hacc
      go_wp2_with fail
      go_ret3
      have := HE2.out
      subst this
      exact ⟨_, rfl, HW.out, fun _ => by dsimp only; rw [HA.out]; exact HO.out, fun h => absurd rfl h⟩
end Go.Proofs
end

section
namespace Go.Proofs
open Go.RowKit NT Go.Shelf Go.Lib Go.Sort
set_option maxRecDepth 100000
theorem Try.info4 : (Try.prog.info? 4).map (fun i => (i.zero, i.size, i.bytes)) = some (some (.bool false), 1, 1) := by kernel_rfl
theorem idx_self {S : List Str} {q : Nat} {y : Str} (hS : Sup S) (hq : S[q]? = some y) : S.idxOf y = q := by
  have hm := List.mem_of_getElem? hq
  have hi := idx_at hm
  have h1 := List.idxOf_lt_length_of_mem hm
  have h2 := (List.getElem?_eq_some_iff.1 hq).1
  have e1 := (List.getElem?_eq_some_iff.1 hq).2
  have e2 := (List.getElem?_eq_some_iff.1 hi).2
  rcases Nat.lt_trichotomy (S.idxOf y) q with h | h | h
  · have := List.pairwise_iff_getElem.1 hS _ _ h1 h2 h
    rw [e1, e2, lt_irrefl] at this; cases this
  · exact h
  · have := List.pairwise_iff_getElem.1 hS _ _ h2 h1 h
    rw [e1, e2, lt_irrefl] at this; cases this
def BQ (w : World) (b : Nat) (l : List Bool) : Prop := w.heap[b]? = some (.cells (l.map Value.bool).toArray 4 (0, 0))
theorem BQ.z {w : World} {b : Nat} {l : List Bool} (h : BQ w b l) (i : Nat) : w.frozen? ⟨b, i, none⟩ = false := frozen_of_row w b i _ 4 h
theorem BQ.cell {w : World} {b : Nat} {l : List Bool} (h : BQ w b l) {i : Nat} {x : Bool} (hi : l[i]? = some x) : w.cell? ⟨b, i, none⟩ = some (.bool x) := by
  rw [cell_of_row w b i _ 4 (0, 0) h]
  simp [hi]
theorem BQ.set {w : World} {b : Nat} {l : List Bool} (h : BQ w b l) (i : Nat) (x : Bool) : BQ (w.setCell ⟨b, i, none⟩ (.bool x)) b (l.set i x) := by
  unfold BQ
  rw [heap_setCell_same w b i _ 4 _ h]
  simp [List.map_set]
end Go.Proofs
end

section
namespace Go.Proofs
open Go.RowKit NT Go.Shelf Go.Lib Go.Sort
set_option maxRecDepth 100000
theorem DI.tail {w : World} {X : Addr} {n c : Nat} {x : UInt8} {l : List UInt8} (h : DI w (some X) n c (x :: l)) : DI w (some (X.add 1)) (n - 1) (c - 1) l := by
  have h1 := h.len
  have h2 := h.le
  have h3 := h.max
  rw [List.length_cons] at h1
  refine ⟨by omega, by omega, by omega, fun j y hj => ⟨_, rfl, ?_⟩⟩
  obtain ⟨Y, hY, hc⟩ := h.at' (j + 1) y (by simpa using hj)
  cases hY
  rw [addr_add, Nat.add_comm 1 j]
  exact hc
theorem DI.some0 {w : World} {X : Addr} : DI w (some X) 0 0 [] := ⟨rfl, Nat.le_refl _, Nat.zero_le _, fun j x h => by simp at h⟩
structure Asked (bs : List Bool) (k : Nat) (T : List Nat) (left : Nat) : Prop where
  len : bs.length = k
  at' : ∀ q : Nat, q < k → (bs[q]? = some true ↔ q ∈ T)
  left : left = bs.count false
theorem Asked.start (k : Nat) : Asked (List.replicate k false) k [] k :=
  ⟨by simp, fun q hq => by simp [List.getElem?_replicate, hq], by simp⟩
theorem Asked.same {bs : List Bool} {k left p : Nat} {T : List Nat} (h : Asked bs k T left) (hp : bs[p]? = some true) : Asked bs k (T ++ [p]) left :=
  ⟨h.len, fun q hq => by
    rw [h.at' q hq, List.mem_append, List.mem_singleton]
    constructor
    · exact .inl
    · rintro (h1 | rfl)
      · exact h1
      · exact (h.at' q hq).1 hp, h.left⟩
theorem Asked.next {bs : List Bool} {k left p : Nat} {T : List Nat} (h : Asked bs k T left) (hp : bs[p]? = some false) : 0 < left ∧ Asked (bs.set p true) k (T ++ [p]) (left - 1) := by
  obtain ⟨hlt, hv⟩ := List.getElem?_eq_some_iff.1 hp
  have hpos : 0 < bs.count false := List.count_pos_iff.2 (List.mem_of_getElem? hp)
  have hl := h.left
  refine ⟨by omega, by rw [List.length_set]; exact h.len, fun q hq => ?_, ?_⟩
  · rw [List.getElem?_set, List.mem_append, List.mem_singleton]
    by_cases e : p = q
    · subst e
      simp [hlt]
    · rw [if_neg e, h.at' q hq]
      constructor
      · exact .inl
      · rintro (h1 | h1)
        · exact h1
        · exact absurd h1.symm e
  · rw [List.count_set hlt, hv]
    simp
    omega
theorem Asked.all {bs : List Bool} {k left : Nat} {T : List Nat} (h : Asked bs k T left) (ha : ∀ q, q < k → q ∈ T) : left = 0 := by
  rw [h.left, List.count_eq_zero]
  intro hm
  obtain ⟨i, hi, he⟩ := List.mem_iff_getElem.1 hm
  have := (h.at' i (by rw [← h.len]; exact hi)).2 (ha i (by rw [← h.len]; exact hi))
  rw [List.getElem?_eq_getElem hi, he] at this
  cases this
set_option maxHeartbeats 4000000 in
theorem Try.getPlaces (w : World) {b0 o0 : Nat} {n c : Nat} (P : List Nat) (hD : DI w (some ⟨b0, o0, none⟩) n c (UInt8.ofNat (pkw P) :: pkd P)) (m k : Nat) (hP : P.length = m) (hm : m ≤ 65536) (hk : k ≤ 65536) (hU : U64 P) (hlt : ∀ p ∈ P, p < k) (hall : ∀ q, q < k → q ∈ P) :
    Calls Try.prog 27 #[.slice (some ⟨b0, o0, none⟩) n c, .int .i64 m, .int .i64 k] w fun e w' => ∃ b cc, e = .returned (.tuple #[.slice (some ⟨b, 0, none⟩) m cc, .int .i64 0]) ∧ w.heap.size ≤ b ∧ DU w' (some ⟨b, 0, none⟩) m cc P ∧ Below w.heap.size w w' := by
  have hn := hD.len
  have hnc := hD.le
  have hcm := hD.max
  unfold maxLen at hcm
  rw [List.length_cons] at hn
  obtain ⟨Y, hY, hc0⟩ := hD.at' 0 _ rfl
  cases hY
  have hpl := pkd_len P
  have hw64 := pkw_le hU
  obtain ⟨wd, hwd⟩ : ∃ wd, pkw P = wd := ⟨_, rfl⟩
  have HWD := Lib.hid hwd
  rw [hwd, u8v_ofNat wd (by omega), add_none, Nat.add_zero] at hc0
  rw [hwd] at hw64
  have HT : Hid (DI w (some ⟨b0, o0 + 1, none⟩) (n - 1) (c - 1) (pkd P)) := Lib.hid (by have := hD.tail; rwa [add_none] at this)
  have HTH : Hid (c = 1 → DI w (some ⟨b0, o0, none⟩) 0 0 (pkd P)) := Lib.hid fun e => by
    have : pkd P = [] := List.eq_nil_of_length_eq_zero (by omega)
    rw [this]; exact DI.some0
  obtain ⟨i4, hi4, hy0, hy1, hy2⟩ := info_parts Try.info4
  have HP := Lib.hid hP
  have HU := Lib.hid hU
  have HLT := Lib.hid hlt
  have HALL := Lib.hid hall
  have s1 : IntKind.i64.wrap (wd : Int) = wd := wrapi (by omega) (by omega)
  have hn1 : 1 ≤ n := by omega
  have hc1 : 1 ≤ c := by omega
  have s2 : IntKind.u64.wrap (k : Int) = k := wrapu (by omega) (by omega)
  clear hD hwd hP hU hlt hall hn hpl
  go_enter Try.func27, Try.ntmps27
  by_cases hc : c = 1
  · subst hc
    obtain rfl : n = 1 := by omega
    have d0 : decide ((1 : Int) = 0) = false := by decide
    go_wp2_with fail
    refine (show Calls Try.prog 38 #[.slice (some ⟨b0, o0, none⟩) 0 0, .int .i64 m, .int .i64 wd] w _ by rw [← HWD.out]; exact Try.pget w _ _ _ P (HTH.out (by first | trivial | rfl)) HU.out m HP.out hm).mono ?_
    rintro e1 w1 ⟨pb, cc, rfl, hpb, hdu, hb1⟩
    have HDU := Lib.hid hdu
    have HB1 := Lib.hid hb1
    have HPB := Lib.hid hpb
    clear hdu hb1 hpb
    go_wp2_with (at_make; refine wpList_mk _ rfl _ _ 38 rfl 4 i4 (.bool false) Try.underlying38 hi4 hy0 hy1 (by omega) rfl _ _ _ _ k k rfl rfl (by omega) (by omega) (Nat.le_refl _) hk ?_)
    obtain ⟨ab, hab⟩ : ∃ ab, w1.heap.size = ab := ⟨_, rfl⟩
    have hbq : BQ (w1.alloc (.cells (Array.replicate k (Value.bool false)) 4)) ab (List.replicate k false) := by
      unfold BQ
      rw [← hab, heap_alloc_new]
      simp
    have hbw : Below w1.heap.size w1 (w1.alloc (.cells (Array.replicate k (Value.bool false)) 4)) := (Below.refl _ w1).alloc (Nat.le_refl _) _
    rw [hab]
    generalize w1.alloc (.cells (Array.replicate k (Value.bool false)) 4) = w2 at hbq hbw ⊢
    have HQ := Lib.hid hbq
    have HW2 := Lib.hid hbw
    have HAB := Lib.hid hab
    clear hbq hbw hab
    go_loopw [12, 38] (fun t12 t38 wr => ∃ i left : Nat, i ≤ m ∧ left ≤ k ∧ t12 = .int .i64 left ∧ t38 = .int .i64 i ∧ Hid (Below w1.heap.size w1 wr) ∧ ∃ bs : List Bool, Hid (BQ wr ab bs ∧ Asked bs k (P.take i) left)) (fun _ t38 _ => m - (intO t38).toNat)
    case atStart => exact ⟨0, k, Nat.zero_le _, Nat.le_refl _, rfl, rfl, HW2, List.replicate k false, Lib.hid ⟨HQ.out, Asked.start k⟩⟩
    case round =>
      obtain ⟨i, left, hi, hlk, rfl, rfl, HV, bs, HD⟩ := hrel
      by_cases hlt : i < m
      · have d1 : decide ((i : Int) < m) = true := decide_eq_true (by omega)
        have d1' : decide (i < m) = true := decide_eq_true hlt
        obtain ⟨p, hp⟩ : ∃ p, P[i]? = some p := ⟨_, List.getElem?_eq_getElem (by rw [HP.out]; exact hlt)⟩
        have hpk := HLT.out p (List.mem_of_getElem? hp)
        obtain ⟨Z, hZ, hc9⟩ := (HDU.out.below HV.out).at' i p hp
        cases hZ
        rw [add_none, Nat.zero_add] at hc9
        unfold u64v at hc9
        have HPT : Hid (P.take (i + 1) = P.take i ++ [p]) := Lib.hid (by rw [List.take_add_one, hp]; rfl)
        have g1 : decide ((k : Int) ≤ p) = false := decide_eq_false (by omega)
        have g1' : decide (k ≤ p) = false := decide_eq_false (by omega)
        have g3 : decide ((p : Int) < k) = true := decide_eq_true (by omega)
        have g4 : decide (p < k) = true := decide_eq_true hpk
        obtain ⟨z, hz⟩ : ∃ z, bs[p]? = some z := ⟨_, List.getElem?_eq_getElem (by rw [HD.out.2.len]; exact hpk)⟩
        have c0 := HD.out.1.cell hz
        have f0 := HD.out.1.z p
        have HZ := Lib.hid hz
        clear hz hp
        cases z with
        | true =>
          have HN : Hid (BQ wr ab bs ∧ Asked bs k (P.take (i + 1)) left) := Lib.hid ⟨HD.out.1, by rw [HPT.out]; exact HD.out.2.same HZ.out⟩
          go_wp2_with fail
          exact ⟨⟨i + 1, left, by omega, hlk, rfl, rfl, HV, bs, HN⟩, by simp [intO]; omega⟩
        | false =>
          have hnx := HD.out.2.next HZ.out
          have hl0 := hnx.1
          have HN : Hid (BQ (wr.setCell ⟨ab, p, none⟩ (.bool true)) ab (bs.set p true) ∧ Asked (bs.set p true) k (P.take (i + 1)) (left - 1)) := Lib.hid ⟨HD.out.1.set _ _, by rw [HPT.out]; exact hnx.2⟩
          have HV2 : Hid (Below w1.heap.size w1 (wr.setCell ⟨ab, p, none⟩ (.bool true))) := Lib.hid (HV.out.trans ⟨rfl, rfl, rfl, by simp [World.setCell], fun q hq => heap_setCell_other wr ⟨ab, p, none⟩ q _ (by have := HAB.out; show q ≠ ab; omega)⟩)
          have s3 : IntKind.i64.wrap ((left : Int) - 1) = ((left - 1 : Nat) : Int) := by rw [wrapi (by omega) (by omega)]; omega
          clear hnx
          go_wp2_with fail
          exact ⟨⟨i + 1, left - 1, by omega, by omega, rfl, rfl, HV2, bs.set p true, HN⟩, by simp [intO]; omega⟩
      · obtain rfl : i = m := by omega
        have d1 : decide ((i : Int) < i) = false := by simp
        have d1' : decide (i < i) = false := by simp
        have hl0 : left = 0 := HD.out.2.all fun q hq => by
          rw [List.take_of_length_le (by rw [HP.out]; exact Nat.le_refl _)]
          exact HALL.out q hq
        subst hl0
        go_wp2_with fail
        refine (Try.width wr _ _ _ P (HDU.out.below HV.out) HU.out hm).mono ?_
        rintro e3 w3 ⟨rfl, hb3⟩
        rw [HWD.out]
        have HDU3 := Lib.hid ((HDU.out.below HV.out).below hb3)
        have HB3 := Lib.hid (HB1.out.trans ((HV.out.trans (hb3.mono HV.out.size)).mono HB1.out.size))
        have dw : decide ((wd : Int) = wd) = true := by simp
        clear hb3
        go_wp2_with fail
        go_ret2
        exact ⟨_, _, rfl, HPB.out, HDU3.out, HB3.out⟩
  · have d0 : decide ((n : Int) = 0) = false := decide_eq_false (by omega)
    have d0' : decide (n = 0) = false := decide_eq_false (by omega)
    have d0'' : ((n : Int) == 0) = false := by simpa using d0
    go_wp2_with fail
    refine (show Calls Try.prog 38 #[.slice (some ⟨b0, o0 + 1, none⟩) (n - 1) (c - 1), .int .i64 m, .int .i64 wd] w _ by rw [← HWD.out]; exact Try.pget w _ _ _ P HT.out HU.out m HP.out hm).mono ?_
    rintro e1 w1 ⟨pb, cc, rfl, hpb, hdu, hb1⟩
    have HDU := Lib.hid hdu
    have HB1 := Lib.hid hb1
    have HPB := Lib.hid hpb
    clear hdu hb1 hpb
    go_wp2_with (at_make; refine wpList_mk _ rfl _ _ 38 rfl 4 i4 (.bool false) Try.underlying38 hi4 hy0 hy1 (by omega) rfl _ _ _ _ k k rfl rfl (by omega) (by omega) (Nat.le_refl _) hk ?_)
    obtain ⟨ab, hab⟩ : ∃ ab, w1.heap.size = ab := ⟨_, rfl⟩
    have hbq : BQ (w1.alloc (.cells (Array.replicate k (Value.bool false)) 4)) ab (List.replicate k false) := by
      unfold BQ
      rw [← hab, heap_alloc_new]
      simp
    have hbw : Below w1.heap.size w1 (w1.alloc (.cells (Array.replicate k (Value.bool false)) 4)) := (Below.refl _ w1).alloc (Nat.le_refl _) _
    rw [hab]
    generalize w1.alloc (.cells (Array.replicate k (Value.bool false)) 4) = w2 at hbq hbw ⊢
    have HQ := Lib.hid hbq
    have HW2 := Lib.hid hbw
    have HAB := Lib.hid hab
    clear hbq hbw hab
    go_loopw [12, 38] (fun t12 t38 wr => ∃ i left : Nat, i ≤ m ∧ left ≤ k ∧ t12 = .int .i64 left ∧ t38 = .int .i64 i ∧ Hid (Below w1.heap.size w1 wr) ∧ ∃ bs : List Bool, Hid (BQ wr ab bs ∧ Asked bs k (P.take i) left)) (fun _ t38 _ => m - (intO t38).toNat)
    case atStart => exact ⟨0, k, Nat.zero_le _, Nat.le_refl _, rfl, rfl, HW2, List.replicate k false, Lib.hid ⟨HQ.out, Asked.start k⟩⟩
    case round =>
      obtain ⟨i, left, hi, hlk, rfl, rfl, HV, bs, HD⟩ := hrel
      by_cases hlt : i < m
      · have d1 : decide ((i : Int) < m) = true := decide_eq_true (by omega)
        have d1' : decide (i < m) = true := decide_eq_true hlt
        obtain ⟨p, hp⟩ : ∃ p, P[i]? = some p := ⟨_, List.getElem?_eq_getElem (by rw [HP.out]; exact hlt)⟩
        have hpk := HLT.out p (List.mem_of_getElem? hp)
        obtain ⟨Z, hZ, hc9⟩ := (HDU.out.below HV.out).at' i p hp
        cases hZ
        rw [add_none, Nat.zero_add] at hc9
        unfold u64v at hc9
        have HPT : Hid (P.take (i + 1) = P.take i ++ [p]) := Lib.hid (by rw [List.take_add_one, hp]; rfl)
        have g1 : decide ((k : Int) ≤ p) = false := decide_eq_false (by omega)
        have g1' : decide (k ≤ p) = false := decide_eq_false (by omega)
        have g3 : decide ((p : Int) < k) = true := decide_eq_true (by omega)
        have g4 : decide (p < k) = true := decide_eq_true hpk
        obtain ⟨z, hz⟩ : ∃ z, bs[p]? = some z := ⟨_, List.getElem?_eq_getElem (by rw [HD.out.2.len]; exact hpk)⟩
        have c0 := HD.out.1.cell hz
        have f0 := HD.out.1.z p
        have HZ := Lib.hid hz
        clear hz hp
        cases z with
        | true =>
          have HN : Hid (BQ wr ab bs ∧ Asked bs k (P.take (i + 1)) left) := Lib.hid ⟨HD.out.1, by rw [HPT.out]; exact HD.out.2.same HZ.out⟩
          go_wp2_with fail
          exact ⟨⟨i + 1, left, by omega, hlk, rfl, rfl, HV, bs, HN⟩, by simp [intO]; omega⟩
        | false =>
          have hnx := HD.out.2.next HZ.out
          have hl0 := hnx.1
          have HN : Hid (BQ (wr.setCell ⟨ab, p, none⟩ (.bool true)) ab (bs.set p true) ∧ Asked (bs.set p true) k (P.take (i + 1)) (left - 1)) := Lib.hid ⟨HD.out.1.set _ _, by rw [HPT.out]; exact hnx.2⟩
          have HV2 : Hid (Below w1.heap.size w1 (wr.setCell ⟨ab, p, none⟩ (.bool true))) := Lib.hid (HV.out.trans ⟨rfl, rfl, rfl, by simp [World.setCell], fun q hq => heap_setCell_other wr ⟨ab, p, none⟩ q _ (by have := HAB.out; show q ≠ ab; omega)⟩)
          have s3 : IntKind.i64.wrap ((left : Int) - 1) = ((left - 1 : Nat) : Int) := by rw [wrapi (by omega) (by omega)]; omega
          clear hnx
          go_wp2_with fail
          exact ⟨⟨i + 1, left - 1, by omega, by omega, rfl, rfl, HV2, bs.set p true, HN⟩, by simp [intO]; omega⟩
      · obtain rfl : i = m := by omega
        have d1 : decide ((i : Int) < i) = false := by simp
        have d1' : decide (i < i) = false := by simp
        have hl0 : left = 0 := HD.out.2.all fun q hq => by
          rw [List.take_of_length_le (by rw [HP.out]; exact Nat.le_refl _)]
          exact HALL.out q hq
        subst hl0
        go_wp2_with fail
        refine (Try.width wr _ _ _ P (HDU.out.below HV.out) HU.out hm).mono ?_
        rintro e3 w3 ⟨rfl, hb3⟩
        rw [HWD.out]
        have HDU3 := Lib.hid ((HDU.out.below HV.out).below hb3)
        have HB3 := Lib.hid (HB1.out.trans ((HV.out.trans (hb3.mono HV.out.size)).mono HB1.out.size))
        have dw : decide ((wd : Int) = wd) = true := by simp
        clear hb3
        go_wp2_with fail
        go_ret2
        exact ⟨_, _, rfl, HPB.out, HDU3.out, HB3.out⟩
end Go.Proofs
end

section
namespace Go.Proofs
open Go.RowKit NT Go.Shelf Go.Lib Go.Sort
set_option maxRecDepth 100000
theorem pow128 (k : Nat) : 2 ^ (7 * k) = 128 ^ k := by rw [Nat.pow_mul]
theorem p128_le {k : Nat} (h : k ≤ 9) : 128 ^ k ≤ 9223372036854775808 := by
  have : 128 ^ k ≤ 128 ^ 9 := Nat.pow_le_pow_right (by decide) h
  have e : (128 : Nat) ^ 9 = 9223372036854775808 := by decide
  omega
theorem getF_put (l : List UInt8) (p : Nat) : ∀ (f k u a : Nat) (r : List UInt8), f + k = 10 → l.drop (p + k) = encF f u ++ r → u * 128 ^ k < 18446744073709551616 → a < 128 ^ k → (0 < k → 0 < u) →
    getF l p f k (a : Int) = (((a + u * 128 ^ k : Nat) : Int), k + (encF f u).length, 0)
  | 0, k, u, a, r, hf, hd, hu, ha, h0 => by
    exfalso
    have hk : k = 10 := by omega
    subst hk
    have e : (128 : Nat) ^ 10 = 1180591620717411303424 := by decide
    rw [e] at hu
    have := h0 (by omega)
    omega
  | f + 1, k, u, a, r, hf, hd, hu, ha, h0 => by
    have hk9 : k ≤ 9 := by omega
    have hp := p128_le hk9
    have ha64 : a < 18446744073709551616 := by omega
    have ha2 : a < 2 ^ (7 * k) := by rw [pow128]; exact ha
    have hpos : 0 < 128 ^ k := Nat.pow_pos (by decide)
    have h9 : k = 9 → u < 2 := by
      intro h
      subst h
      have e : (128 : Nat) ^ 9 = 9223372036854775808 := by decide
      rw [e] at hu
      omega
    have hget : ∀ x (t : List UInt8), l.drop (p + k) = x :: t → l[p + k]? = some x := by
      intro x t h
      have := congrArg (fun z => z[0]?) h
      simpa using this
    by_cases hs : u < 128
    · rw [encF_last f u hs] at hd
      have hx := hget _ _ hd
      have hc : (UInt8.ofNat u).toNat = u := by rw [UInt8.toNat_ofNat']; omega
      have hg := gadd_sum k u a ha2 ha64 (by rw [Nat.mod_eq_of_lt hs, pow128]; exact hu)
      rw [Nat.mod_eq_of_lt hs, pow128] at hg
      rw [getF, hx]
      simp only
      rw [hc, if_neg (by rintro (⟨h1, h2⟩ | ⟨h1, h2⟩)
                         · have := h9 h1; omega
                         · have := h0 h1; omega), if_pos hs, hg, encF_last f u hs]
      simp
    · rw [encF_more f u hs] at hd
      have hx := hget _ _ hd
      have hk8 : k ≤ 8 := by
        by_cases h : k = 9
        · have := h9 h; omega
        · omega
      have hc : (UInt8.ofNat (u % 128 + 128)).toNat = u % 128 + 128 := by rw [UInt8.toNat_ofNat']; omega
      have hm : (u % 128 + 128) % 128 = u % 128 := by omega
      have hle : u % 128 * 128 ^ k ≤ u * 128 ^ k := Nat.mul_le_mul_right _ (Nat.mod_le u 128)
      have hg := gadd_sum k (u % 128 + 128) a ha2 ha64 (by rw [hm, pow128]; omega)
      rw [hm, pow128] at hg
      have hsplit : u / 128 * 128 ^ (k + 1) + u % 128 * 128 ^ k = u * 128 ^ k := by
        rw [Nat.pow_succ, Nat.mul_comm (128 ^ k) 128, ← Nat.mul_assoc, ← Nat.add_mul]
        congr 1
        omega
      have ih := getF_put l p f (k + 1) (u / 128) (a + u % 128 * 128 ^ k) r (by omega) (by
        have := congrArg List.tail hd
        rw [List.tail_drop] at this
        exact this) (by omega) (by
        rw [Nat.pow_succ]
        have h1 : u % 128 * 128 ^ k ≤ 127 * 128 ^ k := Nat.mul_le_mul_right _ (by omega)
        omega) (by omega)
      rw [getF, hx]
      simp only
      rw [hc, if_neg (by rintro (⟨h1, h2⟩ | ⟨h1, h2⟩) <;> omega), if_neg (by omega), hg, ih, encF_more f u hs]
      have e1 : a + u % 128 * 128 ^ k + u / 128 * 128 ^ (k + 1) = a + u * 128 ^ k := by omega
      rw [e1]
      simp
      omega
theorem getN_put {l : List UInt8} {p u : Nat} {r : List UInt8} (h : l.drop p = encN u ++ r) (hu : u < 18446744073709551616) : getN l p = ((u : Int), (encN u).length, 0) := by
  have := getF_put l p 10 0 u 0 r rfl (by rw [Nat.add_zero]; exact h) (by simpa using hu) (by decide) (by omega)
  simpa [getN, encN] using this
theorem gw_put {l : List UInt8} {a : Nat} {x r : List UInt8} (h : l.drop a = encN x.length ++ x ++ r) (hx : x.length ≤ 255) (ha : a ≤ l.length) : gw l a = (x, (encN x.length).length + x.length, 0) := by
  rw [List.append_assoc] at h
  have h1 := getN_put h (by omega)
  have hl := congrArg List.length h
  simp only [List.length_drop, List.length_append] at hl
  unfold gw
  rw [h1]
  dsimp only
  rw [if_pos rfl, if_neg (by omega), if_neg (by omega), Int.toNat_natCast]
  have h2 : l.drop (a + (encN x.length).length) = x ++ r := by
    rw [← List.drop_drop, h, List.drop_left]
  rw [h2, List.take_left]
theorem gwl_put {l : List UInt8} : ∀ (T acc : List Str) (a : Nat) (r : List UInt8), l.drop a = encS T ++ r → a ≤ l.length → (∀ x ∈ T, x.length ≤ 255) → Sup (acc ++ T) → gwl l T.length a acc = (acc ++ T, a + (encS T).length, 0)
  | [], acc, a, r, h, ha, hx, hs => by simp [gwl, encS]
  | x :: T, acc, a, r, h, ha, hx, hs => by
    have e : encS (x :: T) = encN x.length ++ x ++ encS T := by rw [show x :: T = [x] ++ T from rfl, encS_app, encS_one]
    rw [e, List.append_assoc] at h
    have hg := gw_put h (hx x (List.mem_cons_self ..)) ha
    have hl := congrArg List.length h
    simp only [List.length_drop, List.length_append] at hl
    rw [List.length_cons, gwl_next (by rw [hg]) (by
      rw [hg]
      intro y hy
      have hm := List.mem_of_getLast? hy
      exact (List.pairwise_append.1 hs).2.2 y hm x (List.mem_cons_self ..)), hg]
    dsimp only
    have ih := gwl_put T (acc ++ [x]) (a + ((encN x.length).length + x.length)) r (by
      rw [← List.drop_drop, h, show (encN x.length).length + x.length = (encN x.length ++ x).length by simp, List.drop_left]) (by omega) (fun y hy => hx y (List.mem_cons_of_mem _ hy)) (by simpa using hs)
    rw [ih, e]
    simp [List.append_assoc]
    omega
theorem gws_put {l0 S : List Str} {most : Nat} (hs : Sup S) (hx : ∀ x ∈ S, x.length ≤ 255) (hk : S.length ≤ most) (hm : most ≤ 65536) : gws (dk l0 S) most = (S, (encN S.length ++ encS S).length, 0) := by
  have h0 : (dk l0 S).drop 0 = encN S.length ++ (encS S ++ ([UInt8.ofNat (pkw (plc l0 S))] ++ pkd (plc l0 S))) := by
    rw [List.drop_zero]; unfold dk; simp [List.append_assoc]
  have h1 := getN_put h0 (by omega)
  unfold gws
  rw [h1]
  dsimp only
  rw [if_neg (by simp), if_neg (by omega), Int.toNat_natCast]
  have h2 : (dk l0 S).drop (encN S.length).length = encS S ++ ([UInt8.ofNat (pkw (plc l0 S))] ++ pkd (plc l0 S)) := by
    rw [List.drop_zero] at h0
    rw [h0, List.drop_left]
  have hl : (encN S.length).length ≤ (dk l0 S).length := by
    rw [List.drop_zero] at h0
    rw [h0]; simp
  rw [gwl_put S [] _ _ h2 hl hx (by simpa using hs)]
  simp
theorem dk_drop (l S : List Str) : (dk l S).drop (encN S.length ++ encS S).length = UInt8.ofNat (pkw (plc l S)) :: pkd (plc l S) := by
  unfold dk
  rw [show encN S.length ++ encS S ++ [UInt8.ofNat (pkw (plc l S))] ++ pkd (plc l S) = (encN S.length ++ encS S) ++ (UInt8.ofNat (pkw (plc l S)) :: pkd (plc l S)) by simp [List.append_assoc], List.drop_left]
theorem dk_len (l S : List Str) (h : ∀ x ∈ S, x.length ≤ 255) (hS : S.length ≤ 4096) : (dk l S).length ≤ 2000000 := by
  have h1 := encN_len S.length
  have h2 := encS_len S h
  have h3 := pkd_len (plc l S)
  unfold dk
  simp only [List.length_append, List.length_cons, List.length_nil]
  omega
theorem Wds.lt {l S : List Str} (h : Wds l S) : ∀ p ∈ plc l S, p < S.length := fun p hp => by
  obtain ⟨y, hy, rfl⟩ := List.mem_map.1 hp
  exact List.idxOf_lt_length_of_mem ((h.mem y).2 hy)
theorem Wds.all {l S : List Str} (h : Wds l S) : ∀ q, q < S.length → q ∈ plc l S := fun q hq => by
  have hm : S[q] ∈ l := (h.mem _).1 (List.getElem_mem hq)
  have := idx_self h.up (List.getElem?_eq_getElem hq)
  exact List.mem_map.2 ⟨S[q], hm, this⟩
end Go.Proofs
end

section
namespace Go.Proofs
open Go.RowKit NT Go.Shelf Go.Lib Go.Sort
set_option maxRecDepth 100000
theorem wpList_mkw {ops : Array Oper} {rest : List Oper} {o : Oper} {a : Act} {w : World} {Q : Exit → Act → World → Prop} (hg : o.guard = none) (l c : Operand) (hop : o.op = Op.makeSlice 22 l c) (n : Nat) (hn : n ≤ 65536) (hl : a.eval l = .int .i64 n) (hc : a.eval c = .int .i64 n)
    (h : ∀ w', SY w' w.heap.size (List.replicate n []) n → Below w.heap.size w w' → wpList Try.prog ops Q rest (a.put o.dst (.slice (some ⟨w.heap.size, 0, none⟩) n n)) w') : wpList Try.prog ops Q (o :: rest) a w :=
  wpList_plain hg fun K hK => oper_mk l c hop n hn hl hc fun w' h1 h2 _ => hK _ _ (h w' h1 h2)
theorem own_rw {w : World} {B : Nat} {v : Value} {S : List Str} (h : w.ownsRow B 9 1 v S.length (S.map encStr)) : ∃ A c, v = .slice A S.length c ∧ RW w A S := by
  by_cases hv : v = .slice none 0 0
  · subst hv
    have h0 : S.length = 0 := by
      rcases h.2 with ⟨_, q⟩ | ⟨_, _, _, q, _⟩
      · exact q
      · cases q
    obtain rfl := List.eq_nil_of_length_eq_zero h0
    exact ⟨none, 0, rfl, fun j x hx => by simp at hx⟩
  · obtain ⟨_, b, c, rfl, hb, hc, hs⟩ := SY.own h hv
    exact ⟨_, c, rfl, SY.rw (S := S) (r := []) (by simpa using hs)⟩
theorem DI.cut {w : World} {b o n c a : Nat} {l : List UInt8} (h : DI w (some ⟨b, o, none⟩) n c l) (ha : a ≤ n) : DI w (some ⟨b, o + a, none⟩) (n - a) (c - a) (l.drop a) := by
  have h1 := h.len
  have h2 := h.le
  have h3 := h.max
  refine ⟨by rw [List.length_drop]; omega, by omega, by omega, fun j y hj => ⟨_, rfl, ?_⟩⟩
  rw [List.getElem?_drop] at hj
  obtain ⟨Y, hY, hc⟩ := h.at' _ y hj
  cases hY
  rw [add_none] at hc ⊢
  rwa [Nat.add_assoc]
theorem Try.dgetE (w : World) {A : Option Addr} {n c : Nat} {l : List UInt8} (hD : DI w A n c l) (hn : n ≤ 2000000) (most : Nat) (hmost : most ≤ 4096) (he : (gws l most).2.2 ≠ 0) :
    Calls Try.prog 14 #[.slice A n c, .int .i64 most] w fun e w' => e = .returned (.tuple #[.slice none 0 0, .int .i64 (gws l most).2.2]) ∧ Below w.heap.size w w' := by
  have HD := Lib.hid hD
  have d1 : decide ((most : Int) < 0) = false := decide_eq_false (by omega)
  have d2 : decide ((4096 : Int) < most) = false := decide_eq_false (by omega)
  have d2' : decide (4096 < most) = false := decide_eq_false (by omega)
  obtain ⟨e, hE⟩ : ∃ e, (gws l most).2.2 = e := ⟨_, rfl⟩
  rw [hE] at he
  have g1 : (e == 0) = false := by simpa using he
  have g2 : decide (e = 0) = false := by simpa using he
  have HE := Lib.hid hE
  rw [hE]
  clear hD he hE
  go_enter Try.func14, Try.ntmps14
  go_wp2_with fail
  refine (Try.getWords w HD.out hn most (by omega)).mono ?_
  rintro e1 w1 ⟨v, rfl, hG⟩
  rw [HE.out]
  have HG := Lib.hid hG.bel
  clear hG
  go_wp2_with fail
  go_ret2
  exact ⟨rfl, HG.out⟩
set_option maxHeartbeats 4000000 in
theorem Try.dget (w : World) {b0 o0 : Nat} {N c : Nat} (l S : List Str) (hD : DI w (some ⟨b0, o0, none⟩) N c (dk l S)) (hS : Wds l S) (hx : ∀ x ∈ S, x.length ≤ 255) (n : Nat) (hl : l.length = n) (hn : n ≤ 4096) (hSn : S.length ≤ n) :
    Calls Try.prog 14 #[.slice (some ⟨b0, o0, none⟩) N c, .int .i64 n] w fun e w' => ∃ b, e = .returned (.tuple #[.slice (some ⟨b, 0, none⟩) n n, .int .i64 0]) ∧ RW w' (some ⟨b, 0, none⟩) l ∧ Below w.heap.size w w' := by
  have HD := Lib.hid hD
  have HL := Lib.hid hl
  have HS := Lib.hid hS
  have hlen := hD.len
  have hNc := hD.le
  have hdl := dk_len l S hx (by omega)
  have hgw := gws_put (l0 := l) (most := n) hS.up hx hSn (by omega)
  have hdrop := dk_drop l S
  have hpos : (encN S.length ++ encS S).length < (dk l S).length := by
    have := congrArg List.length hdrop
    rw [List.length_drop] at this
    simp only [List.length_cons] at this
    omega
  obtain ⟨at', hat⟩ : ∃ at', (encN S.length ++ encS S).length = at' := ⟨_, rfl⟩
  rw [hat] at hgw hdrop hpos
  obtain ⟨k, hk⟩ : ∃ k, S.length = k := ⟨_, rfl⟩
  rw [hk] at hSn
  have HK := Lib.hid hk
  have HGW := Lib.hid hgw
  have HDR := Lib.hid hdrop
  have haN : at' < N := by omega
  have haN' : (at' : Int) ≤ N := by omega
  have hac : ¬ c = at' := by omega
  have hac' : at' ≤ c := by omega
  have hN2 : N ≤ 2000000 := by omega
  have d1 : decide ((n : Int) < 0) = false := decide_eq_false (by omega)
  have d2 : decide ((4096 : Int) < n) = false := decide_eq_false (by omega)
  have d2' : decide (4096 < n) = false := decide_eq_false (by omega)
  clear hD hl hS hx hlen hdl hgw hdrop hpos hat hk
  go_enter Try.func14, Try.ntmps14
  go_wp2_with fail
  refine (Try.getWords w HD.out hN2 n (by omega)).mono ?_
  rintro e1 w1 ⟨v, rfl, hG⟩
  rw [HGW.out] at hG ⊢
  obtain ⟨A, c1, rfl, hrw⟩ := own_rw (hG.ok rfl)
  dsimp only at hrw ⊢
  rw [HK.out]
  have HRW := Lib.hid hrw
  have HB1 := Lib.hid hG.bel
  clear hG hrw
  have HDC : Hid (DI w1 (some ⟨b0, o0 + at', none⟩) (N - at') (c - at') (UInt8.ofNat (pkw (plc l S)) :: pkd (plc l S))) := Lib.hid (by rw [← HDR.out]; exact (HD.out.below HB1.out).cut (by omega))
  have hp1 : (plc l S).length = n := by unfold plc; rw [List.length_map]; exact HL.out
  have HP1 := Lib.hid hp1
  clear hp1
  go_wp2_with fail
  refine (Try.getPlaces w1 (plc l S) HDC.out n k HP1.out (by omega) (by omega) (plc_u64 (by rw [HK.out]; omega)) (by have := HS.out.lt; rwa [HK.out] at this) (by have := HS.out.all; rwa [HK.out] at this)).mono ?_
  rintro e2 w2 ⟨pb, cc, rfl, hpb, hdu, hb2⟩
  have HDU := Lib.hid hdu
  have HB2 := Lib.hid (HB1.out.trans (hb2.mono HB1.out.size))
  have HRW2 := Lib.hid (HRW.out.below hb2)
  clear hpb hdu hb2 HRW HDC
  go_wp2_with (refine wpList_mkw rfl _ _ rfl n (by omega) rfl rfl ?_)
  intro w3 hs3 hb3
  obtain ⟨ob, hob⟩ : ∃ ob, w2.heap.size = ob := ⟨_, rfl⟩
  rw [hob] at hs3 hb3 ⊢
  have HOB := Lib.hid hob
  have HS3 := Lib.hid hs3
  have HB3 := Lib.hid hb3
  clear hs3 hb3 hob
  go_wp2_with fail
  go_loopw [46] (fun t wr => ∃ i : Nat, i ≤ n ∧ t = .int .i64 i ∧ Hid (Below ob w2 wr) ∧ Hid (SY wr ob (l.take i ++ List.replicate (n - i) []) n)) (fun t _ => n - (intO t).toNat)
  case atStart => exact ⟨0, Nat.zero_le _, rfl, HB3, Lib.hid (by simpa using HS3.out)⟩
  case round =>
    obtain ⟨i, hi, rfl, HV, HY⟩ := hrel
    by_cases hlt : i < n
    · have d3 : decide ((i : Int) < n) = true := decide_eq_true (by omega)
      have d3' : decide (i < n) = true := decide_eq_true hlt
      obtain ⟨x, hx⟩ : ∃ x, l[i]? = some x := ⟨_, List.getElem?_eq_getElem (by rw [HL.out]; exact hlt)⟩
      have hxS : x ∈ S := (HS.out.mem x).2 (List.mem_of_getElem? hx)
      have hix := idx_at hxS
      have hpk : S.idxOf x < k := by rw [← HK.out]; exact List.idxOf_lt_length_of_mem hxS
      have HVV := Lib.hid (show Below w2.heap.size w2 wr by rw [HOB.out]; exact HV.out)
      obtain ⟨Z, hZ, hc9⟩ := (HDU.out.below HVV.out).at' i (S.idxOf x) (by unfold plc; rw [List.getElem?_map, hx]; rfl)
      cases hZ
      rw [add_none, Nat.zero_add] at hc9
      unfold u64v at hc9
      obtain ⟨X, hX, hcx⟩ := (HRW2.out.below HVV.out) (S.idxOf x) x hix
      subst hX
      obtain ⟨y, hy⟩ : ∃ y, (l.take i ++ List.replicate (n - i) [])[i]? = some y := ⟨_, List.getElem?_eq_getElem (by have := HL.out; simp; omega)⟩
      have c0 := HY.out.cell hy
      have f0 := HY.out.z i
      have HN : Hid (SY (wr.setCell ⟨ob, i, none⟩ (encStr x)) ob (l.take (i + 1) ++ List.replicate (n - (i + 1)) []) n) := Lib.hid (by
        have h1 := HY.out.set i x (by have := HL.out; simp; omega)
        have h2 : (l.take i).length = i := by have := HL.out; simp; omega
        rw [List.set_append_right _ _ (by omega), h2, Nat.sub_self, show n - i = (n - (i + 1)) + 1 by omega, List.replicate_succ, List.set_cons_zero] at h1
        rw [List.take_add_one, hx]
        simpa [List.append_assoc] using h1)
      have HV2 : Hid (Below ob w2 (wr.setCell ⟨ob, i, none⟩ (encStr x))) := Lib.hid (HV.out.trans ⟨rfl, rfl, rfl, by simp [World.setCell], fun q hq => heap_setCell_other wr ⟨ob, i, none⟩ q _ (by show q ≠ ob; omega)⟩)
      have d5 : decide ((i : Int) < n) = true := d3
      clear hx hxS hix hy
      generalize S.idxOf x = p at hpk hc9 hcx
      have g3 : decide ((p : Int) < k) = true := decide_eq_true (by omega)
      have g4 : decide (p < k) = true := decide_eq_true hpk
      go_wp2_with fail
      exact ⟨⟨i + 1, by omega, rfl, HV2, HN⟩, by simp [intO]; omega⟩
    · obtain rfl : i = n := by omega
      have d3 : decide ((i : Int) < i) = false := by simp
      have d3' : decide (i < i) = false := by simp
      have HR : Hid (RW wr (some ⟨ob, 0, none⟩) l) := Lib.hid (by
        have := HY.out
        rw [Nat.sub_self, List.take_of_length_le (by rw [HL.out]; exact Nat.le_refl _)] at this
        exact this.rw)
      have HB9 := Lib.hid (HB2.out.trans ((show Below w2.heap.size w2 wr by rw [HOB.out]; exact HV.out).mono HB2.out.size))
      go_wp2_with fail
      go_ret2
      exact ⟨ob, rfl, HR.out, HB9.out⟩
end Go.Proofs
end

section
namespace Go.Proofs
open Go.RowKit NT Go.Shelf Go.Lib Go.Sort
set_option maxRecDepth 100000
theorem Try.same (a b : Option Addr) (n m m' : Nat) (w : World) (l : List Nat) (ha : DU w a n m l) (hb : DU w b n m' l) (hn : n ≤ 65536) :
    Calls Try.prog 13 #[.slice a n m, .slice b n m'] w fun e w' => e = .returned (.bool true) ∧ Below w.heap.size w w' := by
  have HA := Lib.hid ha
  have HB := Lib.hid hb
  have HL := Lib.hid ha.len
  clear ha hb
  go_enter Try.func13, Try.ntmps13
  go_wp2_with fail
  go_loopw [5] (fun t wr => ∃ i : Nat, i ≤ n ∧ t = .int .i64 i ∧ Hid (Below w.heap.size w wr)) (fun t _ => n - (intO t).toNat)
  case atStart => exact ⟨0, Nat.zero_le _, rfl, Lib.hid (Below.refl _ _)⟩
  case round =>
    obtain ⟨i, hi, rfl, HJ⟩ := hrel
    by_cases hlt : i < n
    · have d1 : decide ((i : Int) < n) = true := decide_eq_true (by omega)
      have d1' : decide (i < n) = true := decide_eq_true hlt
      obtain ⟨x, hx⟩ : ∃ x, l[i]? = some x := ⟨_, List.getElem?_eq_getElem (by rw [HL.out]; exact hlt)⟩
      obtain ⟨X, hX, k0⟩ := HA.out.at' i x hx
      obtain ⟨Y, hY, k1⟩ := HB.out.at' i x hx
      subst hX
      subst hY
      have c0 : wr.cell? (X.add i) = some (.int .u64 x) := (World.cell?_of_block (HJ.out.block _ (block_lt_of_cell k0))).trans k0
      have c1 : wr.cell? (Y.add i) = some (.int .u64 x) := (World.cell?_of_block (HJ.out.block _ (block_lt_of_cell k1))).trans k1
      clear hx k0 k1
      go_upto_region 6 with fail
      refine wp_region_noPanic ?_
      refine wp_region_held_drew (S := (fun W => W.cell? (X.add i) = some (.int .u64 x) ∧ W.cell? (Y.add i) = some (.int .u64 x))) (by kernel_rfl) ?_ (fun hHeld => ?_)
      · exact ⟨c0, c1⟩
      refine wpAnyH_take (i := 0) (oi := { dst := some 17, op := Op.move (Operand.tmp 0), type := 25, pos := "law.go:15", after := #[], guard := none }) (v := ?_) rfl (by kernel_rfl) (by kernel_rfl) (by kernel_rfl) (fun _ _ _ h => h) (Or.inl ⟨by rfl, ?_⟩) (by assumption) ?_
      rotate_left
      · (intro w hSw; (try dsimp only at hSw); go_simp; try with_reducible rfl)
      try simp only [Act.put, List.setIfInBounds_toArray, List.set_cons_zero, List.set_cons_succ]
      refine wpAnyH_take (i := 1) (oi := { dst := some 18, op := Op.move (Operand.tmp 5), type := 3, pos := "law.go:15", after := #[], guard := none }) (v := ?_) rfl (by kernel_rfl) (by kernel_rfl) (by kernel_rfl) (fun _ _ _ h => h) (Or.inl ⟨by rfl, ?_⟩) (by assumption) ?_
      rotate_left
      · (intro w hSw; (try dsimp only at hSw); go_simp; try with_reducible rfl)
      try simp only [Act.put, List.setIfInBounds_toArray, List.set_cons_zero, List.set_cons_succ]
      refine wpAnyH_take (i := 2) (oi := { dst := some 19, op := Op.indexAddr 25 (Operand.tmp 17) (Operand.tmp 18), type := 0, pos := "law.go:15", after := #[{ on := 0, ground := Ground.data }, { on := 1, ground := Ground.data }], guard := none }) (v := ?_) rfl (by kernel_rfl) (by kernel_rfl) (by kernel_rfl) (fun _ _ _ h => h) (Or.inl ⟨by rfl, ?_⟩) (by assumption) ?_
      rotate_left
      · (intro w hSw; (try dsimp only at hSw); go_simp; try with_reducible rfl)
      try simp only [Act.put, List.setIfInBounds_toArray, List.set_cons_zero, List.set_cons_succ]
      refine wpAnyH_take (i := 3) (oi := { dst := some 20, op := Op.load 39 (Operand.tmp 19), type := 39, pos := "law.go:15", after := #[{ on := 2, ground := Ground.data }], guard := none }) (v := ?_) rfl (by kernel_rfl) (by kernel_rfl) (by kernel_rfl) (fun _ _ _ h => h) (Or.inl ⟨by rfl, ?_⟩) (by assumption) ?_
      rotate_left
      · (intro w hSw; (try dsimp only at hSw); go_simp; try with_reducible rfl)
      try simp only [Act.put, List.setIfInBounds_toArray, List.set_cons_zero, List.set_cons_succ]
      refine wpAnyH_take (i := 4) (oi := { dst := some 21, op := Op.move (Operand.tmp 1), type := 25, pos := "law.go:15", after := #[], guard := none }) (v := ?_) rfl (by kernel_rfl) (by kernel_rfl) (by kernel_rfl) (fun _ _ _ h => h) (Or.inl ⟨by rfl, ?_⟩) (by assumption) ?_
      rotate_left
      · (intro w hSw; (try dsimp only at hSw); go_simp; try with_reducible rfl)
      try simp only [Act.put, List.setIfInBounds_toArray, List.set_cons_zero, List.set_cons_succ]
      refine wpAnyH_take (i := 5) (oi := { dst := some 22, op := Op.move (Operand.tmp 5), type := 3, pos := "law.go:15", after := #[], guard := none }) (v := ?_) rfl (by kernel_rfl) (by kernel_rfl) (by kernel_rfl) (fun _ _ _ h => h) (Or.inl ⟨by rfl, ?_⟩) (by assumption) ?_
      rotate_left
      · (intro w hSw; (try dsimp only at hSw); go_simp; try with_reducible rfl)
      try simp only [Act.put, List.setIfInBounds_toArray, List.set_cons_zero, List.set_cons_succ]
      refine wpAnyH_take (i := 6) (oi := { dst := some 23, op := Op.indexAddr 25 (Operand.tmp 21) (Operand.tmp 22), type := 0, pos := "law.go:15", after := #[{ on := 4, ground := Ground.data }, { on := 5, ground := Ground.data }], guard := none }) (v := ?_) rfl (by kernel_rfl) (by kernel_rfl) (by kernel_rfl) (fun _ _ _ h => h) (Or.inl ⟨by rfl, ?_⟩) (by assumption) ?_
      rotate_left
      · (intro w hSw; (try dsimp only at hSw); go_simp; try with_reducible rfl)
      try simp only [Act.put, List.setIfInBounds_toArray, List.set_cons_zero, List.set_cons_succ]
      refine wpAnyH_take (i := 7) (oi := { dst := some 24, op := Op.load 39 (Operand.tmp 23), type := 39, pos := "law.go:15", after := #[{ on := 6, ground := Ground.data }], guard := none }) (v := ?_) rfl (by kernel_rfl) (by kernel_rfl) (by kernel_rfl) (fun _ _ _ h => h) (Or.inl ⟨by rfl, ?_⟩) (by assumption) ?_
      rotate_left
      · (intro w hSw; (try dsimp only at hSw); go_simp; try with_reducible rfl)
      try simp only [Act.put, List.setIfInBounds_toArray, List.set_cons_zero, List.set_cons_succ]
      refine wpAnyH_take (i := 8) (oi := { dst := some 25, op := Op.binOp BinOp.neq 39 (Operand.tmp 20) (Operand.tmp 24) 39, type := 4, pos := "law.go:15", after := #[{ on := 3, ground := Ground.data }, { on := 7, ground := Ground.data }], guard := none }) (v := ?_) rfl (by kernel_rfl) (by kernel_rfl) (by kernel_rfl) (fun _ _ _ h => h) (Or.inl ⟨by rfl, ?_⟩) (by assumption) ?_
      rotate_left
      · (intro w hSw; (try dsimp only at hSw); go_simp; try with_reducible rfl)
      try simp only [Act.put, List.setIfInBounds_toArray, List.set_cons_zero, List.set_cons_succ]
      refine wpAnyH_done (by kernel_rfl) ?_ _
      refine NoPanic.normal ?_
      go_wp2_with fail
      exact ⟨⟨i + 1, by omega, rfl, Lib.hid (HJ.out).drew⟩, by simp [intO]; omega⟩
    · obtain rfl : i = n := by omega
      have d1 : decide ((i : Int) < i) = false := by simp
      have d1' : decide (i < i) = false := by simp
      go_wp2_with fail
      go_ret
      exact ⟨rfl, HJ.out⟩
end Go.Proofs
end

section
namespace Go.Proofs
open Go.RowKit NT Go.Shelf Go.Lib Go.Sort
set_option maxRecDepth 100000
theorem rw_alloc (w : World) (cs : Array Value) (l : List Str) (h : cs = (l.map encStr).toArray) : RW (w.alloc (.cells cs 9)) (some ⟨w.heap.size, 0, none⟩) l := by
  subst h
  intro j x hj
  refine ⟨_, rfl, ?_⟩
  rw [add_none, Nat.zero_add, cell_of_row _ _ _ _ 9 (0, 0) (heap_alloc_new _ _)]
  simp [hj]
theorem di_alloc (w : World) (cs : Array Value) (l : List UInt8) (n : Nat) (hn : l.length = n) (hm : n ≤ 65536) (h : cs = (l.map u8v).toArray) : DI (w.alloc (.cells cs 5)) (some ⟨w.heap.size, 0, none⟩) n n l := by
  subst h
  refine ⟨hn, Nat.le_refl _, by unfold maxLen; omega, fun j x hj => ⟨_, rfl, ?_⟩⟩
  rw [add_none, Nat.zero_add, cell_of_row _ _ _ _ 5 (0, 0) (heap_alloc_new _ _)]
  simp [hj]
theorem du_alloc (w : World) (cs : Array Value) (l : List Nat) (n : Nat) (hn : l.length = n) (hm : n ≤ 65536) (h : cs = (l.map u64v).toArray) : DU (w.alloc (.cells cs 39)) (some ⟨w.heap.size, 0, none⟩) n n l := by
  subst h
  refine ⟨hn, Nat.le_refl _, by unfold maxLen; omega, fun j x hj => ⟨_, rfl, ?_⟩⟩
  rw [add_none, Nat.zero_add, cell_of_row _ _ _ _ 39 (0, 0) (heap_alloc_new _ _)]
  simp [hj]
def kl : List Str := [[98], [97], [98]]
def kS : List Str := [[97], [98]]
theorem kwds : Wds kl kS := ⟨by unfold kS Sup; decide, fun x => by unfold kl kS; simp; intro h; exact .inr h⟩
theorem kdk : dk kl kS = [2, 1, 97, 1, 98, 1, 5] := by decide +kernel
theorem kplc : plc kl kS = [1, 0, 1] := by decide +kernel
theorem kg1 : (gws [2, 1, 98, 1, 97, 1, 3] 2).2.2 = 2 := by decide +kernel
theorem kg2 : (gws [1, 1, 97, 0] 0).2.2 = 4 := by decide +kernel
theorem kg3 : (gws [1, 9, 97] 1).2.2 = 5 := by decide +kernel
theorem OB.lit {w : World} {B : Nat} {v : Value} {l : List UInt8} (h : OB w B v l) (h0 : 0 < l.length) : ∃ g c, v = .slice (some ⟨g, 0, none⟩) l.length c ∧ DI w (some ⟨g, 0, none⟩) l.length c l := by
  obtain ⟨A, c, rfl, hD⟩ := h.di
  have h' : w.ownsRow B 5 1 (.slice A l.length c) l.length (l.map u8v) := h
  rcases h'.2 with ⟨q, _⟩ | ⟨g, cap, cur, q, _⟩
  · injection q with q1 q2 q3
    omega
  · cases q
    exact ⟨g, _, rfl, hD⟩
set_option maxHeartbeats 4000000 in
theorem Try.knownW (w : World) : Calls Try.prog 6 #[] w fun e w' => e = .returned (.bool true) ∧ Below w.heap.size w w' := by
  go_enter Try.func6, Try.ntmps6
  go_wp2_with fail
  have h1 := rw_alloc w #[.string ⟨#[98]⟩, .string ⟨#[97]⟩, .string ⟨#[98]⟩] kl rfl
  have hb1 := (Below.refl _ w).alloc (Nat.le_refl _) (.cells #[.string ⟨#[98]⟩, .string ⟨#[97]⟩, .string ⟨#[98]⟩] 9)
  generalize w.alloc (.cells #[.string ⟨#[98]⟩, .string ⟨#[97]⟩, .string ⟨#[98]⟩] 9) = w1 at h1 hb1 ⊢
  have H1 := Lib.hid h1
  have B1 := Lib.hid hb1
  clear h1 hb1
  refine (Try.buildU _ 3 3 w1 (by omega) (fun h => by cases h) kl kS rfl H1.out kwds).mono ?_
  rintro e2 w2 ⟨k, A, B, c, c', rfl, hB⟩
  have hk : k = 2 := hB.kl.symm
  subst hk
  have HR2 := Lib.hid hB.rw
  have HD2 : Hid (DU w2 B 3 c' [1, 0, 1]) := Lib.hid (by rw [← kplc]; exact hB.du)
  have B2 := Lib.hid (B1.out.trans (hB.bel.mono B1.out.size))
  have H2 := Lib.hid (H1.out.below hB.bel)
  clear hB
  go_wp2_with fail
  refine (Try.dput _ 3 3 w2 (fun h => by cases h) kl kS rfl H2.out kwds (by omega)).mono ?_
  rintro e3 w3 ⟨hb3, hcase⟩
  have hex : ∃ v, e3 = .returned (.tuple #[v, .int .i64 0]) ∧ OB w3 w2.heap.size v (dk kl kS) := by
    rcases hcase with ⟨_, _, q⟩ | ⟨hno, _⟩
    · exact q
    · exact absurd ⟨by decide, by unfold kS; decide⟩ hno
  obtain ⟨v, rfl, ho⟩ := hex
  obtain ⟨g, c3, rfl, hD3⟩ := ho.lit (by rw [kdk]; decide)
  have hlen7 : (dk kl kS).length = 7 := by rw [kdk]; rfl
  rw [hlen7] at hD3 ⊢
  have HD3 := Lib.hid hD3
  have B3 := Lib.hid (B2.out.trans (hb3.mono B2.out.size))
  have H3 := Lib.hid (H2.out.below hb3)
  have HR3 := Lib.hid (HR2.out.below hb3)
  have HP3 := Lib.hid (HD2.out.below hb3)
  clear hcase ho hD3 hb3 H2 HR2 HD2 hlen7
  go_wp2_with fail
  refine (Try.dget w3 kl kS HD3.out kwds (by unfold kS; decide) 3 rfl (by omega) (by decide)).mono ?_
  rintro e4 w4 ⟨b4, rfl, hr4, hb4⟩
  have HR4 := Lib.hid hr4
  have B4 := Lib.hid (B3.out.trans (hb4.mono B3.out.size))
  have H4 := Lib.hid (H3.out.below hb4)
  have HW4 := Lib.hid (HR3.out.below hb4)
  have HP4 := Lib.hid (HP3.out.below hb4)
  have HD4 := Lib.hid (HD3.out.below hb4)
  clear hr4 hb4 H3 HR3 HP3 HD3
  go_wp2_with fail
  have h1 := di_alloc w4 #[.int .u8 2, .int .u8 1, .int .u8 98, .int .u8 1, .int .u8 97, .int .u8 1, .int .u8 3] [2, 1, 98, 1, 97, 1, 3] 7 rfl (by omega) rfl
  have hb1 := (Below.refl _ w4).alloc (Nat.le_refl _) (.cells #[.int .u8 2, .int .u8 1, .int .u8 98, .int .u8 1, .int .u8 97, .int .u8 1, .int .u8 3] 5)
  generalize w4.alloc (.cells #[.int .u8 2, .int .u8 1, .int .u8 98, .int .u8 1, .int .u8 97, .int .u8 1, .int .u8 3] 5) = v4 at h1 hb1 ⊢
  have HX := Lib.hid h1
  have BV := Lib.hid hb1
  clear h1 hb1
  refine (Try.dgetE v4 HX.out (by omega) 2 (by omega) (by rw [kg1]; decide)).mono ?_
  rintro e5 w5 ⟨rfl, hbu⟩
  rw [kg1]
  have BU' := Lib.hid (BV.out.trans (hbu.mono BV.out.size))
  have B5 := Lib.hid (B4.out.trans (BU'.out.mono B4.out.size))
  have HR5 := Lib.hid (HR4.out.below BU'.out)
  have H5 := Lib.hid (H4.out.below BU'.out)
  have HW5 := Lib.hid (HW4.out.below BU'.out)
  have HP5 := Lib.hid (HP4.out.below BU'.out)
  have HD5 := Lib.hid (HD4.out.below BU'.out)
  clear hbu BV BU' HX HR4 H4 HW4 HP4 HD4
  go_wp2_with fail
  have h1 := di_alloc w5 #[.int .u8 1, .int .u8 1, .int .u8 97, .int .u8 0] [1, 1, 97, 0] 4 rfl (by omega) rfl
  have hb1 := (Below.refl _ w5).alloc (Nat.le_refl _) (.cells #[.int .u8 1, .int .u8 1, .int .u8 97, .int .u8 0] 5)
  generalize w5.alloc (.cells #[.int .u8 1, .int .u8 1, .int .u8 97, .int .u8 0] 5) = v5 at h1 hb1 ⊢
  have HX := Lib.hid h1
  have BV := Lib.hid hb1
  clear h1 hb1
  refine (Try.dgetE v5 HX.out (by omega) 0 (by omega) (by rw [kg2]; decide)).mono ?_
  rintro e6 w6 ⟨rfl, hbu⟩
  rw [kg2]
  have BU' := Lib.hid (BV.out.trans (hbu.mono BV.out.size))
  have B6 := Lib.hid (B5.out.trans (BU'.out.mono B5.out.size))
  have HR6 := Lib.hid (HR5.out.below BU'.out)
  have H6 := Lib.hid (H5.out.below BU'.out)
  have HW6 := Lib.hid (HW5.out.below BU'.out)
  have HP6 := Lib.hid (HP5.out.below BU'.out)
  have HD6 := Lib.hid (HD5.out.below BU'.out)
  clear hbu BV BU' HX HR5 H5 HW5 HP5 HD5
  go_wp2_with fail
  have h1 := di_alloc w6 #[.int .u8 1, .int .u8 9, .int .u8 97] [1, 9, 97] 3 rfl (by omega) rfl
  have hb1 := (Below.refl _ w6).alloc (Nat.le_refl _) (.cells #[.int .u8 1, .int .u8 9, .int .u8 97] 5)
  generalize w6.alloc (.cells #[.int .u8 1, .int .u8 9, .int .u8 97] 5) = v6 at h1 hb1 ⊢
  have HX := Lib.hid h1
  have BV := Lib.hid hb1
  clear h1 hb1
  refine (Try.dgetE v6 HX.out (by omega) 1 (by omega) (by rw [kg3]; decide)).mono ?_
  rintro e7 w7 ⟨rfl, hbu⟩
  rw [kg3]
  have BU' := Lib.hid (BV.out.trans (hbu.mono BV.out.size))
  have B7 := Lib.hid (B6.out.trans (BU'.out.mono B6.out.size))
  have HR7 := Lib.hid (HR6.out.below BU'.out)
  have H7 := Lib.hid (H6.out.below BU'.out)
  have HW7 := Lib.hid (HW6.out.below BU'.out)
  have HP7 := Lib.hid (HP6.out.below BU'.out)
  have HD7 := Lib.hid (HD6.out.below BU'.out)
  clear hbu BV BU' HX HR6 H6 HW6 HP6 HD6
  go_wp2_with fail
  have h1 := rw_alloc w7 #[.string ⟨#[97]⟩, .string ⟨#[98]⟩] kS rfl
  have hb1 := (Below.refl _ w7).alloc (Nat.le_refl _) (.cells #[.string ⟨#[97]⟩, .string ⟨#[98]⟩] 9)
  generalize w7.alloc (.cells #[.string ⟨#[97]⟩, .string ⟨#[98]⟩] 9) = v7 at h1 hb1 ⊢
  have HX := Lib.hid h1
  have BV := Lib.hid hb1
  clear h1 hb1
  refine (Try.words A _ 2 c 2 v7 kS rfl (by omega) (HW7.out.below BV.out) HX.out).mono ?_
  rintro e8 w8 ⟨rfl, hbu⟩
  have BU8 := Lib.hid (BV.out.trans (hbu.mono BV.out.size))
  have B8 := Lib.hid (B7.out.trans (BU8.out.mono B7.out.size))
  have HR8 := Lib.hid (HR7.out.below BU8.out)
  have H8 := Lib.hid (H7.out.below BU8.out)
  have HP8 := Lib.hid (HP7.out.below BU8.out)
  have HD8 := Lib.hid (HD7.out.below BU8.out)
  clear hbu BV HX BU8 HR7 H7 HW7 HP7 HD7
  go_wp2_with fail
  have h1 := du_alloc w8 #[.int .u64 1, .int .u64 0, .int .u64 1] [1, 0, 1] 3 rfl (by omega) rfl
  have hb1 := (Below.refl _ w8).alloc (Nat.le_refl _) (.cells #[.int .u64 1, .int .u64 0, .int .u64 1] 39)
  generalize w8.alloc (.cells #[.int .u64 1, .int .u64 0, .int .u64 1] 39) = v8 at h1 hb1 ⊢
  have HX := Lib.hid h1
  have BV := Lib.hid hb1
  clear h1 hb1
  refine (Try.same B _ 3 c' 3 v8 [1, 0, 1] (HP8.out.below BV.out) HX.out (by omega)).mono ?_
  rintro e9 w9 ⟨rfl, hbu⟩
  have BU9 := Lib.hid (BV.out.trans (hbu.mono BV.out.size))
  have B9 := Lib.hid (B8.out.trans (BU9.out.mono B8.out.size))
  have HR9 := Lib.hid (HR8.out.below BU9.out)
  have H9 := Lib.hid (H8.out.below BU9.out)
  have HD9 := Lib.hid (HD8.out.below BU9.out)
  have hst : (convert 28 9 (.slice (some ⟨g, 0, none⟩) 7 c3)).run Try.prog w9 = .ok (.string ⟨#[2, 1, 97, 1, 98, 1, 5]⟩) w9 := by
    have h := str_arg (l := dk kl kS) (w := w9) (A := ⟨g, 0, none⟩) (fun j u hu => by
      rw [List.getElem?_map] at hu
      obtain ⟨y, hy, rfl⟩ := Option.map_eq_some_iff.1 hu
      obtain ⟨Y, hY, hc⟩ := HD9.out.at' j y hy
      cases hY
      exact hc) 7 c3 HD9.out.len
    rw [kdk] at h
    exact h
  clear hbu BV HX BU9 HR8 H8 HP8 HD8
  go_wp2_with fail
  refine (Try.words _ _ 3 3 3 w9 kl rfl (by omega) HR9.out H9.out).mono ?_
  rintro e10 w10 ⟨rfl, hbu⟩
  have B10 := Lib.hid (B9.out.trans (hbu.mono B9.out.size))
  clear hbu
  go_wp2_with fail
  go_ret
  exact ⟨rfl, B10.out⟩
end Go.Proofs
end

section
namespace Go.Proofs
open Go.RowKit NT Go.Shelf Go.Lib Go.Sort
set_option maxRecDepth 100000
theorem up_ex : ∀ l : List Str, ∃ ys, Up ys ∧ ys.Perm l
  | [] => ⟨[], List.Pairwise.nil, List.Perm.refl _⟩
  | x :: l => by
    obtain ⟨ys, h1, h2⟩ := up_ex l
    refine ⟨mrg [x] ys, mrg_up (List.pairwise_singleton _ _) h1, (mrg_perm [x] ys).trans ?_⟩
    exact List.Perm.cons x h2
theorem wds_ex (l : List Str) : ∃ S, Wds l S := by
  obtain ⟨ys, h1, h2⟩ := up_ex l
  exact ⟨compact ys, compact_sup h1, fun x => (compact_mem h1 x).trans h2.mem_iff⟩
theorem sub_len : ∀ (S l : List Str), S.Nodup → (∀ x ∈ S, x ∈ l) → S.length ≤ l.length
  | [], l, _, _ => Nat.zero_le _
  | x :: S, l, hn, hs => by
    have hx := hs x (List.mem_cons_self ..)
    have hn' := List.nodup_cons.1 hn
    have ih := sub_len S (l.erase x) hn'.2 fun y hy => (List.mem_erase_of_ne (fun e => hn'.1 (by subst e; exact hy))).2 (hs y (List.mem_cons_of_mem _ hy))
    rw [List.length_erase_of_mem hx] at ih
    have := List.length_pos_of_mem hx
    rw [List.length_cons]
    omega
theorem Wds.len {l S : List Str} (h : Wds l S) : S.length ≤ l.length :=
  sub_len S l (h.up.imp fun {a b} hab e => by rw [e, lt_irrefl] at hab; cases hab) fun x hx => (h.mem x).1 hx
theorem dk_pos (l S : List Str) : 0 < (dk l S).length := by unfold dk; simp; omega
end Go.Proofs
end
