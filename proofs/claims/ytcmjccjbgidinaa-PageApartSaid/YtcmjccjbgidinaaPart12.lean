/-
  Texts of a proof over the translated program: proved evaluators and walks, part 12 of 17.
-/
import Derived.Test.YtcmjccjbgidinaaPart11
import Derived.Below
import Derived.Deep.RegionLaw
import Derived.Deep.RegionLawGrows
import Derived.Deep.RegionWith
import Derived.Handy
import Derived.IntWalk
import Derived.Laws.CopyOwn
import Derived.Laws.MakeOwn
import Derived.Lib.Hide
import Derived.Lib.SlBytesRow
import Derived.LoopTactic
import Derived.Outline
import Derived.OwnWalk
import Derived.Scope
import Derived.Test.YtcmjccjbgidinaaProg
import Derived.WalkKit
import Derived.WalkSpells
set_option linter.unusedVariables false
set_option linter.unusedSimpArgs false
set_option linter.unusedSectionVars false
set_option linter.unnecessarySimpa false
section
namespace Go.Proofs
open Go.RowKit
set_option maxRecDepth 100000
def strOf (l : List UInt8) : ByteArray := ⟨l.toArray⟩
theorem strOf_size (l : List UInt8) : (strOf l).size = l.length := by simp [strOf, ByteArray.size]
theorem BY.bytes {w : World} {b : Nat} {l : List UInt8} {c : Nat} (h : BY w b l c) : Lib.Bytes w b 0 (strOf l) := by
  intro i hi
  rw [Nat.zero_add]
  have hi' : i < l.length := by rw [strOf_size] at hi; exact hi
  rw [h.cell i hi']
  rfl
theorem BY.str {w : World} {b : Nat} {l : List UInt8} {c : Nat} (h : BY w b l c) (n : Nat) (hn : l.length = n) (m : Nat) : (convert 31 9 (.slice (some ⟨b, 0, none⟩) n m)).run Try.prog w = .ok (.string (strOf l)) w := by
  subst hn
  have := Lib.run_convert_whole (P := Try.prog) w 31 5 9 Try.underlying31 Try.underlying5 Try.underlying9 b 0 (strOf l) h.bytes m
  rw [strOf_size] at this
  exact this
theorem step_want {P : Program} {ops : Array Oper} {o : Oper} {a : Act} {w : World} {K : Act → World → Prop} {Q : Exit → Act → World → Prop} {E : Prop} (hw : Region.wanted o (yielded ops a.tmps) = true) (h : Oper.wp P o a w K Q) :
    if Region.wanted o (yielded ops a.tmps) = true then Oper.wp P o a w K Q else E := by
  rw [if_pos hw]
  exact h
theorem win_same (T bb : List UInt8) (i k : Nat) (hT : T.length = 64 * k) (hi : i < k) (hb : bb.length = 64) : ((T.take (64 * i) ++ (bb ++ T.drop (64 * i + 64))).drop (i * 64)).take 64 = bb := by
  have h1 : (T.take (64 * i)).length = i * 64 := by simp; omega
  rw [List.drop_append_of_le_length (by omega), List.drop_of_length_le (by omega), List.nil_append, List.take_append_of_le_length (by omega), List.take_of_length_le (by omega)]
theorem win_rep (n i k : Nat) (x : UInt8) (hi : i < k) : ((List.replicate (64 * k) x).drop (i * 64)).take 64 = List.replicate 64 x := by
  rw [List.drop_replicate, List.take_replicate]
  congr 1
  omega
theorem DW.keep {w w' : World} {F S : Nat → Prop} {d k lb cl tb ct : Nat} {vw : Value} {ds : List (Nat × Nat)} {L T : List UInt8} {Q : List (Nat × List UInt8)} (hd : DW w F d k lb cl tb ct vw ds L T Q) (hc : Chg w w' S) (hS : ∀ b, F b → ¬ S b) :
    DW w' F d k lb cl tb ct vw ds L T Q := by
  have hb : ∀ b, F b → w'.heap[b]? = w.heap[b]? := fun b h => hc.block b (hd.lt b h) (hS b h)
  exact ⟨fun b h => Nat.lt_of_lt_of_le (hd.lt b h) hc.size, (hb d hd.fd).trans hd.here, hd.fd, hd.fl, hd.ft, hd.dl, hd.dt, hd.lt', hd.hk, hd.Ll, hd.Tl, hd.bl.congr (hb lb hd.fl), hd.bt.congr (hb tb hd.ft), hd.cl', hd.ct', own_stay hd.ow (fun b h => hb b (hd.fw b h).1), hd.fw, AllW.stay (fun b q => q) (fun b q1 q2 => ⟨hb b q1, q2⟩) _ _ hd.al⟩
end Go.Proofs
end

section
namespace Go.Proofs
open Go.RowKit
set_option maxRecDepth 100000
theorem Try.info76 : (Try.prog.info? 76).map (fun i => (i.zero, i.size, i.bytes)) = some (some (.agg #[.int .i64 0, .slice none 0 0]), 2, 32) := by kernel_rfl
structure RW (w : World) (F : Nat → Prop) (m k db dc : Nat) (A : Option Addr) (wc : Nat) (ds : List (Nat × Nat)) (D : List UInt8) (Q : List (Nat × List UInt8)) : Prop where
  lt : ∀ b, F b → b < w.heap.size
  here : w.heap[m]? = some (.cells #[.slice (some ⟨db, 0, none⟩) (64 * k) dc, .slice A Q.length wc] 60 (0, 0))
  fm : F m
  fd : F db
  md : m ≠ db
  hk : k ≤ 1024
  Dl : D.length = 64 * k
  bd : BY w db D dc
  dc' : 64 * k ≤ dc
  aw : (A = none ∧ Q = [] ∧ wc = 0) ∨ ∃ b, A = some ⟨b, 0, none⟩ ∧ F b ∧ b ≠ m ∧ Q.length ≤ wc ∧ ∀ i u, (wCells Q ds)[i]? = some u → w.cell? ⟨b, i, none⟩ = some u
  al : AllW w F [m] k Q ds
def RV (w : World) (F : Nat → Prop) (m k : Nat) (D : List UInt8) (Q : List (Nat × List UInt8)) : Prop := ∃ db dc A wc ds, RW w F m k db dc A wc ds D Q
theorem RW.c0 {w : World} {F : Nat → Prop} {m k db dc wc : Nat} {A : Option Addr} {ds : List (Nat × Nat)} {D : List UInt8} {Q : List (Nat × List UInt8)} (h : RW w F m k db dc A wc ds D Q) : w.cell? ⟨m, 0, none⟩ = some (.slice (some ⟨db, 0, none⟩) (64 * k) dc) := by
  rw [cell_of_row w m 0 _ 60 (0, 0) h.here]; rfl
theorem RW.c1 {w : World} {F : Nat → Prop} {m k db dc wc : Nat} {A : Option Addr} {ds : List (Nat × Nat)} {D : List UInt8} {Q : List (Nat × List UInt8)} (h : RW w F m k db dc A wc ds D Q) : w.cell? ⟨m, 1, none⟩ = some (.slice A Q.length wc) := by
  rw [cell_of_row w m 1 _ 60 (0, 0) h.here]; rfl
theorem RW.keep {w w' : World} {F S : Nat → Prop} {m k db dc wc : Nat} {A : Option Addr} {ds : List (Nat × Nat)} {D : List UInt8} {Q : List (Nat × List UInt8)} (h : RW w F m k db dc A wc ds D Q) (hc : Chg w w' S) (hS : ∀ b, F b → ¬ S b) : RW w' F m k db dc A wc ds D Q := by
  have hb : ∀ b, F b → w'.heap[b]? = w.heap[b]? := fun b q => hc.block b (h.lt b q) (hS b q)
  refine ⟨fun b q => Nat.lt_of_lt_of_le (h.lt b q) hc.size, (hb m h.fm).trans h.here, h.fm, h.fd, h.md, h.hk, h.Dl, h.bd.congr (hb db h.fd), h.dc', ?_, AllW.stay (fun b q => q) (fun b q1 q2 => ⟨hb b q1, q2⟩) _ _ h.al⟩
  rcases h.aw with q | ⟨b, q1, q2, q3, q4, q5⟩
  · exact .inl q
  · exact .inr ⟨b, q1, q2, q3, q4, fun i u hu => (World.cell?_of_block (w := w) (a := ⟨b, i, none⟩) (hb b q2)).trans (q5 i u hu)⟩
theorem Try.rblocks (m n c : Nat) (a : Option Addr) (hn : n ≤ 65536) (w : World) (hc : w.cell? ⟨m, 0, none⟩ = some (.slice a n c)) :
    Calls Try.prog 40 #[.pointer (some ⟨m, 0, none⟩)] w fun e w' => e = .returned (.int .i64 ((n / 64 : Nat) : Int)) ∧ w = w' := by
  go_enter Try.func40, Try.ntmps40
  go_wp2
  go_ret
  exact ⟨rfl, rfl⟩
def NewRef (w : World) (k : Nat) (l : List UInt8) (v : Value) (w' : World) : Prop := ∃ m F, v = .pointer (some ⟨m, 0, none⟩) ∧ RV w' F m k l [] ∧ Below w.heap.size w w' ∧ ∀ b, F b → w.heap.size ≤ b
theorem newref_of {w w1 : World} {k : Nat} (hk : k ≤ 1024) {l : List UInt8} (hl : l.length = 64 * k) {b1 c1 : Nat} (h1 : w.heap.size ≤ b1) (hc1 : 64 * k ≤ c1) (hb1 : BY w1 b1 l c1) (hw1 : Below w.heap.size w w1) :
    NewRef w k l (.pointer (some ⟨w1.heap.size, 0, none⟩)) (w1.alloc (.cells #[.slice (some ⟨b1, 0, none⟩) (64 * k) c1, .slice none 0 0] 60)) := by
  have s1 := hw1.size
  have l1 := hb1.lt
  refine ⟨w1.heap.size, fun b => w.heap.size ≤ b ∧ b ≤ w1.heap.size, rfl, ⟨b1, c1, none, 0, [], ?_⟩, hw1.alloc (by omega) _, fun b h => h.1⟩
  refine ⟨fun b hb => by simp; omega, heap_alloc_new _ _, ⟨by omega, Nat.le_refl _⟩, ⟨h1, by omega⟩, by omega, hk, hl, hb1.congr (Below.heap_alloc _ _ _ (by omega)), hc1, .inl ⟨rfl, rfl, rfl⟩, trivial⟩
theorem own_empty (w : World) : (w.alloc (.cells #[] 5)).ownsRow w.heap.size 5 1 (.slice (some ⟨w.heap.size, 0, none⟩) 0 0) 0 [] := World.ownsRow_made (base := w.heap.size) (e := 5) (size := 1) w #[] 0 (Nat.le_refl _) (Nat.zero_le _) rfl
theorem run_app_empty {P : Program} (w : World) (ty : TypeId) (ht : P.underlying 31 = some (.slice 5)) (hq : (P.info? 5).map (fun i => (i.zero, i.size, i.bytes)) = some (some (.int .u8 0), 1, 1)) (A : Addr) (n m : Nat) (l : List UInt8) (hl : l.length = n) (hn : n ≤ 65536)
    (hc : ∀ j u, (l.map u8v)[j]? = some u → w.cell? (A.add j) = some u) :
    ∃ b c w1, (Builtin.append_ #[31, 31] ty #[.slice (some ⟨w.heap.size, 0, none⟩) 0 0, .slice (some A) n m]).run P (w.alloc (.cells #[] 5)) = .ok (.slice (some ⟨b, 0, none⟩) n c) w1 ∧ w.heap.size ≤ b ∧ n ≤ c ∧ BY w1 b l c ∧ Below w.heap.size w w1 := by
  obtain ⟨i0, hi, hz0, hz1, hz2⟩ := info_parts hq
  obtain ⟨v, w1, r1, r2, r3, r4⟩ := run_append_own (P := P) (w.alloc (.cells #[] 5)) w.heap.size 31 ty 5 i0 (.int .u8 0) 1 1 ht hi hz0 hz1 hz2 rfl (by decide) _ _ _ (own_empty w) A n m (l.map u8v) (by simp [hl]) (cells_alloc _ hc) (u8v_one l) (by unfold maxLen; omega) (by omega) (by simp)
  have hv : v ≠ .slice none 0 0 := fun q => by have := (r4.1 q).1; simp at this
  have hb : Below w.heap.size w w1 := ((Below.refl _ w).alloc (Nat.le_refl _) _).grown r3 (by simp) (fun k hk => by simp [Value.ownBlock] at hk; omega)
  rw [Nat.zero_add, List.nil_append] at r2
  obtain ⟨_, b, c, rfl, h2, h3, h4⟩ := BY.own r2 hv
  exact ⟨b, c, w1, r1, h2, h3, h4, hb⟩
theorem wpList_app_empty {P : Program} (w : World) {ops : Array Oper} {rest : List Oper} {o : Oper} {a : Act} {Q : Exit → Act → World → Prop} (hg : o.guard = none) (s x : Operand)
    (hop : o.op = Op.call { callee := Callee.builtin Builtin.append, args := #[s, x], argTypes := #[31, 31] }) (ht : P.underlying 31 = some (.slice 5)) (hq : (P.info? 5).map (fun i => (i.zero, i.size, i.bytes)) = some (some (.int .u8 0), 1, 1))
    (A : Addr) (n m : Nat) (l : List UInt8) (hs : a.eval s = .slice (some ⟨w.heap.size, 0, none⟩) 0 0) (hx : a.eval x = .slice (some A) n m) (hl : l.length = n) (hn : n ≤ 65536) (hc : ∀ j u, (l.map u8v)[j]? = some u → w.cell? (A.add j) = some u)
    (hK : ∀ b c w1, w.heap.size ≤ b → n ≤ c → BY w1 b l c → Below w.heap.size w w1 → wpList P ops Q rest (a.put o.dst (.slice (some ⟨b, 0, none⟩) n c)) w1) : wpList P ops Q (o :: rest) a (w.alloc (.cells #[] 5)) := by
  refine wpList_plain hg fun K hK' => ?_
  obtain ⟨b, c, w1, r1, r2, r3, r4, r5⟩ := run_app_empty (P := P) w o.type ht hq A n m l hl hn hc
  unfold Oper.wp
  simp [execOp, hop, resolve, invoke, builtin, hs, hx, r1, Result.andThen]
  exact hK' _ _ (hK b c w1 r2 r3 r4 r5)
def lastW (i : Nat) : List (Nat × List UInt8) → Option (List UInt8)
  | [] => none
  | q :: Q => match lastW i Q with | some b => some b | none => if q.1 = i then some q.2 else none
def told (D : List UInt8) (Q : List (Nat × List UInt8)) (i : Nat) : List UInt8 := ((lastW i Q).getD ((D.drop (i * 64)).take 64))
theorem lastW_drop (i : Nat) : ∀ (j : Nat) (Q : List (Nat × List UInt8)) (b : List UInt8), lastW i (Q.drop j) = some b → lastW i Q = some b
  | 0, Q, b, h => by simpa using h
  | j + 1, [], b, h => by simp [lastW] at h
  | j + 1, q :: Q, b, h => by
    have := lastW_drop i j Q b (by simpa using h)
    simp [lastW, this]
theorem lastW_snoc (i : Nat) (q : Nat × List UInt8) : ∀ Q, lastW i (Q ++ [q]) = if q.1 = i then some q.2 else lastW i Q
  | [] => by simp [lastW]
  | p :: Q => by
    simp only [List.cons_append, lastW, lastW_snoc i q Q]
    by_cases h : q.1 = i <;> simp [h]
theorem cellA {w : World} {p : Addr} {v : Value} (h : w.cell? p = some v) : ∀ o, (w.alloc o).cell? p = some v := fun o => (World.cell?_of_block (w := w) (Below.heap_alloc w o _ (block_lt_of_cell h))).trans h
set_option maxHeartbeats 1000000 in
theorem Try.rread_good {w : World} {F : Nat → Prop} {m k db dc wc : Nat} {A : Option Addr} {ds : List (Nat × Nat)} {D : List UInt8} {Q : List (Nat × List UInt8)} (h : RW w F m k db dc A wc ds D Q) (hQ : Q.length ≤ 1000000) (i : Nat) (hi : i < k) :
    Calls Try.prog 22 #[.pointer (some ⟨m, 0, none⟩), .int .i64 i] w (ReadGood w (told D Q i)) := by
  have H := Lib.hid h
  have c0 := h.c0
  have c1 := h.c1
  have hk := h.hk
  have h16 : 64 * k ≤ 65536 := by omega
  have hq : 64 * k / 64 = k := by omega
  have q1 : decide ((i : Int) < 0) = false := by simp
  have q2 : decide ((k : Int) ≤ i) = false := by simp; omega
  clear h
  go_enter Try.func22, Try.ntmps22
  go_wp2_with (go_at_call 40; refine (Try.rblocks _ _ _ _ h16 _ c0).mono ?_; rintro e w' ⟨rfl, rfl⟩; rw [hq])
  go_loop [6] (fun t => ∃ (j : Nat) (z : Int), j ≤ Q.length ∧ z = (j : Int) - 1 ∧ t = .int .i64 z ∧ lastW i (Q.drop j) = none) (fun t => (intOf t + 1).toNat)
  case atStart => exact ⟨Q.length, _, Nat.le_refl _, rfl, rfl, by rw [List.drop_length]; rfl⟩
  case round =>
    obtain ⟨j, z, hj, hz, rfl, hn⟩ := hrel
    by_cases h0 : j = 0
    · obtain rfl : z = -1 := by omega
      subst h0
      have ht : told D Q i = (D.drop (i * 64)).take 64 := by unfold told; rw [List.drop_zero] at hn; rw [hn]; rfl
      have HTD := Lib.hid ht
      have hDl := (H.out).Dl
      have hw := (H.out).bd.win (i * 64) 64 (by omega)
      have HL : Hid (((D.drop (i * 64)).take 64).length = 64) := Lib.hid (by simp; omega)
      rw [Nat.mul_comm i 64] at hw
      have HW : Hid (∀ j u, (((D.drop (i * 64)).take 64).map u8v)[j]? = some u → w.cell? ((⟨db, 64 * i, none⟩ : Addr).add j) = some u) := Lib.hid (by rw [Nat.mul_comm i 64]; exact hw)
      have HL64 : Hid (((D.drop (i * 64)).take 64).length = 64 * i + 64 - 64 * i) := Lib.hid (by rw [HL.out]; omega)
      have hdc := (H.out).dc'
      have hg0 : decide ((0 : Int) ≤ -1) = false := by decide
      have a0 := cellA c0
      have hg1 : ¬ ((0 : Int) ≤ -1) := by decide
      clear hw ht hn hDl hz
      go_wp2_with (at_builtin; refine wpList_app_empty w rfl (.tmp 45) (.tmp 55) rfl Try.underlying31 Try.info5 ⟨db, 64 * i, none⟩ (64 * i + 64 - 64 * i) _ ((D.drop (i * 64)).take 64) rfl rfl HL64.out (by omega) HW.out ?_)
      intro b c w1 r1 r2 r3 r4
      have HG : Hid (ReadGood w ((D.drop (i * 64)).take 64) (.returned (.tuple #[.slice (some ⟨b, 0, none⟩) 64 c, .int .i64 0])) w1) := Lib.hid ⟨b, c, rfl, r1, r2, r3, r4⟩
      clear r1 r2 r3 r4 a0
      go_wp2
      go_ret2
      rw [HTD.out]
      exact HG.out
    · obtain ⟨j, rfl⟩ : ∃ j', j = j' + 1 := ⟨j - 1, by omega⟩
      obtain rfl : z = (j : Int) := by omega
      have hjl : j < Q.length := by omega
      obtain ⟨x, x1, ⟨x2, x3, x4, x5, x6, x7⟩, x8, x9⟩ := AllW.get _ _ (H.out).al j hjl
      obtain ⟨wb, rfl, hwl, hwc⟩ : ∃ wb, A = some ⟨wb, 0, none⟩ ∧ Q.length ≤ wc ∧ ∀ i u, (wCells Q ds)[i]? = some u → w.cell? ⟨wb, i, none⟩ = some u := by
        rcases (H.out).aw with ⟨_, h0, _⟩ | ⟨b, q1, q2, q3, q4, q5⟩
        · rw [h0] at hjl; simp at hjl
        · exact ⟨b, q1, q4, q5⟩
      have e1 := hwc _ _ x8
      have e2 := hwc _ _ x9
      rw [Nat.mul_comm 2 j] at e1 e2
      have a1 := cellA c1
      have a2 := cellA e2
      have hnn : lastW i (Q.drop j) = if (Q[j]).1 = i then some (Q[j]).2 else none := by
        rw [List.drop_eq_getElem_cons hjl]; simp only [lastW, hn]
      have HN := Lib.hid hnn
      have X4 := Lib.hid x4
      have X6 := Lib.hid x6.all
      clear hnn x8 x9 hwc hn hz x4 x6
      by_cases he : (Q[j]).1 = i
      · have ht : told D Q i = (Q[j]).2 := by
          have := lastW_drop i j Q _ (by rw [HN.out, if_pos he])
          unfold told; rw [this]; rfl
        rw [ht]
        rw [he] at e1
        have hb : ((i : Int) == (i : Int)) = true := by simp
        clear ht HN he
        generalize (Q[j]).2 = bb at *
        go_wp2_with (at_builtin; refine wpList_app_empty w rfl (.tmp 35) (.tmp 43) rfl Try.underlying31 Try.info5 ⟨x.1, 0, none⟩ 64 x.2 bb rfl rfl X4.out (by omega) X6.out ?_)
        intro b c w1 r1 r2 r3 r4
        have HG : Hid (ReadGood w bb (.returned (.tuple #[.slice (some ⟨b, 0, none⟩) 64 c, .int .i64 0])) w1) := Lib.hid ⟨b, c, rfl, r1, r2, r3, r4⟩
        clear r1 r2 r3 r4 a1 a2
        go_wp2
        go_ret2
        exact HG.out
      · have hb : (((Q[j]).1 : Int) == (i : Int)) = false := by simp; omega
        have hb2 : ¬ ((Q[j]).1 : Int) = (i : Int) := by omega
        have HN2 : Hid (lastW i (Q.drop j) = none) := Lib.hid (by rw [HN.out, if_neg he])
        clear HN he
        go_wp2
        go_round
        case rel => exact ⟨j, _, by omega, rfl, rfl, HN2.out⟩
        all_goals (simp [intOf] <;> omega)
end Go.Proofs
end
