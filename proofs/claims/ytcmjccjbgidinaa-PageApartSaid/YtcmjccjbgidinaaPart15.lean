/-
  Texts of a proof over the translated program: proved evaluators and walks, part 15 of 17.
-/
import Derived.Test.YtcmjccjbgidinaaPart14
import Derived.Below
import Derived.Deep.RegionHeld3
import Derived.Deep.RegionLaw
import Derived.Deep.RegionLawGrows
import Derived.Deep.RegionWith
import Derived.Handy
import Derived.IntWalk
import Derived.Laws.BytesArg
import Derived.Laws.CopyOwn
import Derived.Laws.MakeOwn
import Derived.Lib.Hide
import Derived.Lib.SlBytesRow
import Derived.LoopTactic
import Derived.Outline
import Derived.OwnWalk
import Derived.Scope
import Derived.ScopeJumps
import Derived.Test.YtcmjccjbgidinaaProg
import Derived.WalkKit
import Derived.WalkSpells
set_option linter.unusedVariables false
set_option linter.unusedSimpArgs false
set_option linter.unusedSectionVars false
set_option linter.unnecessarySimpa false
section
namespace Go.Proofs
open Go.RowKit
set_option maxRecDepth 100000
theorem fold_str : ∀ (l : List UInt8) (r : ByteArray), (l.map (fun x => (x.toNat : Int))).foldl (fun r n => r.push (UInt8.ofNat n.toNat)) r = ⟨(r.data.toList ++ l).toArray⟩
  | [], r => by simp
  | x :: l, r => by
    simp only [List.map_cons, List.foldl_cons]
    rw [fold_str l]
    simp [ByteArray.push]
theorem str_arg {w : World} {A : Addr} {l : List UInt8} (hc : ∀ j u, (l.map u8v)[j]? = some u → w.cell? (A.add j) = some u) (n c : Nat) (hn : l.length = n) : (convert 31 9 (.slice (some A) n c)).run Try.prog w = .ok (.string (strOf l)) w := by
  subst hn
  rw [run_convert_bytes_string w 31 9 5 (some A) l.length c Try.underlying31 Try.underlying5 Try.underlying9]
  have h : (loadCells A l.length).run Try.prog w = .ok ((l.map (fun x => (x.toNat : Int))).map (Value.int .u8)).toArray w := by
    have := run_loadCells_list (P := Try.prog) w A (l.map u8v) hc
    rw [List.length_map] at this
    rw [this, List.map_map]
    rfl
  rw [run_bytesToString w A l.length c _ h, fold_str]
  rfl
def YesO (w : World) (e : Ending) (w' : World) : Prop := e = .returned (.bool true) ∧ Below w.heap.size w w'
end Go.Proofs
end

section
namespace Go.Proofs
open Go.RowKit
set_option maxRecDepth 100000
def NewRefGood (w : World) (k : Nat) (e : Ending) (w' : World) : Prop := ∃ v, e = .returned (.tuple #[v, .int .i64 0]) ∧ NewRef w k (List.replicate (64 * k) 0) v w'
theorem Try.rnew_good (k : Nat) (h4 : 4 ≤ k) (hk : k ≤ 1024) (w : World) : Calls Try.prog 12 #[.int .i64 k] w (NewRefGood w k) := by
  obtain ⟨i0, hi, hz0, hz1, hz2⟩ := info_parts Try.info5
  have h1 : decide ((k : Nat) < 4) = false := by simp; omega
  have h2 : decide (1024 < (k : Nat)) = false := by simp; omega
  have h3 : ¬ ((k : Nat) < 4) := by omega
  have h5 : ¬ (1024 < (k : Nat)) := by omega
  have hb2 : i0.bytes * (64 * k) ≤ 281474976710656 := by rw [hz2]; omega
  go_enter Try.func12, Try.ntmps12
  go_wp2_with (at_make; refine wpList_make_full w rfl _ _ 31 rfl w.heap.size 5 i0 (.int .u8 0) 1 Try.underlying31 hi hz0 hz1 _ _ _ _ (64 * k) rfl rfl (by omega) (by omega) hb2 (by unfold maxLen; omega) (Nat.le_refl _) ?_)
  intro w1 hown hg
  rw [made_u8] at hown
  obtain ⟨hl, b, c, he, hb, hc, hby⟩ := BY.own hown (by simp)
  obtain ⟨rfl, rfl⟩ : w.heap.size = b ∧ 64 * k = c := by simpa using he
  have hbel : Below w.heap.size w w1 := (Below.refl _ w).grown hg (Nat.le_refl _) (fun k hk => by simp at hk)
  have H := Lib.hid (newref_of hk hl (Nat.le_refl _) (Nat.le_refl _) hby hbel)
  clear hg hown he hl hby hb hc hbel
  go_wp2
  go_ret2
  exact ⟨_, rfl, H.out⟩
def WaitsV (B n : Nat) (v : Value) : Prop := ∃ b c, v = .slice (some ⟨b, 0, none⟩) n c ∧ B ≤ b
theorem wpList_waits_empty {P : Program} (w : World) {ops : Array Oper} {rest : List Oper} {o : Oper} {a : Act} {Q' : Exit → Act → World → Prop} (hgd : o.guard = none) (s x : Operand)
    (hop : o.op = Op.call { callee := Callee.builtin Builtin.append, args := #[s, x], argTypes := #[58, 58] }) (ht : P.underlying 58 = some (.slice 76)) (hq : (P.info? 76).map (fun i => (i.zero, i.size, i.bytes)) = some (some (.agg #[.int .i64 0, .slice none 0 0]), 2, 32))
    (A : Option Addr) (wc : Nat) (Q : List (Nat × List UInt8)) (ds : List (Nat × Nat)) (hlen : Q.length = ds.length) (hs : a.eval s = .slice (some ⟨w.heap.size, 0, none⟩) 0 0) (hx : a.eval x = .slice A Q.length wc) (hn : Q.length ≤ 1000000)
    (hA : (A = none ∧ Q = [] ∧ wc = 0) ∨ ∃ b, A = some ⟨b, 0, none⟩ ∧ ∀ i u, (wCells Q ds)[i]? = some u → w.cell? ⟨b, i, none⟩ = some u)
    (hK : ∀ v w1, w1.ownsRow w.heap.size 76 2 v Q.length (wCells Q ds) → WaitsV w.heap.size Q.length v → Below w.heap.size w w1 → wpList P ops Q' rest (a.put o.dst v) w1) : wpList P ops Q' (o :: rest) a (w.alloc (.cells #[] 76)) := by
  refine wpList_plain hgd fun K hK' => ?_
  obtain ⟨i0, hi, hz0, hz1, hz2⟩ := info_parts hq
  have hown := own_at (W := w.alloc (.cells #[] 76)) (e := 76) (size := 2) (heap_alloc_new w _) (Nat.le_refl w.heap.size)
  rcases hA with ⟨rfl, rfl, rfl⟩ | ⟨wb, rfl, hcells⟩
  · have hrun := run_append_owned_none (P := P) (w.alloc (.cells #[] 76)) w.heap.size 58 o.type 76 i0 2 ht hi _ _ _ hown
    unfold Oper.wp
    simp only [List.length_nil] at hx
    simp [execOp, hop, resolve, invoke, builtin, hs, hx, hrun, Result.andThen]
    exact hK' _ _ (hK _ _ hown ⟨_, _, rfl, Nat.le_refl _⟩ ((Below.refl _ w).alloc (Nat.le_refl _) _))
  · obtain ⟨v, w1, r1, r2, r3, r4⟩ := run_append_own (P := P) (w.alloc (.cells #[] 76)) w.heap.size 58 o.type 76 i0 (.agg #[.int .i64 0, .slice none 0 0]) 2 32 ht hi hz0 hz1 hz2 rfl (by decide) _ _ _ hown ⟨wb, 0, none⟩ Q.length wc (wCells Q ds) (wCells_len _ _ hlen) (fun j u hu => by rw [add_none, Nat.zero_add]; exact cellA (hcells j u hu) _) (wCells_one Q ds) (by unfold maxLen; omega) (by omega) (by simp)
    have hv : v ≠ .slice none 0 0 := fun q => by have := (r4.1 q).1; simp at this
    have hbel : Below w.heap.size w w1 := ((Below.refl _ w).alloc (Nat.le_refl _) _).grown r3 (by simp) (fun k hk => by simp [Value.ownBlock] at hk; omega)
    rw [Nat.zero_add, List.nil_append] at r2
    unfold Oper.wp
    simp [execOp, hop, resolve, invoke, builtin, hs, hx, r1, Result.andThen]
    refine hK' _ _ (hK _ _ r2 ?_ hbel)
    rcases r2.2 with ⟨e, _⟩ | ⟨g2, cap, cur, e, hb2, _⟩
    · exact absurd e hv
    · exact ⟨g2, cap, e, hb2⟩
def IsSl (v : Value) : Prop := ∃ A n c, v = .slice A n c
theorem wpList_append_at {P : Program} {ops : Array Oper} {rest : List Oper} {o : Oper} {a : Act} {w : World} {Q : Exit → Act → World → Prop} (hg : o.guard = none) (s x : Operand) (t : TypeId) (hop : o.op = Op.call { callee := Callee.builtin Builtin.append, args := #[s, x], argTypes := #[t, t] })
    (e : TypeId) (i : TypeInfo) (z : Value) (size bytes : Nat) (h1 : P.underlying t = some (.slice e)) (h2 : P.info? e = some i) (h3 : i.zero = some z) (h4 : i.size = size) (h5 : i.bytes = bytes) (h6 : z.cells.size = size) (h7 : 0 < size)
    (v : Value) (n : Nat) (xs : List Value) (hs : a.eval s = v) (hown : w.ownsRow 0 e size v n xs)
    (ad : Addr) (m c : Nat) (news : List Value) (hx : a.eval x = .slice (some ad) m c) (hn : news.length = m * size) (hc : ∀ j u, news[j]? = some u → w.cell? (ad.add j) = some u) (h1c : ∀ u ∈ news, u.oneCell' = true)
    (b1 : n + m ≤ maxLen) (b2 : (n + m) * bytes ≤ 140737488355328)
    (hK : ∀ v' w', w'.ownsRow 0 e size v' (n + m) (xs ++ news) → Chg w w' (· ∈ vblk v) → (∀ b ∈ vblk v', b ∈ vblk v ∨ w.heap.size ≤ b) → IsSl v' → wpList P ops Q rest (a.put o.dst v') w') : wpList P ops Q (o :: rest) a w := by
  refine wpList_plain hg fun K hK' => ?_
  obtain ⟨v', w', hrun, r1, r2, r3, r4⟩ := run_append_at (P := P) w t o.type e i z size bytes h1 h2 h3 h4 h5 h6 h7 v n xs hown ad m c news hn hc h1c b1 b2
  unfold Oper.wp
  simp [execOp, hop, resolve, invoke, builtin, hs, hx, hrun, Result.andThen]
  exact hK' _ _ (hK v' w' r1 r2 r3 r4)
end Go.Proofs
end

section
namespace Go.Proofs
open Go.RowKit
set_option maxRecDepth 100000
theorem own_zero {w : World} {B : Nat} {e : TypeId} {size : Nat} {v : Value} {n : Nat} {xs : List Value} (h : w.ownsRow B e size v n xs) : w.ownsRow 0 e size v n xs := by
  refine ⟨h.1, ?_⟩
  rcases h.2 with q | ⟨g, cap, cur, e, _, r⟩
  · exact .inl q
  · exact .inr ⟨g, cap, cur, e, Nat.zero_le _, r⟩
theorem rwaits_end {w w3 : World} {F : Nat → Prop} {m k db dc wc : Nat} {A : Option Addr} {ds ds' : List (Nat × Nat)} {D : List UInt8} {Q Q' : List (Nat × List UInt8)} {v' : Value} (h : RW w F m k db dc A wc ds D Q) (hc : Chg w w3 (fun _ => False))
    (how : w3.ownsRow 0 76 2 v' Q'.length (wCells Q' ds')) (hv : v' = .slice none 0 0 ∨ ∃ b c, v' = .slice (some ⟨b, 0, none⟩) Q'.length c ∧ w.heap.size ≤ b) (hal : AllW w3 (fun b => F b ∨ (w.heap.size ≤ b ∧ b < w3.heap.size)) [m] k Q' ds') :
    ∃ F', RV (w3.setCell ⟨m, 1, none⟩ v') F' m k D Q' ∧ Upd w (w3.setCell ⟨m, 1, none⟩ v') F F' ∧ Chg w (w3.setCell ⟨m, 1, none⟩ v') (· = m) := by
  have hs := hc.size
  have hml := h.lt m h.fm
  have hdl := h.lt db h.fd
  have hsz : (w3.setCell ⟨m, 1, none⟩ v').heap.size = w3.heap.size := by simp [World.setCell]
  have hk : ∀ b, b ≠ m → (w3.setCell ⟨m, 1, none⟩ v').heap[b]? = w3.heap[b]? := fun b q => Below.heap_setCell _ _ _ _ q
  have hch : Chg w (w3.setCell ⟨m, 1, none⟩ v') (· = m) := (hc.mono (S' := (· = m)) (fun b q => q.elim)).trans (Chg.setCell w3 ⟨m, 1, none⟩ v')
  have here : (w3.setCell ⟨m, 1, none⟩ v').heap[m]? = some (.cells #[.slice (some ⟨db, 0, none⟩) (64 * k) dc, v'] 60 (0, 0)) := by
    rw [heap_setCell_same w3 m 1 _ 60 v' ((hc.block m hml id).trans h.here)]; rfl
  have hal' : AllW (w3.setCell ⟨m, 1, none⟩ v') (fun b => F b ∨ (w.heap.size ≤ b ∧ b < w3.heap.size)) [m] k Q' ds' := AllW.stay (fun b q => q) (fun b q1 q2 => ⟨hk b (fun e => q2 (by simp [e])), q2⟩) _ _ hal
  have hbd := (h.bd.congr (hc.block db hdl id)).congr (hk db h.md.symm)
  have hlt : ∀ b, (F b ∨ (w.heap.size ≤ b ∧ b < w3.heap.size)) → b < (w3.setCell ⟨m, 1, none⟩ v').heap.size := fun b q => by
    rw [hsz]
    rcases q with q | q
    · exact Nat.lt_of_lt_of_le (h.lt b q) hs
    · exact q.2
  refine ⟨fun b => F b ∨ (w.heap.size ≤ b ∧ b < w3.heap.size), ?_, ⟨hch.os, hch.tape, hch.output, hch.size, fun b hb hn => hch.block b hb (fun q => hn (q ▸ h.fm)), fun b q => q.imp id (·.1)⟩, hch⟩
  rcases hv with rfl | ⟨b, c, rfl, hb⟩
  · have hQ0 : Q' = [] := by
      rcases how.2 with ⟨_, q⟩ | ⟨g, cap, cur, e, _⟩
      · exact List.eq_nil_of_length_eq_zero q
      · simp at e
    subst hQ0
    exact ⟨db, dc, none, 0, ds', hlt, here, .inl h.fm, .inl h.fd, h.md, h.hk, h.Dl, hbd, h.dc', .inl ⟨rfl, rfl, rfl⟩, hal'⟩
  · have hcells := how.cells (g := b) rfl
    have hcap : Q'.length ≤ c ∧ b < w3.heap.size := by
      rcases how.2 with ⟨q, _⟩ | ⟨g, cap, cur, e, _, hg, hn, _⟩
      · simp at q
      · simp at e
        obtain ⟨rfl, rfl⟩ := e
        exact ⟨hn, (Array.getElem?_eq_some_iff.1 hg).1⟩
    exact ⟨db, dc, some ⟨b, 0, none⟩, c, ds', hlt, here, .inl h.fm, .inl h.fd, h.md, h.hk, h.Dl, hbd, h.dc', .inr ⟨b, rfl, .inr ⟨hb, hcap.2⟩, by omega, hcap.1, fun i u hu => by
      have := hcells i u hu
      rw [add_none, Nat.zero_add] at this
      exact (World.cell?_of_block (w := w3) (a := ⟨b, i, none⟩) (hk b (by omega))).trans this⟩, hal'⟩
def RWritten (w : World) (F : Nat → Prop) (m k : Nat) (D : List UInt8) (Q : List (Nat × List UInt8)) (e : Ending) (w' : World) : Prop := e = .returned (.int .i64 0) ∧ ∃ F', RV w' F' m k D Q ∧ Upd w w' F F' ∧ Chg w w' (· = m)
set_option maxHeartbeats 1000000 in
theorem Try.rwrite_good {w : World} {F : Nat → Prop} {m k db dc wc : Nat} {A : Option Addr} {ds : List (Nat × Nat)} {D : List UInt8} {Q : List (Nat × List UInt8)} (h : RW w F m k db dc A wc ds D Q) (hQ : Q.length ≤ 1000000) (i : Nat) (hi : i < k)
    (X : Addr) (mm : Nat) (bb : List UInt8) (hl : bb.length = 64) (hc : ∀ j u, (bb.map u8v)[j]? = some u → w.cell? (X.add j) = some u) :
    Calls Try.prog 14 #[.pointer (some ⟨m, 0, none⟩), .int .i64 i, .slice (some X) 64 mm] w (RWritten w F m k D (Q ++ [(i, bb)])) := by
  have H := Lib.hid h
  have c0 := h.c0
  have c1 := h.c1
  have a1 := cellA c1
  have hk := h.hk
  have h16 : 64 * k ≤ 65536 := by omega
  have hq : 64 * k / 64 = k := by omega
  have q1 : decide ((i : Int) < 0) = false := by simp
  have q2 : decide ((k : Int) ≤ i) = false := by simp; omega
  have HLEN := Lib.hid (AllW.len _ _ h.al)
  have HC := Lib.hid hc
  have HL := Lib.hid hl
  have HAW : Hid ((A = none ∧ Q = [] ∧ wc = 0) ∨ ∃ b, A = some ⟨b, 0, none⟩ ∧ ∀ i u, (wCells Q ds)[i]? = some u → w.cell? ⟨b, i, none⟩ = some u) := Lib.hid (by
    rcases h.aw with q | ⟨b, q1, q2, q3, q4, q5⟩
    · exact .inl q
    · exact .inr ⟨b, q1, q5⟩)
  obtain ⟨i0, hi76, hz0, hz1, hz2⟩ := info_parts Try.info76
  clear h hc hl
  go_enter Try.func14, Try.ntmps14
  go_wp2_with (first
    | (go_at_call 40; refine (Try.rblocks _ _ _ _ h16 _ c0).mono ?_; rintro e w' ⟨rfl, rfl⟩; rw [hq])
    | (at_builtin; refine wpList_waits_empty w rfl (.tmp 21) (.tmp 25) rfl Try.underlying58 Try.info76 A wc Q ds HLEN.out rfl rfl hQ HAW.out ?_))
  rintro v1 w1 how1 ⟨b1, cb1, rfl, hb1⟩ hw1
  have HW1 := Lib.hid how1
  have HB1 := Lib.hid hw1
  have HC1 := Lib.hid (cells_below HC.out hw1)
  clear how1 hw1 a1 c0 c1
  go_wp2_with (at_builtin; refine wpList_app_empty w1 rfl (.tmp 28) (.tmp 29) rfl Try.underlying31 Try.info5 X 64 mm bb rfl rfl HL.out (by omega) HC1.out ?_)
  intro nb c w2 r1 r2 r3 r4
  have HB2 := Lib.hid r4
  have HY := Lib.hid r3
  have hb63 : Q.length + 1 ≤ maxLen := by unfold maxLen; omega
  have HW2 : Hid (w2.ownsRow 0 76 2 (.slice (some ⟨b1, 0, none⟩) Q.length cb1) Q.length (wCells Q ds)) := Lib.hid (own_stay (own_zero HW1.out) (fun b hb => r4.block b (own_lt (own_zero HW1.out) b hb)))
  have HW3 : Hid (∀ o, (w2.alloc o).ownsRow 0 76 2 (.slice (some ⟨b1, 0, none⟩) Q.length cb1) Q.length (wCells Q ds)) := Lib.hid (fun o => own_stay HW2.out (fun b hb => Below.heap_alloc w2 o b (own_lt HW2.out b hb)))
  clear r3 r4
  go_wp2_with (at_builtin; refine wpList_append_at rfl (.tmp 26) (.tmp 32) 58 rfl 76 i0 (.agg #[.int .i64 0, .slice none 0 0]) 2 32 Try.underlying58 hi76 hz0 hz1 hz2 rfl (by decide) _ Q.length (wCells Q ds) rfl (HW3.out _) _ 1 1 [.int .i64 (i : Int), .slice (some ⟨nb, 0, none⟩) 64 c] rfl rfl (cells_at_new w2 76 _) (by simp [Value.oneCell']) hb63 (by omega) ?_)
  intro v' w3 how3 ch3 hv3 hvs
  obtain ⟨A', n', c', rfl⟩ := hvs
  have s1 := (HB1.out).size
  have s2 := (HB2.out).size
  have k3 : Chg w w3 (fun _ => False) := (((Chg.below HB1.out (fun _ => False)).trans (Chg.below HB2.out (fun _ => False))).trans (Chg.alloc w2 _ _)).trans' ch3 (fun b hb e => by
    simp [vblk] at e; omega)
  have here3 := (k3.block m ((H.out).lt m (H.out).fm) id).trans (H.out).here
  have z1 : w3.cell? ⟨m, 1, none⟩ = some (.slice A Q.length wc) := by rw [cell_of_row w3 m 1 _ 60 (0, 0) here3]; rfl
  have z2 := frozen_of_row w3 m 1 _ 60 here3
  have HE : Hid (RWritten w F m k D (Q ++ [(i, bb)]) (.returned (.int .i64 0)) (w3.setCell ⟨m, 1, none⟩ (.slice A' n' c'))) := by
    refine Lib.hid ⟨rfl, ?_⟩
    have hnl := (HY.out).lt
    have e1 : wCells (Q ++ [(i, bb)]) (ds ++ [(nb, c)]) = wCells Q ds ++ [.int .i64 (i : Int), .slice (some ⟨nb, 0, none⟩) 64 c] := wCells_snoc (i, bb) (nb, c) Q ds HLEN.out
    have hnv : nb ≠ b1 := fun e => by
      have := own_lt (own_zero HW1.out) b1 (by simp [vblk])
      omega
    refine rwaits_end (ds' := ds ++ [(nb, c)]) H.out k3 (by rw [e1, List.length_append]; exact how3) ?_ ?_
    · right
      rcases how3.2 with ⟨q, q0⟩ | ⟨g, cap, cur, e, _⟩
      · simp at q0
      · simp at e
        obtain ⟨rfl, rfl, rfl⟩ := e
        refine ⟨g, c', by simp, ?_⟩
        rcases hv3 g (by simp [vblk]) with q | q
        · simp [vblk] at q; omega
        · (try simp at q); omega
    · have hn3 : nb < w3.heap.size := Nat.lt_of_lt_of_le (Nat.lt_of_lt_of_le hnl (Chg.alloc w2 _ (fun _ => False)).size) ch3.size
      have hy3 : BY w3 nb bb c := ((HY.out).congr (Below.heap_alloc w2 _ nb hnl)).congr (ch3.block nb (by simp; omega) (fun e => by simp [vblk] at e; exact hnv e))
      have hml := (H.out).lt m (H.out).fm
      have hnm : nb ∉ [m] := fun q => by have : nb = m := List.mem_singleton.1 q; omega
      exact AllW.snoc (q := (i, bb)) (x := (nb, c)) ⟨.inr ⟨by show w.heap.size ≤ nb; omega, hn3⟩, hnm, HL.out, hi, hy3, r2⟩ _ _ (AllW.stay (fun b q => .inl q) (fun b q1 q2 => ⟨k3.block b ((H.out).lt b q1) id, q2⟩) _ _ (H.out).al)
  clear how3 ch3 hv3 k3 here3
  go_wp2
  go_ret
  exact HE.out
end Go.Proofs
end

section
namespace Go.Proofs
open Go.RowKit
set_option maxRecDepth 100000
def fq {α : Type} (kp : Nat → Bool) : Nat → List α → List α
  | _, [] => []
  | j, q :: Q => if kp j then q :: fq kp (j + 1) Q else fq kp (j + 1) Q
theorem fq_snoc {α : Type} (kp : Nat → Bool) (q : α) : ∀ (Q : List α) (j : Nat), fq kp j (Q ++ [q]) = fq kp j Q ++ if kp (j + Q.length) then [q] else []
  | [], j => by simp only [List.nil_append, fq, List.length_nil, Nat.add_zero]
  | p :: Q, j => by
    simp only [List.cons_append, fq, List.length_cons]
    rw [fq_snoc kp q Q (j + 1), show j + 1 + Q.length = j + (Q.length + 1) by omega]
    by_cases h : kp j = true <;> simp [h]
theorem fq_len {α β : Type} (kp : Nat → Bool) : ∀ (Q : List α) (D : List β) (j : Nat), Q.length = D.length → (fq kp j Q).length = (fq kp j D).length
  | [], [], _, _ => rfl
  | q :: Q, x :: D, j, h => by
    have := fq_len kp Q D (j + 1) (by simpa using h)
    simp only [fq]
    by_cases hk : kp j = true <;> simp [hk, this]
  | [], _ :: _, _, h => by simp at h
  | _ :: _, [], _, h => by simp at h
theorem AllW.fq {w : World} {F : Nat → Prop} {ns : List Nat} {k : Nat} (kp : Nat → Bool) : ∀ (Q : List (Nat × List UInt8)) (ds : List (Nat × Nat)) (j : Nat), AllW w F ns k Q ds → AllW w F ns k (Proofs.fq kp j Q) (Proofs.fq kp j ds)
  | [], [], _, _ => trivial
  | q :: Q, x :: ds, j, h => by
    have := AllW.fq kp Q ds (j + 1) h.2
    simp only [Proofs.fq]
    by_cases hk : kp j = true
    · simp only [hk, if_true]; exact ⟨h.1, this⟩
    · simp only [hk]; exact this
  | [], _ :: _, _, h => h.elim
  | _ :: _, [], _, h => h.elim
structure CRel (w : World) (Q : List (Nat × List UInt8)) (ds : List (Nat × Nat)) (kp : Nat → Bool) (j : Nat) (v : Value) (wr : World) : Prop where
  le : j ≤ Q.length
  ow : wr.ownsRow 0 76 2 v (fq kp 0 (Q.take j)).length (wCells (fq kp 0 (Q.take j)) (fq kp 0 (ds.take j)))
  nb : ∀ b ∈ vblk v, w.heap.size ≤ b
  ch : Chg w wr (fun _ => False)
theorem CRel.skip {w wr : World} {Q : List (Nat × List UInt8)} {ds : List (Nat × Nat)} {kp : Nat → Bool} {j : Nat} {v : Value} (h : CRel w Q ds kp j v wr) (hl : Q.length = ds.length) (hj : j < Q.length) (hk : kp j = false) : CRel w Q ds kp (j + 1) v wr := by
  have e1 : fq kp 0 (Q.take (j + 1)) = fq kp 0 (Q.take j) := by
    rw [List.take_succ_eq_append_getElem hj, fq_snoc]; simp [Nat.min_eq_left (Nat.le_of_lt hj), hk]
  have e2 : fq kp 0 (ds.take (j + 1)) = fq kp 0 (ds.take j) := by
    rw [List.take_succ_eq_append_getElem (by omega), fq_snoc]; simp [Nat.min_eq_left (show j ≤ ds.length by omega), hk]
  exact ⟨by omega, by rw [e1, e2]; exact h.ow, h.nb, h.ch⟩
theorem CRel.next {w wr w1 : World} {Q : List (Nat × List UInt8)} {ds : List (Nat × Nat)} {kp : Nat → Bool} {j : Nat} {v v' : Value} {O : Obj} {x : Nat × Nat} (h : CRel w Q ds kp j v wr) (hl : Q.length = ds.length) (hj : j < Q.length) (hk : kp j = true) (hx : ds[j]? = some x)
    (ow : w1.ownsRow 0 76 2 v' ((fq kp 0 (Q.take j)).length + 1) (wCells (fq kp 0 (Q.take j)) (fq kp 0 (ds.take j)) ++ [.int .i64 ((Q[j]).1 : Int), .slice (some ⟨x.1, 0, none⟩) 64 x.2]))
    (hc : Chg (wr.alloc O) w1 (· ∈ vblk v)) (hv : ∀ b ∈ vblk v', b ∈ vblk v ∨ (wr.alloc O).heap.size ≤ b) : CRel w Q ds kp (j + 1) v' w1 := by
  have hdl : j < ds.length := by omega
  have hxe : ds[j] = x := by rw [List.getElem?_eq_getElem hdl] at hx; exact Option.some.inj hx
  have e1 : fq kp 0 (Q.take (j + 1)) = fq kp 0 (Q.take j) ++ [Q[j]] := by
    rw [List.take_succ_eq_append_getElem hj, fq_snoc]; simp [Nat.min_eq_left (Nat.le_of_lt hj), hk]
  have e2 : fq kp 0 (ds.take (j + 1)) = fq kp 0 (ds.take j) ++ [x] := by
    rw [List.take_succ_eq_append_getElem hdl, fq_snoc, hxe]; simp [Nat.min_eq_left (show j ≤ ds.length by omega), hk]
  have hs := h.ch.size
  refine ⟨by omega, ?_, fun b hb => ?_, ?_⟩
  · rw [e1, e2, wCells_snoc _ _ _ _ (fq_len kp _ _ 0 (by simp [hl])), List.length_append]
    exact ow
  · rcases hv b hb with q | q
    · exact h.nb b q
    · simp at q; omega
  · refine (h.ch.trans (Chg.alloc wr O _)).trans' hc (fun b hb q => ?_)
    have := h.nb b q
    omega
def RCrashed (w : World) (F : Nat → Prop) (m k : Nat) (D : List UInt8) (e : Ending) (w' : World) : Prop := e = .returned (.tuple #[]) ∧ ∃ F', RV w' F' m k D [] ∧ Upd w w' F F' ∧ Chg w w' (· = m)
theorem Upd.compR {a b c : World} {F F1 F2 : Nat → Prop} (h1 : Upd a b F F1) (h2 : Upd b c F1 F2) : Upd a c F F2 :=
  ⟨h2.os.trans h1.os, h2.tape.trans h1.tape, h2.output.trans h1.output, Nat.le_trans h1.size h2.size, fun x hx hn => (h2.block x (Nat.lt_of_lt_of_le hx h1.size) (fun q => by rcases h1.grow x q with q | q; exact hn q; omega)).trans (h1.block x hx hn), fun x hx => by
    rcases h2.grow x hx with q | q
    · exact h1.grow x q
    · exact .inr (Nat.le_trans h1.size q)⟩
end Go.Proofs
end

section
namespace Go.Proofs
open Go.RowKit
set_option maxRecDepth 100000
theorem Settled.upd {w w' : World} {F : Nat → Prop} {d k lb cl tb ct : Nat} {L T : List UInt8} {e : Ending} (h : Settled w F d k lb cl tb ct L T e w') : Upd w w' F F := by
  obtain ⟨_, h1, h2⟩ := h
  exact ⟨h2.os, h2.tape, h2.output, h2.size, fun b hb hn => h2.block b hb (fun q => hn (by rcases q with rfl | rfl; exact h1.fl; exact h1.fd)), fun b hb => .inl hb⟩
def Crashed (w : World) (F : Nat → Prop) (d k : Nat) (L : List UInt8) (e : Ending) (w' : World) : Prop := e = .returned (.tuple #[]) ∧ ∃ F', DV w' F' d k L L [] ∧ Upd w w' F F'
end Go.Proofs
end

section
namespace Go.Proofs
open Go.RowKit
set_option maxRecDepth 100000
theorem DW.stay {w w' : World} {F S : Nat → Prop} {d k lb cl tb ct : Nat} {vw : Value} {ds : List (Nat × Nat)} {L T : List UInt8} {Q : List (Nat × List UInt8)} (hd : DW w F d k lb cl tb ct vw ds L T Q) (hc : Chg w w' S) (hS : ∀ b, F b → ¬ S b) :
    DW w' F d k lb cl tb ct vw ds L T Q := by
  have hb : ∀ b, F b → w'.heap[b]? = w.heap[b]? := fun b h => hc.block b (hd.lt b h) (hS b h)
  exact ⟨fun b h => Nat.lt_of_lt_of_le (hd.lt b h) hc.size, (hb d hd.fd).trans hd.here, hd.fd, hd.fl, hd.ft, hd.dl, hd.dt, hd.lt', hd.hk, hd.Ll, hd.Tl, hd.bl.congr (hb lb hd.fl), hd.bt.congr (hb tb hd.ft), hd.cl', hd.ct', own_stay hd.ow (fun b h => hb b (hd.fw b h).1), hd.fw, AllW.stay (fun b q => q) (fun b q1 q2 => ⟨hb b q1, q2⟩) _ _ hd.al⟩
theorem DV.stay {w w' : World} {F S : Nat → Prop} {d k : Nat} {L T : List UInt8} {Q : List (Nat × List UInt8)} (hd : DV w F d k L T Q) (hc : Chg w w' S) (hS : ∀ b, F b → ¬ S b) : DV w' F d k L T Q := by
  obtain ⟨lb, cl, tb, ct, vw, ds, h⟩ := hd
  exact ⟨lb, cl, tb, ct, vw, ds, h.stay hc hS⟩
def TwinAt (w : World) (k : Nat) (L T : List UInt8) (Q : List (Nat × List UInt8)) (d : Nat) (wr : World) : Prop := ∃ F, DV wr F d k L T Q ∧ Chg w wr (fun _ => False) ∧ ∀ b, F b → w.heap.size ≤ b
end Go.Proofs
end

section
namespace Go.Proofs
open Go.RowKit
set_option maxRecDepth 100000
def YesW (w : World) (e : Ending) (w' : World) : Prop := e = .returned (.bool true) ∧ Below w.heap.size w w'
def Disj (F G : Nat → Prop) : Prop := ∀ b, F b → G b → False
theorem DV.lt {w : World} {F : Nat → Prop} {d k : Nat} {L T : List UInt8} {Q : List (Nat × List UInt8)} (h : DV w F d k L T Q) : ∀ b, F b → b < w.heap.size := by
  obtain ⟨lb, cl, tb, ct, vw, ds, h⟩ := h
  exact h.lt
theorem DV.other {w w' : World} {F F1 F1' : Nat → Prop} {d k : Nat} {L T : List UInt8} {Q : List (Nat × List UInt8)} (h : DV w F d k L T Q) (hu : Upd w w' F1 F1') (hx : Disj F1 F) : DV w' F d k L T Q ∧ Disj F1' F := by
  refine ⟨h.stay (S := F1) ⟨hu.os, hu.tape, hu.output, hu.size, hu.block⟩ (fun b hb q => hx b q hb), fun b h1 h2 => ?_⟩
  rcases hu.grow b h1 with q | q
  · exact hx b q h2
  · have := h.lt b h2
    omega
theorem cellW {w W : World} {p : Addr} {v : Value} (h : w.cell? p = some v) (hb : Below w.heap.size w W) : W.cell? p = some v := (hb.cell (block_lt_of_cell h)).trans h
theorem Upd.belowW {w w' : World} {F F' : Nat → Prop} (h : Upd w w' F F') {B : Nat} (hF : ∀ b, F b → B ≤ b) (hB : B ≤ w.heap.size) : Below B w w' :=
  ⟨h.os, h.tape, h.output, h.size, fun b hb => h.block b (by omega) (fun q => by have := hF b q; omega)⟩
theorem Upd.lowW {w w' : World} {F F' : Nat → Prop} (h : Upd w w' F F') {B : Nat} (hF : ∀ b, F b → B ≤ b) (hB : B ≤ w.heap.size) : ∀ b, F' b → B ≤ b := fun b hb => by
  rcases h.grow b hb with q | q
  · exact hF b q
  · omega
structure RA (w0 : World) (d : Nat) (L0 : List UInt8) (j : Nat) (wr : World) : Prop where
  ex : ∃ F T Q, DV wr F d 6 L0 T Q ∧ Q.length = j ∧ ∀ b, F b → w0.heap.size ≤ b
  bel : Below w0.heap.size w0 wr
structure RB (w0 : World) (d t u : Nat) (L0 T : List UInt8) (Q : List (Nat × List UInt8)) (j : Nat) (wr : World) : Prop where
  ex : ∃ Fd Ft Fu Tt Qt, DV wr Fd d 6 L0 T Q ∧ DV wr Ft t 6 L0 Tt Qt ∧ DV wr Fu u 6 L0 T Q ∧ Qt.length = j ∧ Disj Ft Fd ∧ Disj Ft Fu ∧ Disj Fd Fu ∧ (∀ b, Fd b → w0.heap.size ≤ b) ∧ (∀ b, Ft b → w0.heap.size ≤ b) ∧ (∀ b, Fu b → w0.heap.size ≤ b)
  bel : Below w0.heap.size w0 wr
theorem TwinAt.below {w w' : World} {k d : Nat} {L T : List UInt8} {Q : List (Nat × List UInt8)} (h : TwinAt w k L T Q d w') : Below w.heap.size w w' := by
  obtain ⟨F, _, h, _⟩ := h
  exact ⟨h.os, h.tape, h.output, h.size, fun b hb => h.block b hb id⟩
structure R3 (w0 wr : World) (d t u : Nat) (Ld Td : List UInt8) (Qd : List (Nat × List UInt8)) (Lt Tt : List UInt8) (Qt : List (Nat × List UInt8)) (Lu Tu : List UInt8) (Qu : List (Nat × List UInt8)) (Fd Ft Fu : Nat → Prop) : Prop where
  d : DV wr Fd d 6 Ld Td Qd
  t : DV wr Ft t 6 Lt Tt Qt
  u : DV wr Fu u 6 Lu Tu Qu
  x1 : Disj Ft Fd
  x2 : Disj Ft Fu
  x3 : Disj Fd Fu
  y1 : ∀ b, Fd b → w0.heap.size ≤ b
  y2 : ∀ b, Ft b → w0.heap.size ≤ b
  y3 : ∀ b, Fu b → w0.heap.size ≤ b
  bel : Below w0.heap.size w0 wr
section
variable {w0 wr w' : World} {d t u : Nat} {Ld Td Lt Tt Lu Tu L' T' : List UInt8} {Qd Qt Qu Q' : List (Nat × List UInt8)} {Fd Ft Fu F' : Nat → Prop}
theorem Disj.symm {F G : Nat → Prop} (h : Disj F G) : Disj G F := fun b x y => h b y x
theorem R3.below (h : R3 w0 wr d t u Ld Td Qd Lt Tt Qt Lu Tu Qu Fd Ft Fu) (hb : Below wr.heap.size wr w') : R3 w0 w' d t u Ld Td Qd Lt Tt Qt Lu Tu Qu Fd Ft Fu :=
  ⟨h.d.stay (Chg.below hb (fun _ => False)) (fun _ _ => id), h.t.stay (Chg.below hb (fun _ => False)) (fun _ _ => id), h.u.stay (Chg.below hb (fun _ => False)) (fun _ _ => id), h.x1, h.x2, h.x3, h.y1, h.y2, h.y3, h.bel.trans (hb.mono h.bel.size)⟩
end
end Go.Proofs
end

section
namespace Go.Proofs
open Go.RowKit
set_option maxRecDepth 100000
def Blk8 (M : List UInt8) (want : List UInt8) : Prop := M.length = 512 ∧ want.length = 8 ∧ ∀ i, i < 8 → (M.drop (i * 64)).take 64 = List.replicate 64 (want.getD i 0)
theorem win_other (T bb : List UInt8) (b i k : Nat) (hT : T.length = 64 * k) (hb : b < k) (hbb : bb.length = 64) (hne : i ≠ b) : ((T.take (b * 64) ++ (bb ++ T.drop (b * 64 + 64))).drop (i * 64)).take 64 = (T.drop (i * 64)).take 64 := by
  apply List.ext_getElem?
  intro j
  simp only [List.getElem?_take, List.getElem?_drop]
  by_cases hj : j < 64
  · simp only [hj, if_true]
    have h1 : (T.take (b * 64)).length = b * 64 := by simp; omega
    by_cases hlt : i < b
    · rw [List.getElem?_append_left (by omega), List.getElem?_take, if_pos (by omega)]
    · rw [List.getElem?_append_right (by omega), List.getElem?_append_right (by omega), List.getElem?_drop, h1, hbb]
      congr 1
      omega
  · simp [hj]
theorem win_same' (T bb : List UInt8) (i k : Nat) (hT : T.length = 64 * k) (hi : i < k) (hb : bb.length = 64) : ((T.take (i * 64) ++ (bb ++ T.drop (i * 64 + 64))).drop (i * 64)).take 64 = bb := by
  have := win_same T bb i k hT hi hb
  rwa [Nat.mul_comm 64 i] at this
theorem Blk8.splice {M want : List UInt8} (h : Blk8 M want) (b : Nat) (hb : b < 8) (x : UInt8) : Blk8 (M.take (b * 64) ++ (List.replicate 64 x ++ M.drop (b * 64 + 64))) (want.set b x) := by
  obtain ⟨h1, h2, h3⟩ := h
  refine ⟨by simp; omega, by simpa using h2, fun i hi => ?_⟩
  by_cases e : i = b
  · subst e
    rw [win_same' M _ i 8 h1 hi (by simp)]
    rw [List.getD_eq_getElem?_getD, List.getElem?_set_self (by omega)]
    rfl
  · rw [win_other M _ b i 8 h1 hb (by simp) e, h3 i hi]
    rw [List.getD_eq_getElem?_getD, List.getD_eq_getElem?_getD, List.getElem?_set_ne (by omega)]
theorem Blk8.zero : Blk8 (List.replicate (64 * 8) 0) (List.replicate 8 0) := by
  refine ⟨by simp, by simp, fun i hi => ?_⟩
  rw [win_rep 64 i 8 0 hi]
  congr 1
  rw [List.getD_eq_getElem?_getD, List.getElem?_replicate, if_pos hi]
  rfl
theorem dset_snoc (kp : Nat → Bool) (q : Nat × List UInt8) : ∀ (Q : List (Nat × List UInt8)) (j : Nat) (L : List UInt8), dset kp j (Q ++ [q]) L = if kp (j + Q.length) then (dset kp j Q L).take (q.1 * 64) ++ (q.2 ++ (dset kp j Q L).drop (q.1 * 64 + 64)) else dset kp j Q L
  | [], j, L => by simp [dset]
  | p :: Q, j, L => by
    simp only [List.cons_append, dset, List.length_cons]
    rw [dset_snoc kp q Q (j + 1) _, show j + 1 + Q.length = j + (Q.length + 1) by omega]
def WantAt (w : World) (g : Nat) (want : List UInt8) : Prop := w.heap[g]? = some (.cells (want.map u8v).toArray 50 (0, 0))
structure KRel (w0 : World) (B : Nat) (d g : Nat) (kp : Nat → Bool) (j : Nat) (wr : World) : Prop where
  hg : B ≤ g
  ex : ∃ F T Q want, DV wr F d 8 (List.replicate (64 * 8) 0) T Q ∧ Q.length = j ∧ Blk8 (dset kp 0 Q (List.replicate (64 * 8) 0)) want ∧ WantAt wr g want ∧ ¬ F g ∧ (∀ b, F b → B ≤ b)
  bel : Below w0.heap.size w0 wr
structure KEnd (w0 : World) (d g : Nat) (want : List UInt8) (wr : World) : Prop where
  ex : ∃ F M, DV wr F d 8 M M [] ∧ Blk8 M want
  w : WantAt wr g want
  bel : Below w0.heap.size w0 wr
theorem KEnd.step {w wr w7 : World} {d g : Nat} {want : List UInt8} (h : KEnd w d g want wr) (hb : Below wr.heap.size wr w7) : KEnd w d g want w7 := by
  obtain ⟨⟨F, M, ⟨lb, cl, tb, ct, vw, ds, h1⟩, h2⟩, h3, h4⟩ := h
  exact ⟨⟨F, M, ⟨lb, cl, tb, ct, vw, ds, h1.keep (Chg.below hb (fun _ => False)) (fun _ _ => id)⟩, h2⟩, (hb.block g (Array.getElem?_eq_some_iff.1 h3).1).trans h3, h4.trans (hb.mono h4.size)⟩
theorem Upd.comp {a b c : World} {F F1 F2 : Nat → Prop} (h1 : Upd a b F F1) (h2 : Upd b c F1 F2) : Upd a c F F2 :=
  ⟨h2.os.trans h1.os, h2.tape.trans h1.tape, h2.output.trans h1.output, Nat.le_trans h1.size h2.size, fun x hx hn => (h2.block x (Nat.lt_of_lt_of_le hx h1.size) (fun q => by rcases h1.grow x q with q | q; exact hn q; omega)).trans (h1.block x hx hn), fun x hx => by
    rcases h2.grow x hx with q | q
    · exact h1.grow x q
    · exact .inr (Nat.le_trans h1.size q)⟩
def Yes' (w : World) (e : Ending) (w' : World) : Prop := e = .returned (.bool true) ∧ Below w.heap.size w w'
end Go.Proofs
end

section
namespace Go.Proofs
open Go.RowKit
set_option maxRecDepth 100000
def AllQ (k : Nat) (Q : List (Nat × List UInt8)) : Prop := ∀ q ∈ Q, q.1 < k ∧ q.2.length = 64
theorem AllW.q {w : World} {F : Nat → Prop} {ns : List Nat} {k : Nat} : ∀ (Q : List (Nat × List UInt8)) (ds : List (Nat × Nat)), AllW w F ns k Q ds → AllQ k Q
  | q :: Q, x :: ds, h => fun p hp => by
    rcases List.mem_cons.1 hp with rfl | hp
    · exact ⟨h.1.2.2.2.1, h.1.2.2.1⟩
    · exact AllW.q Q ds h.2 p hp
  | [], _, _ => fun p hp => by simp at hp
  | q :: Q, [], h => h.elim
theorem dset_len (kp : Nat → Bool) (k : Nat) : ∀ (Q : List (Nat × List UInt8)) (j : Nat) (L : List UInt8), AllQ k Q → L.length = 64 * k → (dset kp j Q L).length = 64 * k
  | [], _, _, _, h => h
  | q :: Q, j, L, hq, h => by
    simp only [dset]
    refine dset_len kp k Q (j + 1) _ (fun p hp => hq p (by simp [hp])) ?_
    obtain ⟨h1, h2⟩ := hq q (by simp)
    by_cases hk : kp j = true
    · simp [hk, h2]; omega
    · simp [hk, h]
theorem told_dset (k : Nat) (L : List UInt8) (hL : L.length = 64 * k) (i : Nat) (hi : i < k) : ∀ (n : Nat) (Q : List (Nat × List UInt8)), Q.length = n → AllQ k Q → told L Q i = ((dset (fun _ => true) 0 Q L).drop (i * 64)).take 64
  | 0, Q, hn, _ => by
    obtain rfl := List.eq_nil_of_length_eq_zero hn
    rfl
  | n + 1, Q, hn, hq => by
    obtain ⟨Q', q, rfl⟩ : ∃ Q' q, Q = Q' ++ [q] := by
      have hne : Q ≠ [] := fun e => by simp [e] at hn
      exact ⟨Q.dropLast, Q.getLast hne, (List.dropLast_concat_getLast hne).symm⟩
    have hq' : AllQ k Q' := fun p hp => hq p (by simp [hp])
    have ih := told_dset k L hL i hi n Q' (by simp at hn; exact hn) hq'
    obtain ⟨h1, h2⟩ := hq q (by simp)
    have hl := dset_len (fun _ => true) k Q' 0 L hq' hL
    rw [dset_snoc, if_pos rfl]
    unfold told
    rw [lastW_snoc]
    by_cases he : q.1 = i
    · subst he
      rw [if_pos rfl, win_same' _ _ q.1 k hl h1 h2]
      rfl
    · rw [if_neg he, win_other _ _ q.1 i k hl h1 h2 (fun e => he e.symm), ← ih]
      rfl
structure LR (w0 : World) (k d m j : Nat) (wr : World) : Prop where
  ex : ∃ F G L Q, DV wr F d k L (dset (fun _ => true) 0 Q L) Q ∧ RV wr G m k L Q ∧ Q.length ≤ j ∧ Disj F G ∧ (∀ b, F b → w0.heap.size ≤ b) ∧ (∀ b, G b → w0.heap.size ≤ b)
  bel : Below w0.heap.size w0 wr
theorem RV.lt {w : World} {F : Nat → Prop} {m k : Nat} {D : List UInt8} {Q : List (Nat × List UInt8)} (h : RV w F m k D Q) : ∀ b, F b → b < w.heap.size := by
  obtain ⟨_, _, _, _, _, h⟩ := h
  exact h.lt
theorem RV.stay {w w' : World} {F S : Nat → Prop} {m k : Nat} {D : List UInt8} {Q : List (Nat × List UInt8)} (h : RV w F m k D Q) (hc : Chg w w' S) (hS : ∀ b, F b → ¬ S b) : RV w' F m k D Q := by
  obtain ⟨a, b, c, d, e, h⟩ := h
  exact ⟨a, b, c, d, e, h.keep hc hS⟩
theorem RV.other {w w' : World} {F F1 F1' : Nat → Prop} {m k : Nat} {D : List UInt8} {Q : List (Nat × List UInt8)} (h : RV w F m k D Q) (hu : Upd w w' F1 F1') (hx : Disj F1 F) : RV w' F m k D Q ∧ Disj F1' F := by
  refine ⟨h.stay (S := F1) ⟨hu.os, hu.tape, hu.output, hu.size, hu.block⟩ (fun b hb q => hx b q hb), fun b h1 h2 => ?_⟩
  rcases hu.grow b h1 with q | q
  · exact hx b q h2
  · have := h.lt b h2
    omega
theorem LR.mono {w0 wr : World} {k d m j j' : Nat} (h : LR w0 k d m j wr) (hj : j ≤ j') : LR w0 k d m j' wr := by
  obtain ⟨⟨F, G, L, Q, h1, h2, h3, h4⟩, h5⟩ := h
  exact ⟨⟨F, G, L, Q, h1, h2, by omega, h4⟩, h5⟩
theorem LR.below {w0 wr w' : World} {k d m j : Nat} (h : LR w0 k d m j wr) (hb : Below wr.heap.size wr w') : LR w0 k d m j w' := by
  obtain ⟨⟨F, G, L, Q, h1, h2, h3, h4⟩, h5⟩ := h
  exact ⟨⟨F, G, L, Q, h1.stay (Chg.below hb (fun _ => False)) (fun _ _ => id), h2.stay (Chg.below hb (fun _ => False)) (fun _ _ => id), h3, h4⟩, h5.trans (hb.mono h5.size)⟩
end Go.Proofs
end

section
namespace Go.Proofs
open Go.RowKit
set_option maxRecDepth 100000
def wcc (k : Nat) (I : Int) (bb : List UInt8) : Int := if 0 ≤ I ∧ I < k ∧ bb.length = 64 then 0 else 1
def wqq (k : Nat) (I : Int) (bb : List UInt8) (Q : List (Nat × List UInt8)) : List (Nat × List UInt8) := if 0 ≤ I ∧ I < k ∧ bb.length = 64 then Q ++ [(I.toNat, bb)] else Q
def wtt (k : Nat) (I : Int) (bb T : List UInt8) : List UInt8 := if 0 ≤ I ∧ I < k ∧ bb.length = 64 then T.take (64 * I.toNat) ++ (bb ++ T.drop (64 * I.toNat + 64)) else T
theorem Upd.refl (w : World) (F : Nat → Prop) : Upd w w F F := ⟨rfl, rfl, rfl, Nat.le_refl _, fun _ _ _ => rfl, fun _ h => .inl h⟩
def DWrote (w : World) (F : Nat → Prop) (d k : Nat) (L T : List UInt8) (Q : List (Nat × List UInt8)) (c : Int) (e : Ending) (w' : World) : Prop := e = .returned (.int .i64 c) ∧ ∃ F', DV w' F' d k L T Q ∧ Upd w w' F F'
def RWrote (w : World) (F : Nat → Prop) (m k : Nat) (D : List UInt8) (Q : List (Nat × List UInt8)) (c : Int) (e : Ending) (w' : World) : Prop := e = .returned (.int .i64 c) ∧ ∃ F', RV w' F' m k D Q ∧ Upd w w' F F'
def DataAt (w : World) (F : Nat → Prop) (XA : Option Addr) (bb : List UInt8) : Prop := 0 < bb.length → ∃ X, XA = some X ∧ (∀ j u, (bb.map u8v)[j]? = some u → w.cell? (X.add j) = some u) ∧ ¬ F X.block
structure LY (w0 : World) (k d m j B : Nat) (p1 p2 p3 : Value) (wr : World) (F G : Nat → Prop) (L T L' : List UInt8) (Q Q' : List (Nat × List UInt8)) : Prop where
  dv : DV wr F d k L T Q
  rv : RV wr G m k L' Q'
  q : Q.length ≤ j
  q' : Q'.length ≤ j
  dj : Disj F G
  f : ∀ b, F b → w0.heap.size ≤ b
  g : ∀ b, G b → w0.heap.size ≤ b
  fB : ¬ F B
  gB : ¬ G B
  bel : Below w0.heap.size w0 wr
  lt : B < wr.heap.size
  c1 : wr.cell? ⟨B, 1, none⟩ = some p1
  c2 : wr.cell? ⟨B, 2, none⟩ = some p2
  c3 : wr.cell? ⟨B, 3, none⟩ = some p3
theorem LY.left {w0 wr w1 : World} {k d d1 m j j' B : Nat} {p1 p2 p3 : Value} {F F1 G : Nat → Prop} {L T L' L1 T1 : List UInt8} {Q Q' Q1 : List (Nat × List UInt8)} (h : LY w0 k d m j B p1 p2 p3 wr F G L T L' Q Q') (hd : DV w1 F1 d1 k L1 T1 Q1) (hu : Upd wr w1 F F1)
    (hq : Q1.length ≤ j') (hj : j ≤ j') : LY w0 k d1 m j' B p1 p2 p3 w1 F1 G L1 T1 L' Q1 Q' := by
  obtain ⟨r1, x1⟩ := h.rv.other hu h.dj
  have e := hu.block B h.lt h.fB
  have c : ∀ n, w1.cell? ⟨B, n, none⟩ = wr.cell? ⟨B, n, none⟩ := fun n => World.cell?_of_block e
  refine ⟨hd, r1, hq, Nat.le_trans h.q' hj, x1, hu.lowW h.f h.bel.size, h.g, fun q => ?_, h.gB, h.bel.trans (hu.belowW h.f h.bel.size), Nat.lt_of_lt_of_le h.lt hu.size, (c 1).trans h.c1, (c 2).trans h.c2, (c 3).trans h.c3⟩
  rcases hu.grow B q with q | q
  · exact h.fB q
  · have := h.lt; omega
theorem LY.right {w0 wr w1 : World} {k d m j j' B : Nat} {p1 p2 p3 : Value} {F G G1 : Nat → Prop} {L T L' D1 : List UInt8} {Q Q' Q1 : List (Nat × List UInt8)} (h : LY w0 k d m j B p1 p2 p3 wr F G L T L' Q Q') (hd : RV w1 G1 m k D1 Q1) (hu : Upd wr w1 G G1)
    (hq : Q1.length ≤ j') (hj : j ≤ j') : LY w0 k d m j' B p1 p2 p3 w1 F G1 L T D1 Q Q1 := by
  obtain ⟨r1, x1⟩ := h.dv.other hu h.dj.symm
  have e := hu.block B h.lt h.gB
  have c : ∀ n, w1.cell? ⟨B, n, none⟩ = wr.cell? ⟨B, n, none⟩ := fun n => World.cell?_of_block e
  refine ⟨r1, hd, Nat.le_trans h.q hj, hq, x1.symm, h.f, hu.lowW h.g h.bel.size, h.fB, fun q => ?_, h.bel.trans (hu.belowW h.g h.bel.size), Nat.lt_of_lt_of_le h.lt hu.size, (c 1).trans h.c1, (c 2).trans h.c2, (c 3).trans h.c3⟩
  rcases hu.grow B q with q | q
  · exact h.gB q
  · have := h.lt; omega
theorem LY.below {w0 wr w1 : World} {k d m j B : Nat} {p1 p2 p3 : Value} {F G : Nat → Prop} {L T L' : List UInt8} {Q Q' : List (Nat × List UInt8)} (h : LY w0 k d m j B p1 p2 p3 wr F G L T L' Q Q') (hb : Below wr.heap.size wr w1) : LY w0 k d m j B p1 p2 p3 w1 F G L T L' Q Q' := by
  have e := hb.block B h.lt
  have c : ∀ n, w1.cell? ⟨B, n, none⟩ = wr.cell? ⟨B, n, none⟩ := fun n => World.cell?_of_block e
  exact ⟨h.dv.stay (Chg.below hb (fun _ => False)) (fun _ _ => id), h.rv.stay (Chg.below hb (fun _ => False)) (fun _ _ => id), h.q, h.q', h.dj, h.f, h.g, h.fB, h.gB, h.bel.trans (hb.mono h.bel.size), Nat.lt_of_lt_of_le h.lt hb.size, (c 1).trans h.c1, (c 2).trans h.c2, (c 3).trans h.c3⟩
def LQ (w0 : World) (k m j B : Nat) (p1 : Value) (v : Value) (wx : World) : Prop := ∃ d : Nat, v = .pointer (some ⟨d, 0, none⟩) ∧ LR w0 k d m j wx ∧ wx.cell? ⟨B, 1, none⟩ = some p1
theorem LY.done {w0 wr : World} {k d m j j' B : Nat} {p1 p2 p3 : Value} {F G : Nat → Prop} {L T : List UInt8} {Q : List (Nat × List UInt8)} (h : LY w0 k d m j B p1 p2 p3 wr F G L T L Q Q) (hT : T = dset (fun _ => true) 0 Q L) (hj : j ≤ j') : LQ w0 k m j' B p1 (.pointer (some ⟨d, 0, none⟩)) wr := by
  subst hT
  exact ⟨d, rfl, ⟨⟨F, G, L, Q, h.dv, h.rv, Nat.le_trans h.q hj, h.dj, h.f, h.g⟩, h.bel⟩, h.c1⟩
theorem DataAt.of {w0 wr : World} {F : Nat → Prop} {XA : Option Addr} {bb : List UInt8} (h : 0 < bb.length → ∃ X, XA = some X ∧ ∀ j u, (bb.map u8v)[j]? = some u → w0.cell? (X.add j) = some u) (hb : Below w0.heap.size w0 wr) (hF : ∀ b, F b → w0.heap.size ≤ b) : DataAt wr F XA bb := fun h0 => by
  obtain ⟨X, rfl, hc⟩ := h h0
  refine ⟨X, rfl, cells_below hc hb, fun q => ?_⟩
  have h1 := hF _ q
  have h2 : X.block < w0.heap.size := block_lt_of_cell (hc 0 (u8v bb[0]) (by simp [h0]))
  omega
end Go.Proofs
end
