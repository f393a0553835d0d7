/-
  Texts of a proof over the translated program: NdR6.
-/
import Derived.Test.YtcmjccjbgidinaaNdR4
set_option linter.unusedVariables false
set_option linter.unnecessarySimpa false
set_option linter.unusedSimpArgs false
namespace Go.Proofs
open Go.RowKit
set_option maxRecDepth 100000
def NewRefGood (w : World) (k : Nat) (e : Ending) (w' : World) : Prop := ∃ v, e = .returned (.tuple #[v, .int .i64 0]) ∧ NewRef w k (List.replicate (64 * k) 0) v w'
theorem Try.rnew_good (k : Nat) (h4 : 4 ≤ k) (hk : k ≤ 1024) (w : World) : Calls Try.prog 12 #[.int .i64 k] w (NewRefGood w k) := by
  obtain ⟨i0, hi, hz0, hz1, hz2⟩ := info_parts Try.info5
  have h1 : decide ((k : Nat) < 4) = false := by simp; omega
  have h2 : decide (1024 < (k : Nat)) = false := by simp; omega
  have h3 : ¬ ((k : Nat) < 4) := by omega
  have h5 : ¬ (1024 < (k : Nat)) := by omega
  have hb2 : i0.bytes * (64 * k) ≤ 281474976710656 := by rw [hz2]; omega
  go_enter Try.func12, Try.ntmps12
  go_wp2_with (at_make; refine wpList_make_full w rfl _ _ 31 rfl w.heap.size 5 i0 (.int .u8 0) 1 Try.underlying31 hi hz0 hz1 _ _ _ _ (64 * k) rfl rfl (by omega) (by omega) hb2 (by unfold maxLen; omega) (Nat.le_refl _) ?_)
  intro w1 hown hg
  rw [made_u8] at hown
  obtain ⟨hl, b, c, he, hb, hc, hby⟩ := BY.own hown (by simp)
  obtain ⟨rfl, rfl⟩ : w.heap.size = b ∧ 64 * k = c := by simpa using he
  have hbel : Below w.heap.size w w1 := (Below.refl _ w).grown hg (Nat.le_refl _) (fun k hk => by simp at hk)
  have H := Lib.hid (newref_of hk hl (Nat.le_refl _) (Nat.le_refl _) hby hbel)
  clear hg hown he hl hby hb hc hbel
  go_wp2
  go_ret2
  exact ⟨_, rfl, H.out⟩
theorem Try.rnew_bad (n : Int) (h : n < 4 ∨ 1024 < n) (w : World) : Calls Try.prog 12 #[.int .i64 n] w fun e w' => e = .returned (.tuple #[.pointer none, .int .i64 1]) ∧ w = w' := by
  by_cases h0 : n < 4
  · clear h
    have h2 : decide (n < 4) = true := by simpa using h0
    go_enter Try.func12, Try.ntmps12
    go_wp2
    go_ret2
    exact ⟨rfl, rfl⟩
  · have h1 : 1024 < n := by omega
    have h2 : decide (n < 4) = false := by simpa using h0
    clear h
    go_enter Try.func12, Try.ntmps12
    go_wp2
    go_ret2
    exact ⟨rfl, rfl⟩
def WaitsV (B n : Nat) (v : Value) : Prop := ∃ b c, v = .slice (some ⟨b, 0, none⟩) n c ∧ B ≤ b
/-- What waits, copied: the plain region's law. -/
theorem wpList_waits_empty {P : Program} (w : World) {ops : Array Oper} {rest : List Oper} {o : Oper} {a : Act} {Q' : Exit → Act → World → Prop} (hgd : o.guard = none) (s x : Operand)
    (hop : o.op = Op.call { callee := Callee.builtin Builtin.append, args := #[s, x], argTypes := #[58, 58] }) (ht : P.underlying 58 = some (.slice 76)) (hq : (P.info? 76).map (fun i => (i.zero, i.size, i.bytes)) = some (some (.agg #[.int .i64 0, .slice none 0 0]), 2, 32))
    (A : Option Addr) (wc : Nat) (Q : List (Nat × List UInt8)) (ds : List (Nat × Nat)) (hlen : Q.length = ds.length) (hs : a.eval s = .slice (some ⟨w.heap.size, 0, none⟩) 0 0) (hx : a.eval x = .slice A Q.length wc) (hn : Q.length ≤ 1000000)
    (hA : (A = none ∧ Q = [] ∧ wc = 0) ∨ ∃ b, A = some ⟨b, 0, none⟩ ∧ ∀ i u, (wCells Q ds)[i]? = some u → w.cell? ⟨b, i, none⟩ = some u)
    (hK : ∀ v w1, w1.ownsRow w.heap.size 76 2 v Q.length (wCells Q ds) → WaitsV w.heap.size Q.length v → Below w.heap.size w w1 → wpList P ops Q' rest (a.put o.dst v) w1) : wpList P ops Q' (o :: rest) a (w.alloc (.cells #[] 76)) := by
  refine wpList_plain hgd fun K hK' => ?_
  obtain ⟨i0, hi, hz0, hz1, hz2⟩ := info_parts hq
  have hown := own_at (W := w.alloc (.cells #[] 76)) (e := 76) (size := 2) (heap_alloc_new w _) (Nat.le_refl w.heap.size)
  rcases hA with ⟨rfl, rfl, rfl⟩ | ⟨wb, rfl, hcells⟩
  · have hrun := run_append_owned_none (P := P) (w.alloc (.cells #[] 76)) w.heap.size 58 o.type 76 i0 2 ht hi _ _ _ hown
    unfold Oper.wp
    simp only [List.length_nil] at hx
    simp [execOp, hop, resolve, invoke, builtin, hs, hx, hrun, Result.andThen]
    exact hK' _ _ (hK _ _ hown ⟨_, _, rfl, Nat.le_refl _⟩ ((Below.refl _ w).alloc (Nat.le_refl _) _))
  · obtain ⟨v, w1, r1, r2, r3, r4⟩ := run_append_own (P := P) (w.alloc (.cells #[] 76)) w.heap.size 58 o.type 76 i0 (.agg #[.int .i64 0, .slice none 0 0]) 2 32 ht hi hz0 hz1 hz2 rfl (by decide) _ _ _ hown ⟨wb, 0, none⟩ Q.length wc (wCells Q ds) (wCells_len _ _ hlen) (fun j u hu => by rw [add_none, Nat.zero_add]; exact cellA (hcells j u hu) _) (wCells_one Q ds) (by unfold maxLen; omega) (by omega) (by simp)
    have hv : v ≠ .slice none 0 0 := fun q => by have := (r4.1 q).1; simp at this
    have hbel : Below w.heap.size w w1 := ((Below.refl _ w).alloc (Nat.le_refl _) _).grown r3 (by simp) (fun k hk => by simp [Value.ownBlock] at hk; omega)
    rw [Nat.zero_add, List.nil_append] at r2
    unfold Oper.wp
    simp [execOp, hop, resolve, invoke, builtin, hs, hx, r1, Result.andThen]
    refine hK' _ _ (hK _ _ r2 ?_ hbel)
    rcases r2.2 with ⟨e, _⟩ | ⟨g2, cap, cur, e, hb2, _⟩
    · exact absurd e hv
    · exact ⟨g2, cap, e, hb2⟩
def IsSl (v : Value) : Prop := ∃ A n c, v = .slice A n c
/-- The plain region's law of an append to a row of one's own. -/
theorem wpList_append_at {P : Program} {ops : Array Oper} {rest : List Oper} {o : Oper} {a : Act} {w : World} {Q : Exit → Act → World → Prop} (hg : o.guard = none) (s x : Operand) (t : TypeId) (hop : o.op = Op.call { callee := Callee.builtin Builtin.append, args := #[s, x], argTypes := #[t, t] })
    (e : TypeId) (i : TypeInfo) (z : Value) (size bytes : Nat) (h1 : P.underlying t = some (.slice e)) (h2 : P.info? e = some i) (h3 : i.zero = some z) (h4 : i.size = size) (h5 : i.bytes = bytes) (h6 : z.cells.size = size) (h7 : 0 < size)
    (v : Value) (n : Nat) (xs : List Value) (hs : a.eval s = v) (hown : w.ownsRow 0 e size v n xs)
    (ad : Addr) (m c : Nat) (news : List Value) (hx : a.eval x = .slice (some ad) m c) (hn : news.length = m * size) (hc : ∀ j u, news[j]? = some u → w.cell? (ad.add j) = some u) (h1c : ∀ u ∈ news, u.oneCell' = true)
    (b1 : n + m ≤ maxLen) (b2 : (n + m) * bytes ≤ 140737488355328)
    (hK : ∀ v' w', w'.ownsRow 0 e size v' (n + m) (xs ++ news) → Chg w w' (· ∈ vblk v) → (∀ b ∈ vblk v', b ∈ vblk v ∨ w.heap.size ≤ b) → IsSl v' → wpList P ops Q rest (a.put o.dst v') w') : wpList P ops Q (o :: rest) a w := by
  refine wpList_plain hg fun K hK' => ?_
  obtain ⟨v', w', hrun, r1, r2, r3, r4⟩ := run_append_at (P := P) w t o.type e i z size bytes h1 h2 h3 h4 h5 h6 h7 v n xs hown ad m c news hn hc h1c b1 b2
  unfold Oper.wp
  simp [execOp, hop, resolve, invoke, builtin, hs, hx, hrun, Result.andThen]
  exact hK' _ _ (hK v' w' r1 r2 r3 r4)
end Go.Proofs
