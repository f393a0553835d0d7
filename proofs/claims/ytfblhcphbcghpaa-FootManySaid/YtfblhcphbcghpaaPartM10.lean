/-
  Texts of a proof over the translated program: proved evaluators and walks, part 10 of 14.
-/
import Derived.Test.YtfblhcphbcghpaaPartM9
import Derived.Below
import Derived.Deep.Cut
import Derived.Deep.RegionHeld3
import Derived.Deep.RegionLaw
import Derived.Deep.RegionLawGrows
import Derived.Deep.RegionWith
import Derived.Handy
import Derived.IntWalk
import Derived.Laws.AppendOwnNone
import Derived.Laws.BitsLemmas
import Derived.Laws.BytesArg
import Derived.Laws.BytesString
import Derived.Laws.Closers25b
import Derived.Laws.CopyOwn
import Derived.Laws.MakeOwn
import Derived.Laws.StructEq
import Derived.Lib.Hide
import Derived.Lib.SlBytesRow
import Derived.LoopTactic
import Derived.Outline
import Derived.OwnWalk
import Derived.Scope
import Derived.ScopeJumps
import Derived.Test.YtfblhcphbcghpaaProg
import Derived.WalkKit
import Derived.WalkMore
import Derived.WalkSpells
set_option linter.unusedVariables false
set_option linter.unusedSimpArgs false
set_option linter.unusedSectionVars false
set_option linter.unnecessarySimpa false
section
namespace Go.Proofs.Ytfblhcphbcghpaa
open Go.RowKit
set_option maxRecDepth 100000
theorem Try.info117 : (Try.prog.info? 117).map (fun i => (i.zero, i.size, i.bytes)) = some (some (.agg #[.int .i64 0, .slice none 0 0]), 2, 32) := by kernel_rfl
def wCells : List (Nat × List UInt8) → List (Nat × Nat) → List Value
  | q :: Q, x :: ds => .int .i64 (q.1 : Int) :: .slice (some ⟨x.1, 0, none⟩) 64 x.2 :: wCells Q ds
  | _, _ => []
def OneW (w : World) (F : Nat → Prop) (ns : List Nat) (k : Nat) (q : Nat × List UInt8) (x : Nat × Nat) : Prop :=
  F x.1 ∧ x.1 ∉ ns ∧ q.2.length = 64 ∧ q.1 < k ∧ BY w x.1 q.2 x.2 ∧ 64 ≤ x.2
def AllW (w : World) (F : Nat → Prop) (ns : List Nat) (k : Nat) : List (Nat × List UInt8) → List (Nat × Nat) → Prop
  | q :: Q, x :: ds => OneW w F ns k q x ∧ AllW w F ns k Q ds
  | [], [] => True
  | _, _ => False
def vblk (v : Value) : List Nat := match v with | .slice (some a) _ _ => [a.block] | _ => []
structure DW (w : World) (F : Nat → Prop) (d k lb cl tb ct : Nat) (vw : Value) (ds : List (Nat × Nat)) (L T : List UInt8) (Q : List (Nat × List UInt8)) : Prop where
  lt : ∀ b, F b → b < w.heap.size
  here : w.heap[d]? = some (.cells #[.slice (some ⟨lb, 0, none⟩) (64 * k) cl, .slice (some ⟨tb, 0, none⟩) (64 * k) ct, vw] 114 (0, 0))
  fd : F d
  fl : F lb
  ft : F tb
  dl : d ≠ lb
  dt : d ≠ tb
  lt' : lb ≠ tb
  hk : k ≤ 1024
  Ll : L.length = 64 * k
  Tl : T.length = 64 * k
  bl : BY w lb L cl
  bt : BY w tb T ct
  cl' : 64 * k ≤ cl
  ct' : 64 * k ≤ ct
  ow : w.ownsRow 0 117 2 vw Q.length (wCells Q ds)
  fw : ∀ b ∈ vblk vw, F b ∧ b ≠ d ∧ b ≠ lb ∧ b ≠ tb
  al : AllW w F (d :: lb :: tb :: vblk vw) k Q ds
def DV (w : World) (F : Nat → Prop) (d k : Nat) (L T : List UInt8) (Q : List (Nat × List UInt8)) : Prop := ∃ lb cl tb ct vw ds, DW w F d k lb cl tb ct vw ds L T Q
structure Upd (w w' : World) (F F' : Nat → Prop) : Prop where
  os : w'.os = w.os
  tape : w'.tape = w.tape
  output : w'.output = w.output
  size : w.heap.size ≤ w'.heap.size
  block : ∀ b, b < w.heap.size → ¬ F b → w'.heap[b]? = w.heap[b]?
  grow : ∀ b, F' b → F b ∨ w.heap.size ≤ b
theorem splice_len (T : List UInt8) (o : Nat) (bb : List UInt8) (h : o + bb.length ≤ T.length) : (T.take o ++ (bb ++ T.drop (o + bb.length))).length = T.length := by
  simp; omega
theorem step_open {P : Program} {ops : Array Oper} {o : Oper} {a : Act} {w : World} {K : Act → World → Prop} {Q : Exit → Act → World → Prop} {E : Prop} (hg : o.guard = none) (h : Oper.wp P o a w K Q) :
    if Region.wanted o (yielded ops a.tmps) = true then Oper.wp P o a w K Q else E := by
  have hw : Region.wanted o (yielded ops a.tmps) = true := by simp [Region.wanted, hg]
  rw [if_pos hw]
  exact h
structure Only (w w' : World) (g : Nat) : Prop where
  os : w'.os = w.os
  tape : w'.tape = w.tape
  output : w'.output = w.output
  size : w'.heap.size = w.heap.size
  block : ∀ b, b ≠ g → w'.heap[b]? = w.heap[b]?
theorem Only.cell {w w' : World} {g : Nat} (h : Only w w' g) {A : Addr} (hA : A.block ≠ g) : w'.cell? A = w.cell? A := World.cell?_of_block (h.block _ hA)
theorem Only.cells {w w' : World} {g : Nat} (h : Only w w' g) {A : Addr} (hA : A.block ≠ g) {xs : List Value} (hc : ∀ j u, xs[j]? = some u → w.cell? (A.add j) = some u) : ∀ j u, xs[j]? = some u → w'.cell? (A.add j) = some u := by
  intro j u hu
  have hb : (A.add j).block = A.block := by unfold Addr.add; split <;> rfl
  rw [h.cell (by rw [hb]; exact hA)]
  exact hc j u hu
theorem run_copy_by {P : Program} (w : World) (dT sT ty : TypeId) (hu : P.underlying dT = some (.slice 5)) (hsz : (P.info? 5).map (·.size) = some 1) (g o c : Nat) (T : List UInt8) (hg : BY w g T c) (n dCap : Nat) (A : Addr) (m : Nat) (bb : List UInt8) (hl : bb.length = n)
    (hc : ∀ j u, (bb.map u8v)[j]? = some u → w.cell? (A.add j) = some u) (hfit : o + n ≤ T.length) :
    ∃ w', (Builtin.copy_ #[dT, sT] ty #[.slice (some ⟨g, o, none⟩) n dCap, .slice (some A) n m]).run P w = .ok (goInt n) w' ∧ BY w' g (T.take o ++ (bb ++ T.drop (o + n))) c ∧ Only w w' g := by
  obtain ⟨pad, g1, g2, g3⟩ := hg
  have hr := run_copy_row P w dT sT ty 5 g o n dCap A n m _ 5 (bb.map u8v) hu hsz g1 (by simp [hl]) hc (by simp; omega) (u8v_one bb)
  simp only [List.length_map, hl] at hr
  refine ⟨_, hr, ?_, ?_⟩
  · refine ⟨pad, ?_, ?_, g3⟩
    · rw [setRow_heap w g _ _ 5 _ g1]
      simp only [List.length_map, hl, List.map_append, List.map_take, List.map_drop]
      rw [List.take_append_of_le_length (by simp; omega), List.drop_append_of_le_length (by simp; omega)]
      simp [List.append_assoc]
    · simp; omega
  · exact ⟨rfl, rfl, rfl, by simp, fun b hb => Go.setRow_other w g b _ hb⟩
theorem wpList_copy_by {P : Program} {w : World} {ops : Array Oper} {rest : List Oper} {o : Oper} {a : Act} {Q : Exit → Act → World → Prop} (hgd : o.guard = none) (d s : Operand) (dT sT : TypeId)
    (ho : o.op = .call { callee := .builtin .copy, args := #[d, s], argTypes := #[dT, sT] }) (hu : P.underlying dT = some (.slice 5)) (hsz : (P.info? 5).map (·.size) = some 1)
    (g off c : Nat) (T : List UInt8) (n dCap : Nat) (A : Addr) (m : Nat) (bb : List UInt8) (hd : a.eval d = .slice (some ⟨g, off, none⟩) n dCap) (hs : a.eval s = .slice (some A) n m)
    (hg : BY w g T c) (hl : bb.length = n) (hc : ∀ j u, (bb.map u8v)[j]? = some u → w.cell? (A.add j) = some u) (hfit : off + n ≤ T.length)
    (h : ∀ w', BY w' g (T.take off ++ (bb ++ T.drop (off + n))) c → Only w w' g → wpList P ops Q rest (a.put o.dst (goInt n)) w') : wpList P ops Q (o :: rest) a w := by
  refine wpList_plain hgd fun K hK => ?_
  obtain ⟨w', hrun, h1, h2⟩ := run_copy_by (P := P) w dT sT o.type hu hsz g off c T hg n dCap A m bb hl hc hfit
  unfold Oper.wp
  simp [execOp, ho, resolve, invoke, builtin, hd, hs, hrun, Result.andThen]
  exact hK _ _ (h w' h1 h2)
structure Chg (w w' : World) (S : Nat → Prop) : Prop where
  os : w'.os = w.os
  tape : w'.tape = w.tape
  output : w'.output = w.output
  size : w.heap.size ≤ w'.heap.size
  block : ∀ b, b < w.heap.size → ¬ S b → w'.heap[b]? = w.heap[b]?
theorem Chg.refl (w : World) (S : Nat → Prop) : Chg w w S := ⟨rfl, rfl, rfl, Nat.le_refl _, fun _ _ _ => rfl⟩
theorem Chg.trans {w w1 w2 : World} {S : Nat → Prop} (h : Chg w w1 S) (h' : Chg w1 w2 S) : Chg w w2 S :=
  ⟨h'.os.trans h.os, h'.tape.trans h.tape, h'.output.trans h.output, Nat.le_trans h.size h'.size, fun b hb hs => (h'.block b (Nat.lt_of_lt_of_le hb h.size) hs).trans (h.block b hb hs)⟩
theorem Chg.trans' {w w1 w2 : World} {S S' : Nat → Prop} (h : Chg w w1 S) (h' : Chg w1 w2 S') (hs : ∀ b, b < w.heap.size → S' b → S b) : Chg w w2 S :=
  ⟨h'.os.trans h.os, h'.tape.trans h.tape, h'.output.trans h.output, Nat.le_trans h.size h'.size, fun b hb hn => (h'.block b (Nat.lt_of_lt_of_le hb h.size) (fun q => hn (hs b hb q))).trans (h.block b hb hn)⟩
theorem Chg.mono {w w' : World} {S S' : Nat → Prop} (h : Chg w w' S) (hs : ∀ b, S b → S' b) : Chg w w' S' := ⟨h.os, h.tape, h.output, h.size, fun b hb hn => h.block b hb (fun q => hn (hs b q))⟩
theorem Chg.drew {w w' : World} {S : Nat → Prop} (h : Chg w w' S) : Chg w w'.drew S := ⟨h.os, h.tape, h.output, h.size, h.block⟩
theorem Chg.ofDrew {w w' : World} {S : Nat → Prop} (h : Chg w.drew w' S) : Chg w w' S := ⟨h.os, h.tape, h.output, h.size, h.block⟩
theorem Chg.below {w w' : World} (h : Below w.heap.size w w') (S : Nat → Prop) : Chg w w' S := ⟨h.os, h.tape, h.output, h.size, fun b hb _ => h.block b hb⟩
theorem Chg.only {w w' : World} {g : Nat} (h : Only w w' g) : Chg w w' (· = g) := ⟨h.os, h.tape, h.output, Nat.le_of_eq h.size.symm, fun b _ hn => h.block b hn⟩
theorem Chg.alloc (w : World) (o : Obj) (S : Nat → Prop) : Chg w (w.alloc o) S := ⟨rfl, rfl, rfl, by simp, fun b hb _ => Below.heap_alloc w o b hb⟩
theorem Chg.grown {w w' : World} {v : Value} (h : w.grownBy w' v.ownBlock) : Chg w w' (· ∈ vblk v) := ⟨h.os, h.tape, h.output, h.size, fun b hb hn => h.block b hb (fun e => hn (by
  cases v <;> simp [Value.ownBlock] at e
  rename_i a _ _
  cases a <;> simp [Value.ownBlock] at e
  simp [vblk, e]))⟩
theorem Chg.setCell (w : World) (A : Addr) (u : Value) : Chg w (w.setCell A u) (· = A.block) := ⟨rfl, rfl, rfl, by simp [World.setCell], fun b _ hn => Below.heap_setCell w A u b hn⟩
theorem run_append_at {P : Program} (w : World) (t ty e : TypeId) (i : TypeInfo) (z : Value) (size bytes : Nat) (ht : P.underlying t = some (.slice e)) (hi : P.info? e = some i) (hz : i.zero = some z)
    (hsize : i.size = size) (hby : i.bytes = bytes) (hzs : z.cells.size = size) (hsz : 0 < size) (v : Value) (n : Nat) (xs : List Value) (hown : w.ownsRow 0 e size v n xs)
    (a : Addr) (m c : Nat) (news : List Value) (hl : news.length = m * size) (hnews : ∀ j u, news[j]? = some u → w.cell? (a.add j) = some u) (h1 : ∀ u ∈ news, u.oneCell' = true)
    (h63 : n + m ≤ maxLen) (hbytes : (n + m) * bytes ≤ 140737488355328) :
    ∃ v' w', (Builtin.append_ #[t, t] ty #[v, .slice (some a) m c]).run P w = .ok v' w' ∧ w'.ownsRow 0 e size v' (n + m) (xs ++ news) ∧ Chg w w' (· ∈ vblk v) ∧ (∀ b ∈ vblk v', b ∈ vblk v ∨ w.heap.size ≤ b) ∧ (∃ A n c, v' = .slice A n c) := by
  rcases hown.2 with ⟨rfl, rfl⟩ | ⟨g, cap, cur, rfl, hbg, hg, hnc, hcm, hcs, htake⟩
  · have hx : xs = [] := List.eq_nil_of_length_eq_zero (by simpa using hown.1)
    subst hx
    obtain ⟨v', w', r1, r2, r3, _⟩ := run_append_own (P := P) w w.heap.size t ty e i z size bytes ht hi hz hsize hby hzs hsz (.slice none 0 0) 0 [] (World.ownsRow_nil w _ e size) a m c news hl hnews h1 h63 hbytes (Nat.le_refl _)
    refine ⟨v', w', r1, ?_, Chg.grown r3, ?_, ?_⟩
    · obtain ⟨q1, q2⟩ := r2
      refine ⟨q1, ?_⟩
      rcases q2 with q | ⟨g, cap, cur, q, _, q3⟩
      · exact .inl q
      · exact .inr ⟨g, cap, cur, q, Nat.zero_le _, q3⟩
    · intro b hb
      rcases r2.2 with ⟨rfl, _⟩ | ⟨g, cap, cur, rfl, q, _⟩
      · simp [vblk] at hb
      · simp [vblk] at hb; subst hb; exact .inr q
    · rcases r2.2 with ⟨rfl, _⟩ | ⟨g, cap, cur, rfl, q, _⟩
      · exact ⟨_, _, _, rfl⟩
      · exact ⟨_, _, _, rfl⟩
  · by_cases hroom : n + m ≤ cap
    · obtain ⟨w', r1, r2, r3⟩ := run_append_fits (P := P) w 0 t ty e i size ht hi hsize g n cap xs hown a m c news hl hnews h1 hroom
      exact ⟨_, w', r1, r2, Chg.grown (v := .slice (some ⟨g, 0, none⟩) n cap) r3, fun b hb => .inl (by simpa [vblk] using hb), _, _, _, rfl⟩
    · obtain ⟨v', w', r1, r2, r3⟩ := run_append_arg_grows (P := P) w t ty e i z size bytes ht hi hz hsize hby hzs hsz ⟨g, 0, none⟩ n cap xs hown.1 (hown.cells (g := g) rfl) a m c news hl hnews (by omega) h63 hbytes
      refine ⟨v', w', r1, ?_, ⟨r3.os, r3.tape, r3.output, r3.size, fun b hb _ => r3.block b hb (by simp)⟩, ?_, ?_⟩
      · obtain ⟨q1, q2⟩ := r2
        refine ⟨q1, ?_⟩
        rcases q2 with q | ⟨g, cap, cur, q, _, q3⟩
        · exact .inl q
        · exact .inr ⟨g, cap, cur, q, Nat.zero_le _, q3⟩
      · intro b hb
        rcases r2.2 with ⟨rfl, _⟩ | ⟨g, cap, cur, rfl, q, _⟩
        · simp [vblk] at hb
        · simp [vblk] at hb; subst hb; exact .inr q
      · rcases r2.2 with ⟨rfl, _⟩ | ⟨g, cap, cur, rfl, q, _⟩
        · exact ⟨_, _, _, rfl⟩
        · exact ⟨_, _, _, rfl⟩
theorem step_append_at {P : Program} {ops : Array Oper} {o : Oper} {a : Act} {w : World} {K : Act → World → Prop} {Q : Exit → Act → World → Prop} {E : Prop}
    (hg : o.guard = none) (s x : Operand) (t : TypeId) (hop : o.op = Op.call { callee := Callee.builtin Builtin.append, args := #[s, x], argTypes := #[t, t] })
    (e : TypeId) (i : TypeInfo) (z : Value) (size bytes : Nat) (h1 : P.underlying t = some (.slice e)) (h2 : P.info? e = some i) (h3 : i.zero = some z) (h4 : i.size = size) (h5 : i.bytes = bytes) (h6 : z.cells.size = size) (h7 : 0 < size)
    (v : Value) (n : Nat) (xs : List Value) (hs : a.eval s = v) (hown : w.ownsRow 0 e size v n xs)
    (ad : Addr) (m c : Nat) (news : List Value) (hx : a.eval x = .slice (some ad) m c) (hn : news.length = m * size) (hc : ∀ j u, news[j]? = some u → w.cell? (ad.add j) = some u) (h1c : ∀ u ∈ news, u.oneCell' = true)
    (b1 : n + m ≤ maxLen) (b2 : (n + m) * bytes ≤ 140737488355328)
    (hK : ∀ v' w', w'.ownsRow 0 e size v' (n + m) (xs ++ news) → Chg w w' (· ∈ vblk v) → (∀ b ∈ vblk v', b ∈ vblk v ∨ w.heap.size ≤ b) → (∃ A n c, v' = .slice A n c) → K (a.put o.dst v') w') :
    if Region.wanted o (yielded ops a.tmps) = true then Oper.wp P o a w K Q else E := by
  refine step_open hg ?_
  obtain ⟨v', w', hrun, r1, r2, r3, r4⟩ := run_append_at (P := P) w t o.type e i z size bytes h1 h2 h3 h4 h5 h6 h7 v n xs hown ad m c news hn hc h1c b1 b2
  unfold Oper.wp
  simp [execOp, hop, resolve, invoke, builtin, hs, hx, hrun, Result.andThen]
  exact hK v' w' r1 r2 r3 r4
theorem own_stay {w w' : World} {e : TypeId} {size : Nat} {v : Value} {n : Nat} {xs : List Value} (h : w.ownsRow 0 e size v n xs) (hb : ∀ b ∈ vblk v, w'.heap[b]? = w.heap[b]?) : w'.ownsRow 0 e size v n xs := by
  refine ⟨h.1, ?_⟩
  rcases h.2 with q | ⟨g, cap, cur, rfl, q, hg, r⟩
  · exact .inl q
  · exact .inr ⟨g, cap, cur, rfl, q, (hb g (by simp [vblk])).trans hg, r⟩
theorem AllW.stay {w w' : World} {F F' : Nat → Prop} {ns ns' : List Nat} {k : Nat} (hF : ∀ b, F b → F' b) (hb : ∀ b, F b → b ∉ ns → w'.heap[b]? = w.heap[b]? ∧ b ∉ ns') : ∀ (Q : List (Nat × List UInt8)) (ds : List (Nat × Nat)), AllW w F ns k Q ds → AllW w' F' ns' k Q ds
  | q :: Q, x :: ds, h => ⟨⟨hF _ h.1.1, (hb _ h.1.1 h.1.2.1).2, h.1.2.2.1, h.1.2.2.2.1, h.1.2.2.2.2.1.congr (hb _ h.1.1 h.1.2.1).1, h.1.2.2.2.2.2⟩, AllW.stay hF hb Q ds h.2⟩
  | [], [], _ => trivial
  | q :: Q, [], h => h.elim
  | [], x :: ds, h => h.elim
theorem AllW.snoc {w : World} {F : Nat → Prop} {ns : List Nat} {k : Nat} {q : Nat × List UInt8} {x : Nat × Nat} (h1 : OneW w F ns k q x) : ∀ (Q : List (Nat × List UInt8)) (ds : List (Nat × Nat)), AllW w F ns k Q ds → AllW w F ns k (Q ++ [q]) (ds ++ [x])
  | _ :: Q, _ :: ds, h => ⟨h.1, AllW.snoc h1 Q ds h.2⟩
  | [], [], _ => ⟨h1, trivial⟩
  | _ :: _, [], h => h.elim
  | [], _ :: _, h => h.elim
theorem wCells_snoc (q : Nat × List UInt8) (x : Nat × Nat) : ∀ (Q : List (Nat × List UInt8)) (ds : List (Nat × Nat)), Q.length = ds.length → wCells (Q ++ [q]) (ds ++ [x]) = wCells Q ds ++ [.int .i64 (q.1 : Int), .slice (some ⟨x.1, 0, none⟩) 64 x.2]
  | _ :: Q, _ :: ds, h => by simp [wCells, wCells_snoc q x Q ds (by simpa using h)]
  | [], [], _ => rfl
  | _ :: _, [], h => by simp at h
  | [], _ :: _, h => by simp at h
theorem AllW.len {w : World} {F : Nat → Prop} {ns : List Nat} {k : Nat} : ∀ (Q : List (Nat × List UInt8)) (ds : List (Nat × Nat)), AllW w F ns k Q ds → Q.length = ds.length
  | _ :: Q, _ :: ds, h => by simp [AllW.len Q ds h.2]
  | [], [], _ => rfl
  | _ :: _, [], h => h.elim
  | [], _ :: _, h => h.elim
theorem dwrite_post {w w4 : World} {F : Nat → Prop} {d k lb cl tb ct : Nat} {vw v' : Value} {ds : List (Nat × Nat)} {L T : List UInt8} {Q : List (Nat × List UInt8)} (hd : DW w F d k lb cl tb ct vw ds L T Q)
    {T' bb : List UInt8} {i nb c : Nat} (hch : Chg w w4 (fun b => b = d ∨ b = tb ∨ b ∈ vblk vw)) (here : w4.heap[d]? = some (.cells #[.slice (some ⟨lb, 0, none⟩) (64 * k) cl, .slice (some ⟨tb, 0, none⟩) (64 * k) ct, v'] 114 (0, 0)))
    (hT : T'.length = 64 * k) (bt : BY w4 tb T' ct) (how : w4.ownsRow 0 117 2 v' (Q.length + 1) (wCells Q ds ++ [.int .i64 (i : Int), .slice (some ⟨nb, 0, none⟩) 64 c]))
    (hv : ∀ b ∈ vblk v', b ∈ vblk vw ∨ w.heap.size ≤ b) (hi : i < k) (hl : bb.length = 64) (hnb : w.heap.size ≤ nb) (hbb : BY w4 nb bb c) (hc : 64 ≤ c) (hne : nb ∉ vblk v') (hs4 : ∀ b ∈ vblk v', b < w4.heap.size) :
    ∃ F', DV w4 F' d k L T' (Q ++ [(i, bb)]) ∧ Upd w w4 F F' := by
  have hlt := hd.lt
  have hsz := hch.size
  have hnl := hbb.lt
  have hb : ∀ b, F b → b ≠ d → b ≠ tb → b ∉ vblk vw → w4.heap[b]? = w.heap[b]? := fun b h1 h2 h3 h4 => hch.block b (hlt b h1) (fun q => by rcases q with q | q | q <;> contradiction)
  have hdF := hlt d hd.fd
  have hlF := hlt lb hd.fl
  have htF := hlt tb hd.ft
  have hw4 : ∀ b ∈ vblk v', b ≠ d ∧ b ≠ lb ∧ b ≠ tb := by
    intro b hb
    rcases hv b hb with q | q
    · exact (hd.fw b q).2
    · refine ⟨?_, ?_, ?_⟩ <;> omega
  refine ⟨fun b => F b ∨ (w.heap.size ≤ b ∧ b < w4.heap.size), ⟨lb, cl, tb, ct, v', ds ++ [(nb, c)], ?_⟩, ⟨hch.os, hch.tape, hch.output, hsz, fun b hb hn => hch.block b hb (fun q => hn ?_), fun b hb => hb.imp id (·.1)⟩⟩
  · refine ⟨?_, here, .inl hd.fd, .inl hd.fl, .inl hd.ft, hd.dl, hd.dt, hd.lt', hd.hk, hd.Ll, hT, ?_, bt, hd.cl', hd.ct', ?_, ?_, ?_⟩
    · intro b hb
      rcases hb with q | q
      · exact Nat.lt_of_lt_of_le (hlt b q) hsz
      · exact q.2
    · exact hd.bl.congr (hb lb hd.fl hd.dl.symm hd.lt' (fun q => (hd.fw lb q).2.2.1 rfl))
    · rw [List.length_append, wCells_snoc _ _ _ _ (AllW.len _ _ hd.al)]
      exact how
    · intro b hb
      refine ⟨?_, hw4 b hb⟩
      rcases hv b hb with q | q
      · exact .inl (hd.fw b q).1
      · exact .inr ⟨q, hs4 b hb⟩
    · refine AllW.snoc ⟨.inr ⟨hnb, hnl⟩, ?_, hl, hi, hbb, hc⟩ _ _ (AllW.stay (fun b q => .inl q) (fun b q1 q2 => ?_) _ _ hd.al)
      · simp only [List.mem_cons, not_or]
        refine ⟨?_, ?_, ?_, hne⟩ <;> omega
      · simp only [List.mem_cons, not_or] at q2 ⊢
        refine ⟨hb b q1 q2.1 q2.2.2.1 q2.2.2.2, q2.1, q2.2.1, q2.2.2.1, fun q3 => ?_⟩
        rcases hv b q3 with q | q
        · exact q2.2.2.2 q
        · have := hlt b q1
          omega
  · rcases q with rfl | rfl | q
    · exact hd.fd
    · exact hd.ft
    · exact (hd.fw b q).1
theorem own_lt {w : World} {e : TypeId} {size : Nat} {v : Value} {n : Nat} {xs : List Value} (h : w.ownsRow 0 e size v n xs) : ∀ b ∈ vblk v, b < w.heap.size := by
  intro b hb
  rcases h.2 with ⟨rfl, _⟩ | ⟨g, cap, cur, rfl, q, hg, r⟩
  · simp [vblk] at hb
  · simp [vblk] at hb
    subst hb
    exact (Array.getElem?_eq_some_iff.1 hg).1
theorem dwrite_end {w w1 w2 w3 : World} {F : Nat → Prop} {d k lb cl tb ct : Nat} {vw v' : Value} {ds : List (Nat × Nat)} {L T : List UInt8} {Q : List (Nat × List UInt8)} (hd : DW w F d k lb cl tb ct vw ds L T Q)
    {T' bb : List UInt8} {i nb c : Nat} {O : Obj} (ch1 : Chg w w1 (· = tb)) (hb1 : BY w1 tb T' ct) (ch2 : Chg w1 w2 (fun _ => False)) (ch3 : Chg (w2.alloc O) w3 (· ∈ vblk vw))
    (here3 : w3.heap[d]? = some (.cells #[.slice (some ⟨lb, 0, none⟩) (64 * k) cl, .slice (some ⟨tb, 0, none⟩) (64 * k) ct, vw] 114 (0, 0)))
    (hT : T'.length = 64 * k) (how : w3.ownsRow 0 117 2 v' (Q.length + 1) (wCells Q ds ++ [.int .i64 (i : Int), .slice (some ⟨nb, 0, none⟩) 64 c]))
    (hv : ∀ b ∈ vblk v', b ∈ vblk vw ∨ (w2.alloc O).heap.size ≤ b) (hi : i < k) (hl : bb.length = 64) (hnb : w1.heap.size ≤ nb) (hbb : BY w2 nb bb c) (hc : 64 ≤ c) :
    ∃ F', DV (w3.setCell ⟨d, 2, none⟩ v') F' d k L T' (Q ++ [(i, bb)]) ∧ Upd w (w3.setCell ⟨d, 2, none⟩ v') F F' := by
  have hs1 := ch1.size
  have hs2 := ch2.size
  have hs3 : (w2.alloc O).heap.size = w2.heap.size + 1 := by simp
  have hnl := hbb.lt
  have hfw := hd.fw
  have hlt := hd.lt
  have hvl : ∀ b ∈ vblk vw, b < w1.heap.size := fun b hb => Nat.lt_of_lt_of_le (hlt b (hfw b hb).1) hs1
  have ch12 : Chg w1 w3 (· ∈ vblk vw) := ((ch2.trans (Chg.alloc w2 O _)).mono (fun _ q => q.elim)).trans ch3
  have hdl := hlt d hd.fd
  have htl := hlt tb hd.ft
  have hdv : d ∉ vblk vw := fun q => (hfw d q).2.1 rfl
  have htv : tb ∉ vblk vw := fun q => (hfw tb q).2.2.2 rfl
  have hvn : d ∉ vblk v' := fun q => by rcases hv d q with q | q; exact hdv q; omega
  refine dwrite_post hd (nb := nb) (c := c) ?_ ?_ hT ?_ (own_stay how (fun b hb => Below.heap_setCell _ _ _ _ (fun e => hvn ((show b = d from e) ▸ hb)))) ?_ hi hl (by omega) ?_ hc ?_ ?_
  · exact ((ch1.mono (S' := fun b => b = d ∨ b = tb ∨ b ∈ vblk vw) (fun b q => .inr (.inl q))).trans (ch12.mono (fun b q => .inr (.inr q)))).trans ((Chg.setCell w3 ⟨d, 2, none⟩ v').mono (fun b q => .inl q))
  · rw [heap_setCell_same w3 d 2 _ 114 v' here3]; rfl
  · exact (hb1.congr (ch12.block tb (by omega) htv)).congr (Below.heap_setCell _ _ _ _ (fun e => hd.dt e.symm))
  · intro b hb
    rcases hv b hb with q | q
    · exact .inl q
    · exact .inr (by omega)
  · refine (((hbb.congr (Below.heap_alloc w2 O nb hnl)).congr (ch3.block nb (by omega) (fun q => ?_)))).congr (Below.heap_setCell _ _ _ _ (fun e => ?_))
    · have := hvl nb q; omega
    · have e' : nb = d := e
      omega
  · intro q
    rcases hv nb q with q | q
    · have := hvl nb q; omega
    · omega
  · intro b hb
    have := own_lt how b hb
    simpa [World.setCell] using this
theorem cells_at_new (w : World) (e : TypeId) (xs : List Value) : ∀ j u, xs[j]? = some u → (w.alloc (.cells xs.toArray e)).cell? ((⟨w.heap.size, 0, none⟩ : Addr).add j) = some u := by
  intro j u hu
  rw [add_none, cell_of_row _ _ _ _ e (0, 0) (heap_alloc_new w _)]
  simpa using hu
theorem Try.dwrite (w : World) (F : Nat → Prop) (d k lb cl tb ct : Nat) (vw : Value) (ds : List (Nat × Nat)) (L T : List UInt8) (Q : List (Nat × List UInt8)) (hd : DW w F d k lb cl tb ct vw ds L T Q)
    (i : Nat) (hi : i < k) (A : Addr) (m : Nat) (bb : List UInt8) (hl : bb.length = 64) (hc : ∀ j u, (bb.map u8v)[j]? = some u → w.cell? (A.add j) = some u) (hA : ¬ F A.block) (hQ : Q.length ≤ 1000000) :
    Calls Try.prog 17 #[.pointer (some ⟨d, 0, none⟩), .int .i64 i, .slice (some A) 64 m] w fun e w' => e = .returned (.int .i64 0) ∧ ∃ F', DV w' F' d k L (T.take (64 * i) ++ (bb ++ T.drop (64 * i + 64))) (Q ++ [(i, bb)]) ∧ Upd w w' F F' := by
  have c0 : w.cell? ⟨d, 0, none⟩ = some (.slice (some ⟨lb, 0, none⟩) (64 * k) cl) := by rw [cell_of_row w d 0 _ 114 (0, 0) hd.here]; rfl
  have c1 : w.cell? ⟨d, 1, none⟩ = some (.slice (some ⟨tb, 0, none⟩) (64 * k) ct) := by rw [cell_of_row w d 1 _ 114 (0, 0) hd.here]; rfl
  have hk := hd.hk
  have hct := hd.ct'
  have h16 : 64 * k ≤ 65536 := by omega
  have hik : (i : Int) < (64 * k : Nat) / 64 := by omega
  have hin : i < 64 * k / 64 := by omega
  have g1 := Lib.hid hd.bt
  have hT := hd.Tl
  have h5 : (Try.prog.info? 5).map (·.size) = some 1 := by kernel_rfl
  have HD := Lib.hid hd
  have HL := Lib.hid hl
  have HT := Lib.hid hT
  clear hd hl hT
  go_enter Try.func17, Try.ntmps17
  go_wp2_with (first
    | (go_at_call 47; refine (Try.has_yes _ _ _ _ _ h16 (by omega) hik _ c1).mono ?_; rintro e w' ⟨rfl, rfl⟩)
    | (go_at_call 48; refine (Try.at _ _ _ _ _ h16 hin hct _).mono ?_; rintro e w' ⟨rfl, rfl⟩)
    | (with_reducible refine wpList_copy_by rfl (.tmp 21) (.tmp 22) 50 50 rfl Try.underlying50 h5 tb (i * 64) ct T 64 _ A m bb rfl rfl g1.out HL.out hc (by rw [HT.out]; omega) ?_))
  intro w1 hb1 ho1
  have hdt := (HD.out).dt
  have d2 : w1.cell? ⟨d, 2, none⟩ = some vw := by
    rw [ho1.cell (A := ⟨d, 2, none⟩) hdt, cell_of_row w d 2 _ 114 (0, 0) (HD.out).here]; rfl
  have hc1 := ho1.cells (A := A) (fun e => hA (e ▸ (HD.out).ft)) hc
  have hs1 := ho1.size
  have hdlt : d < w1.heap.size := by rw [hs1]; exact (HD.out).lt d (HD.out).fd
  clear hc c0 c1 hs1
  obtain ⟨i0, hi74, hz0, hz1, hz2⟩ := info_parts Try.info117
  go_wp2
  have how1 : w1.ownsRow 0 117 2 vw Q.length (wCells Q ds) := own_stay (HD.out).ow (fun b hb => ho1.block b ((HD.out).fw b hb).2.2.2)
  have hb63 : Q.length + 1 ≤ maxLen := by unfold maxLen; omega
  have hc1d : ∀ j u, (bb.map u8v)[j]? = some u → w1.drew.cell? (A.add j) = some u := hc1
  clear hc1
  have here1 : Hid (w1.heap[d]? = some (.cells #[.slice (some ⟨lb, 0, none⟩) (64 * k) cl, .slice (some ⟨tb, 0, none⟩) (64 * k) ct, vw] 114 (0, 0))) := Lib.hid ((ho1.block d hdt).trans (HD.out).here)
  have hvl : ∀ b ∈ vblk vw, b < w1.heap.size := fun b hb => by rw [ho1.size]; exact (HD.out).lt b ((HD.out).fw b hb).1
  have hvd : d ∉ vblk vw := fun q => ((HD.out).fw d q).2.1 rfl
  go_region_law (first
    | (refine step_open rfl ?_; go_simp; go_at_call 49; refine (Try.clone A 64 m _ (by omega) bb HL.out hc1d).mono ?_; rintro e w2 ⟨nb, c, rfl, hn, hnc, hby, hbel⟩
       have ch2 : Chg w1 w2 (fun _ => False) := (Chg.below hbel _).ofDrew
       have e2 : w2.cell? ⟨d, 2, none⟩ = some vw := (World.cell?_of_block (w := w1) (ch2.block d hdlt id)).trans d2
       have e2a : ∀ o, (w2.alloc o).cell? ⟨d, 2, none⟩ = some vw := fun o => (World.cell?_of_block (w := w1) ((ch2.trans (Chg.alloc w2 o _)).block d hdlt id)).trans d2
       clear hbel)
    | (refine step_append_at rfl (.tmp 28) (.tmp 33) 112 rfl 117 i0 (.agg #[.int .i64 0, .slice none 0 0]) 2 32 Try.underlying112 hi74 hz0 hz1 hz2 rfl (by decide) vw Q.length (wCells Q ds) rfl (own_stay how1 (fun b hb => (ch2.trans (Chg.alloc w2 _ _)).block b (hvl b hb) id)) _ 1 1 [.int .i64 (i : Int), .slice (some ⟨nb, 0, none⟩) 64 c] rfl rfl (cells_at_new w2 117 _) (by simp [Value.oneCell']) hb63 (by omega) ?_
       intro v' w3 how3 ch3 hv3 hvs
       obtain ⟨A', n', c', rfl⟩ := hvs
       have here3 : w3.heap[d]? = some (.cells #[.slice (some ⟨lb, 0, none⟩) (64 * k) cl, .slice (some ⟨tb, 0, none⟩) (64 * k) ct, vw] 114 (0, 0)) := ((((ch2.trans (Chg.alloc w2 _ _)).mono (fun _ q => q.elim)).trans ch3).block d hdlt hvd).trans here1.out
       have c3 : w3.cell? ⟨d, 2, none⟩ = some vw := by rw [cell_of_row w3 d 2 _ 114 (0, 0) here3]; rfl
       have f3 := frozen_of_row w3 d 2 _ 114 here3
       have HH3 := Lib.hid here3
       clear here3))
  all_goals
    clear e2a e2 c3 f3
    go_wp2
    go_ret
    refine ⟨rfl, ?_⟩
    rw [Nat.mul_comm 64 i]
    exact dwrite_end HD.out (Chg.only ho1) hb1 ch2 ch3 HH3.out (by rw [← HT.out, ← HL.out, splice_len _ _ _ (by rw [HT.out, HL.out]; omega)]) how3 hv3 hi HL.out hn hby hnc
end Go.Proofs.Ytfblhcphbcghpaa
end

section
namespace Go.Proofs.Ytfblhcphbcghpaa
open Go.RowKit
set_option maxRecDepth 100000
theorem DW.c0 {w : World} {F : Nat → Prop} {d k lb cl tb ct : Nat} {vw : Value} {ds : List (Nat × Nat)} {L T : List UInt8} {Q : List (Nat × List UInt8)} (hd : DW w F d k lb cl tb ct vw ds L T Q) : w.cell? ⟨d, 0, none⟩ = some (.slice (some ⟨lb, 0, none⟩) (64 * k) cl) := by
  rw [cell_of_row w d 0 _ 114 (0, 0) hd.here]; rfl
theorem DW.c1 {w : World} {F : Nat → Prop} {d k lb cl tb ct : Nat} {vw : Value} {ds : List (Nat × Nat)} {L T : List UInt8} {Q : List (Nat × List UInt8)} (hd : DW w F d k lb cl tb ct vw ds L T Q) : w.cell? ⟨d, 1, none⟩ = some (.slice (some ⟨tb, 0, none⟩) (64 * k) ct) := by
  rw [cell_of_row w d 1 _ 114 (0, 0) hd.here]; rfl
theorem DW.c2 {w : World} {F : Nat → Prop} {d k lb cl tb ct : Nat} {vw : Value} {ds : List (Nat × Nat)} {L T : List UInt8} {Q : List (Nat × List UInt8)} (hd : DW w F d k lb cl tb ct vw ds L T Q) : w.cell? ⟨d, 2, none⟩ = some vw := by
  rw [cell_of_row w d 2 _ 114 (0, 0) hd.here]; rfl
def NewDev (w : World) (k : Nat) (l : List UInt8) (v : Value) (w' : World) : Prop := ∃ d F, v = .pointer (some ⟨d, 0, none⟩) ∧ DV w' F d k l l [] ∧ Below w.heap.size w w' ∧ ∀ b, F b → w.heap.size ≤ b
def NewGood (w : World) (k : Nat) (e : Ending) (w' : World) : Prop := ∃ v, e = .returned (.tuple #[v, .int .i64 0]) ∧ NewDev w k (List.replicate (64 * k) 0) v w'
def ReadGood (w : World) (l : List UInt8) (e : Ending) (w' : World) : Prop := ∃ b c, e = .returned (.tuple #[.slice (some ⟨b, 0, none⟩) 64 c, .int .i64 0]) ∧ w.heap.size ≤ b ∧ 64 ≤ c ∧ BY w' b l c ∧ Below w.heap.size w w'
theorem Try.read_good {w : World} {F : Nat → Prop} {d k lb cl tb ct : Nat} {vw : Value} {ds : List (Nat × Nat)} {L T : List UInt8} {Q : List (Nat × List UInt8)} (hd : DW w F d k lb cl tb ct vw ds L T Q) (i : Nat) (hi : i < k) :
    Calls Try.prog 76 #[.pointer (some ⟨d, 0, none⟩), .int .i64 i] w (ReadGood w ((T.drop (i * 64)).take 64)) := by
  have c1 := hd.c1
  have hk := hd.hk
  have hct := hd.ct'
  have h16 : 64 * k ≤ 65536 := by omega
  have hik : (i : Int) < (64 * k : Nat) / 64 := by omega
  have hin : i < 64 * k / 64 := by omega
  have hTl := hd.Tl
  have hw := hd.bt.win (i * 64) 64 (by omega)
  have hl : ((T.drop (i * 64)).take 64).length = 64 := by simp; omega
  have HL := Lib.hid hl
  clear hl hTl
  go_enter Try.func76, Try.ntmps76
  go_wp2_with (first
    | (go_at_call 47; refine (Try.has_yes _ _ _ _ _ h16 (by omega) hik _ c1).mono ?_; rintro e w' ⟨rfl, rfl⟩)
    | (go_at_call 48; refine (Try.at _ _ _ _ _ h16 hin hct _).mono ?_; rintro e w' ⟨rfl, rfl⟩))
  refine (Try.clone _ 64 _ w (by omega) _ HL.out (by simpa using hw)).mono ?_
  rintro e w1 ⟨b1, c1', rfl, h1, hc1, hb1, hw1⟩
  have H : Hid (ReadGood w ((T.drop (i * 64)).take 64) (.returned (.tuple #[.slice (some ⟨b1, 0, none⟩) 64 c1', .int .i64 0])) w1) := ⟨b1, c1', rfl, h1, hc1, hb1, hw1⟩
  clear h1 hc1 hb1 hw1
  go_wp2
  go_ret2
  exact H.out
end Go.Proofs.Ytfblhcphbcghpaa
end

section
namespace Go.Proofs.Ytfblhcphbcghpaa
open Go.RowKit
set_option maxRecDepth 100000
def num4 (l : List UInt8) : Nat := (l.getD 0 0).toNat + 256 * (l.getD 1 0).toNat + 65536 * (l.getD 2 0).toNat + 16777216 * (l.getD 3 0).toNat
theorem or_add (a b k : Nat) (h : a < 2 ^ k) : a ||| (b * 2 ^ k) = a + b * 2 ^ k := by
  rw [Nat.or_comm, Nat.mul_comm, ← Nat.two_pow_add_eq_or_of_lt h]
  omega
theorem or4 (y0 y1 y2 y3 : Nat) (h0 : y0 < 256) (h1 : y1 < 256) (h2 : y2 < 256) (h3 : y3 < 256) :
    bits .or .u32 (bits .or .u32 (bits .or .u32 (IntKind.u32.wrap (y0 : Int)) (IntKind.u32.wrap (IntKind.u32.wrap (y1 : Int) * 256))) (IntKind.u32.wrap (IntKind.u32.wrap (y2 : Int) * 65536))) (IntKind.u32.wrap (IntKind.u32.wrap (y3 : Int) * 16777216)) = ((y0 + 256 * y1 + 65536 * y2 + 16777216 * y3 : Nat) : Int) := by
  have e0 : IntKind.u32.wrap (y0 : Int) = (y0 : Nat) := by rw [IntKind.wrap_u32]; omega
  have e1 : IntKind.u32.wrap (IntKind.u32.wrap (y1 : Int) * 256) = ((y1 * 2 ^ 8 : Nat) : Int) := by rw [IntKind.wrap_u32, IntKind.wrap_u32]; omega
  have e2 : IntKind.u32.wrap (IntKind.u32.wrap (y2 : Int) * 65536) = ((y2 * 2 ^ 16 : Nat) : Int) := by rw [IntKind.wrap_u32, IntKind.wrap_u32]; omega
  have e3 : IntKind.u32.wrap (IntKind.u32.wrap (y3 : Int) * 16777216) = ((y3 * 2 ^ 24 : Nat) : Int) := by rw [IntKind.wrap_u32, IntKind.wrap_u32]; omega
  rw [e0, e1, e2, e3, (bitsU y0 (y1 * 2 ^ 8) (by omega) (by omega)).2.1, or_add y0 y1 8 (by omega), (bitsU (y0 + y1 * 2 ^ 8) (y2 * 2 ^ 16) (by omega) (by omega)).2.1, or_add (y0 + y1 * 2 ^ 8) y2 16 (by omega), (bitsU (y0 + y1 * 2 ^ 8 + y2 * 2 ^ 16) (y3 * 2 ^ 24) (by omega) (by omega)).2.1, or_add _ y3 24 (by omega)]
  omega
theorem num4_le4 (s : Nat) (h : s < 4294967296) (r : List UInt8) : num4 (le4 s ++ r) = s := by
  have k : ∀ m, (UInt8.ofNat (m % 256)).toNat = m % 256 := fun m => by rw [UInt8.toNat_ofNat']; omega
  unfold num4 le4
  simp only [List.cons_append, List.nil_append, List.getD_cons_zero, List.getD_cons_succ, k]
  omega
set_option maxHeartbeats 4000000 in
theorem Try.get4v (w : World) {A : Option Addr} {n c : Nat} {l : List UInt8} (hD : DI w A n c l) (hn : n ≤ 60000) (h : 4 ≤ n) :
    Calls Try.prog 71 #[.slice A n c, .int .i64 0] w fun e w' => e = .returned (.tuple #[.int .u32 (num4 l : Nat), .int .i64 4, .int .i64 0]) ∧ w'.heap = w.heap ∧ Below w.heap.size w w' := by
  have hln := hD.len
  have hlc := hD.le
  obtain ⟨x0, h0⟩ : ∃ x, l[0]? = some x := ⟨_, List.getElem?_eq_getElem (by omega)⟩
  obtain ⟨x1, h1⟩ : ∃ x, l[1]? = some x := ⟨_, List.getElem?_eq_getElem (by omega)⟩
  obtain ⟨x2, h2⟩ : ∃ x, l[2]? = some x := ⟨_, List.getElem?_eq_getElem (by omega)⟩
  obtain ⟨x3, h3⟩ : ∃ x, l[3]? = some x := ⟨_, List.getElem?_eq_getElem (by omega)⟩
  obtain ⟨X, hX, c0⟩ := hD.at' 0 x0 h0
  subst hX
  obtain ⟨Y, hY, c1⟩ := hD.at' 1 x1 h1
  cases hY
  obtain ⟨Y, hY, c2⟩ := hD.at' 2 x2 h2
  cases hY
  obtain ⟨Y, hY, c3⟩ := hD.at' 3 x3 h3
  cases hY
  have hs := World.cell?_spot c0
  obtain ⟨b, o, sp⟩ := X
  have hsp : sp = none := by
    cases sp with
    | none => rfl
    | some q => simp [Addr.add] at hs
  subst hsp
  rw [Addr.add_lit] at c0 c1 c2 c3
  rw [Nat.add_zero] at c0
  unfold u8v at c0 c1 c2 c3
  have hget : num4 l = x0.toNat + 256 * x1.toNat + 65536 * x2.toNat + 16777216 * x3.toNat := by unfold num4; simp [List.getD_eq_getElem?_getD, h0, h1, h2, h3]
  have hl0 := x0.toNat_lt
  have hl1 := x1.toNat_lt
  have hl2 := x2.toNat_lt
  have hl3 := x3.toNat_lt
  obtain ⟨y0, hy0⟩ : ∃ y, x0.toNat = y := ⟨_, rfl⟩
  obtain ⟨y1, hy1⟩ : ∃ y, x1.toNat = y := ⟨_, rfl⟩
  obtain ⟨y2, hy2⟩ : ∃ y, x2.toNat = y := ⟨_, rfl⟩
  obtain ⟨y3, hy3⟩ : ∃ y, x3.toNat = y := ⟨_, rfl⟩
  rw [hy0] at c0
  rw [hy0, hy1, hy2, hy3] at hget
  rw [hy0] at hl0
  rw [hy1] at hl1
  rw [hy2] at hl2
  rw [hy3] at hl3
  rw [hget]
  rw [hy1] at c1
  rw [hy2] at c2
  rw [hy3] at c3
  have g2 : decide ((n : Int) < 0) = false := by simp
  have g3 : decide ((n : Int) < 4) = false := decide_eq_false (by omega)
  have g3' : decide (n < 4) = false := decide_eq_false (by omega)
  have s1 : IntKind.i64.wrap (n : Int) = (n : Int) := wrapi (by omega) (by omega)
  have k1 : IntKind.i64.wrap 1 = 1 := by decide
  have k2 : IntKind.i64.wrap 2 = 2 := by decide
  have k3 : IntKind.i64.wrap 3 = 3 := by decide
  have i0 : 0 < n := by omega
  have j1 : (1 : Int) < (n : Int) := by omega
  have j2 : (2 : Int) < (n : Int) := by omega
  have j3 : (3 : Int) < (n : Int) := by omega
  have i1 : 1 < n := by omega
  have i2 : 2 < n := by omega
  have i3 : 3 < n := by omega
  have HLT := Lib.hid (And.intro (And.intro hl0 hl1) (And.intro hl2 hl3))
  clear hl0 hl1 hl2 hl3
  clear hget hD hs h0 h1 h2 h3 hy0 hy1 hy2 hy3
  go_enter Try.func71, Try.ntmps71
  go_wp2_with fail
  refine wp_region_noPanic ?_
  refine wp_region_held_drew (S := (fun W => W.cell? ⟨b, o, none⟩ = some (.int .u8 y0) ∧ W.cell? ⟨b, o + 1, none⟩ = some (.int .u8 y1) ∧ W.cell? ⟨b, o + 2, none⟩ = some (.int .u8 y2) ∧ W.cell? ⟨b, o + 3, none⟩ = some (.int .u8 y3))) (by kernel_rfl) ?_ (fun hHeld => ?_)
  · exact ⟨c0, c1, c2, c3⟩
  refine wpAnyH_take (i := 0) (oi := { dst := some 20, op := Op.move (Operand.tmp 0), type := 50, pos := "num.go:90", after := #[], guard := none }) (v := ?_) rfl (by kernel_rfl) (by kernel_rfl) (by kernel_rfl) (fun _ _ _ h => h) (Or.inl ⟨by rfl, ?_⟩) (by assumption) ?_
  rotate_left
  · (intro w hSw; (try dsimp only at hSw); go_simp; try with_reducible rfl)
  try simp only [Act.put, List.setIfInBounds_toArray, List.set_cons_zero, List.set_cons_succ]
  refine wpAnyH_take (i := 1) (oi := { dst := some 21, op := Op.move (Operand.tmp 1), type := 3, pos := "num.go:90", after := #[], guard := none }) (v := ?_) rfl (by kernel_rfl) (by kernel_rfl) (by kernel_rfl) (fun _ _ _ h => h) (Or.inl ⟨by rfl, ?_⟩) (by assumption) ?_
  rotate_left
  · (intro w hSw; (try dsimp only at hSw); go_simp; try with_reducible rfl)
  try simp only [Act.put, List.setIfInBounds_toArray, List.set_cons_zero, List.set_cons_succ]
  refine wpAnyH_take (i := 2) (oi := { dst := some 22, op := Op.indexAddr 50 (Operand.tmp 20) (Operand.tmp 21), type := 0, pos := "num.go:90", after := #[{ on := 0, ground := Ground.data }, { on := 1, ground := Ground.data }], guard := none }) (v := ?_) rfl (by kernel_rfl) (by kernel_rfl) (by kernel_rfl) (fun _ _ _ h => h) (Or.inl ⟨by rfl, ?_⟩) (by assumption) ?_
  rotate_left
  · (intro w hSw; (try dsimp only at hSw); go_simp; try with_reducible rfl)
  try simp only [Act.put, List.setIfInBounds_toArray, List.set_cons_zero, List.set_cons_succ]
  refine wpAnyH_take (i := 3) (oi := { dst := some 23, op := Op.load 5 (Operand.tmp 22), type := 5, pos := "num.go:90", after := #[{ on := 2, ground := Ground.data }], guard := none }) (v := ?_) rfl (by kernel_rfl) (by kernel_rfl) (by kernel_rfl) (fun _ _ _ h => h) (Or.inl ⟨by rfl, ?_⟩) (by assumption) ?_
  rotate_left
  · (intro w hSw; (try dsimp only at hSw); go_simp; try with_reducible rfl)
  try simp only [Act.put, List.setIfInBounds_toArray, List.set_cons_zero, List.set_cons_succ]
  refine wpAnyH_take (i := 4) (oi := { dst := some 24, op := Op.convert 5 119 (Operand.tmp 23), type := 119, pos := "num.go:90", after := #[{ on := 3, ground := Ground.data }], guard := none }) (v := ?_) rfl (by kernel_rfl) (by kernel_rfl) (by kernel_rfl) (fun _ _ _ h => h) (Or.inl ⟨by rfl, ?_⟩) (by assumption) ?_
  rotate_left
  · (intro w hSw; (try dsimp only at hSw); go_simp; try with_reducible rfl)
  try simp only [Act.put, List.setIfInBounds_toArray, List.set_cons_zero, List.set_cons_succ]
  refine wpAnyH_take (i := 5) (oi := { dst := some 25, op := Op.move (Operand.tmp 0), type := 50, pos := "num.go:90", after := #[], guard := none }) (v := ?_) rfl (by kernel_rfl) (by kernel_rfl) (by kernel_rfl) (fun _ _ _ h => h) (Or.inl ⟨by rfl, ?_⟩) (by assumption) ?_
  rotate_left
  · (intro w hSw; (try dsimp only at hSw); go_simp; try with_reducible rfl)
  try simp only [Act.put, List.setIfInBounds_toArray, List.set_cons_zero, List.set_cons_succ]
  refine wpAnyH_take (i := 6) (oi := { dst := some 26, op := Op.move (Operand.tmp 1), type := 3, pos := "num.go:90", after := #[], guard := none }) (v := ?_) rfl (by kernel_rfl) (by kernel_rfl) (by kernel_rfl) (fun _ _ _ h => h) (Or.inl ⟨by rfl, ?_⟩) (by assumption) ?_
  rotate_left
  · (intro w hSw; (try dsimp only at hSw); go_simp; try with_reducible rfl)
  try simp only [Act.put, List.setIfInBounds_toArray, List.set_cons_zero, List.set_cons_succ]
  refine wpAnyH_take (i := 7) (oi := { dst := some 27, op := Op.binOp BinOp.add 3 (Operand.tmp 26) (Operand.const (Value.int IntKind.i64 1)) 3, type := 3, pos := "num.go:90", after := #[{ on := 6, ground := Ground.data }], guard := none }) (v := ?_) rfl (by kernel_rfl) (by kernel_rfl) (by kernel_rfl) (fun _ _ _ h => h) (Or.inl ⟨by rfl, ?_⟩) (by assumption) ?_
  rotate_left
  · (intro w hSw; (try dsimp only at hSw); go_simp; try with_reducible rfl)
  try simp only [Act.put, List.setIfInBounds_toArray, List.set_cons_zero, List.set_cons_succ]
  refine wpAnyH_take (i := 8) (oi := { dst := some 28, op := Op.indexAddr 50 (Operand.tmp 25) (Operand.tmp 27), type := 0, pos := "num.go:90", after := #[{ on := 5, ground := Ground.data }, { on := 7, ground := Ground.data }], guard := none }) (v := ?_) rfl (by kernel_rfl) (by kernel_rfl) (by kernel_rfl) (fun _ _ _ h => h) (Or.inl ⟨by rfl, ?_⟩) (by assumption) ?_
  rotate_left
  · (intro w hSw; (try dsimp only at hSw); go_simp; try with_reducible rfl)
  try simp only [Act.put, List.setIfInBounds_toArray, List.set_cons_zero, List.set_cons_succ]
  refine wpAnyH_take (i := 9) (oi := { dst := some 29, op := Op.load 5 (Operand.tmp 28), type := 5, pos := "num.go:90", after := #[{ on := 8, ground := Ground.data }], guard := none }) (v := ?_) rfl (by kernel_rfl) (by kernel_rfl) (by kernel_rfl) (fun _ _ _ h => h) (Or.inl ⟨by rfl, ?_⟩) (by assumption) ?_
  rotate_left
  · (intro w hSw; (try dsimp only at hSw); go_simp; try with_reducible rfl)
  try simp only [Act.put, List.setIfInBounds_toArray, List.set_cons_zero, List.set_cons_succ]
  refine wpAnyH_take (i := 10) (oi := { dst := some 30, op := Op.convert 5 119 (Operand.tmp 29), type := 119, pos := "num.go:90", after := #[{ on := 9, ground := Ground.data }], guard := none }) (v := ?_) rfl (by kernel_rfl) (by kernel_rfl) (by kernel_rfl) (fun _ _ _ h => h) (Or.inl ⟨by rfl, ?_⟩) (by assumption) ?_
  rotate_left
  · (intro w hSw; (try dsimp only at hSw); go_simp; try with_reducible rfl)
  try simp only [Act.put, List.setIfInBounds_toArray, List.set_cons_zero, List.set_cons_succ]
  refine wpAnyH_take (i := 11) (oi := { dst := some 31, op := Op.binOp BinOp.shl 119 (Operand.tmp 30) (Operand.const (Value.int IntKind.u64 8)) 130, type := 119, pos := "num.go:90", after := #[{ on := 10, ground := Ground.data }], guard := none }) (v := ?_) rfl (by kernel_rfl) (by kernel_rfl) (by kernel_rfl) (fun _ _ _ h => h) (Or.inl ⟨by rfl, ?_⟩) (by assumption) ?_
  rotate_left
  · (intro w hSw; (try dsimp only at hSw); go_simp; try with_reducible rfl)
  try simp only [Act.put, List.setIfInBounds_toArray, List.set_cons_zero, List.set_cons_succ]
  refine wpAnyH_take (i := 12) (oi := { dst := some 32, op := Op.binOp BinOp.or 119 (Operand.tmp 24) (Operand.tmp 31) 119, type := 119, pos := "num.go:90", after := #[{ on := 4, ground := Ground.data }, { on := 11, ground := Ground.data }], guard := none }) (v := ?_) rfl (by kernel_rfl) (by kernel_rfl) (by kernel_rfl) (fun _ _ _ h => h) (Or.inl ⟨by rfl, ?_⟩) (by assumption) ?_
  rotate_left
  · (intro w hSw; (try dsimp only at hSw); go_simp; try with_reducible rfl)
  try simp only [Act.put, List.setIfInBounds_toArray, List.set_cons_zero, List.set_cons_succ]
  refine wpAnyH_take (i := 13) (oi := { dst := some 33, op := Op.move (Operand.tmp 0), type := 50, pos := "num.go:90", after := #[], guard := none }) (v := ?_) rfl (by kernel_rfl) (by kernel_rfl) (by kernel_rfl) (fun _ _ _ h => h) (Or.inl ⟨by rfl, ?_⟩) (by assumption) ?_
  rotate_left
  · (intro w hSw; (try dsimp only at hSw); go_simp; try with_reducible rfl)
  try simp only [Act.put, List.setIfInBounds_toArray, List.set_cons_zero, List.set_cons_succ]
  refine wpAnyH_take (i := 14) (oi := { dst := some 34, op := Op.move (Operand.tmp 1), type := 3, pos := "num.go:90", after := #[], guard := none }) (v := ?_) rfl (by kernel_rfl) (by kernel_rfl) (by kernel_rfl) (fun _ _ _ h => h) (Or.inl ⟨by rfl, ?_⟩) (by assumption) ?_
  rotate_left
  · (intro w hSw; (try dsimp only at hSw); go_simp; try with_reducible rfl)
  try simp only [Act.put, List.setIfInBounds_toArray, List.set_cons_zero, List.set_cons_succ]
  refine wpAnyH_take (i := 15) (oi := { dst := some 35, op := Op.binOp BinOp.add 3 (Operand.tmp 34) (Operand.const (Value.int IntKind.i64 2)) 3, type := 3, pos := "num.go:90", after := #[{ on := 14, ground := Ground.data }], guard := none }) (v := ?_) rfl (by kernel_rfl) (by kernel_rfl) (by kernel_rfl) (fun _ _ _ h => h) (Or.inl ⟨by rfl, ?_⟩) (by assumption) ?_
  rotate_left
  · (intro w hSw; (try dsimp only at hSw); go_simp; try with_reducible rfl)
  try simp only [Act.put, List.setIfInBounds_toArray, List.set_cons_zero, List.set_cons_succ]
  refine wpAnyH_take (i := 16) (oi := { dst := some 36, op := Op.indexAddr 50 (Operand.tmp 33) (Operand.tmp 35), type := 0, pos := "num.go:90", after := #[{ on := 13, ground := Ground.data }, { on := 15, ground := Ground.data }], guard := none }) (v := ?_) rfl (by kernel_rfl) (by kernel_rfl) (by kernel_rfl) (fun _ _ _ h => h) (Or.inl ⟨by rfl, ?_⟩) (by assumption) ?_
  rotate_left
  · (intro w hSw; (try dsimp only at hSw); go_simp; try with_reducible rfl)
  try simp only [Act.put, List.setIfInBounds_toArray, List.set_cons_zero, List.set_cons_succ]
  refine wpAnyH_take (i := 17) (oi := { dst := some 37, op := Op.load 5 (Operand.tmp 36), type := 5, pos := "num.go:90", after := #[{ on := 16, ground := Ground.data }], guard := none }) (v := ?_) rfl (by kernel_rfl) (by kernel_rfl) (by kernel_rfl) (fun _ _ _ h => h) (Or.inl ⟨by rfl, ?_⟩) (by assumption) ?_
  rotate_left
  · (intro w hSw; (try dsimp only at hSw); go_simp; try with_reducible rfl)
  try simp only [Act.put, List.setIfInBounds_toArray, List.set_cons_zero, List.set_cons_succ]
  refine wpAnyH_take (i := 18) (oi := { dst := some 38, op := Op.convert 5 119 (Operand.tmp 37), type := 119, pos := "num.go:90", after := #[{ on := 17, ground := Ground.data }], guard := none }) (v := ?_) rfl (by kernel_rfl) (by kernel_rfl) (by kernel_rfl) (fun _ _ _ h => h) (Or.inl ⟨by rfl, ?_⟩) (by assumption) ?_
  rotate_left
  · (intro w hSw; (try dsimp only at hSw); go_simp; try with_reducible rfl)
  try simp only [Act.put, List.setIfInBounds_toArray, List.set_cons_zero, List.set_cons_succ]
  refine wpAnyH_take (i := 19) (oi := { dst := some 39, op := Op.binOp BinOp.shl 119 (Operand.tmp 38) (Operand.const (Value.int IntKind.u64 16)) 130, type := 119, pos := "num.go:90", after := #[{ on := 18, ground := Ground.data }], guard := none }) (v := ?_) rfl (by kernel_rfl) (by kernel_rfl) (by kernel_rfl) (fun _ _ _ h => h) (Or.inl ⟨by rfl, ?_⟩) (by assumption) ?_
  rotate_left
  · (intro w hSw; (try dsimp only at hSw); go_simp; try with_reducible rfl)
  try simp only [Act.put, List.setIfInBounds_toArray, List.set_cons_zero, List.set_cons_succ]
  refine wpAnyH_take (i := 20) (oi := { dst := some 40, op := Op.binOp BinOp.or 119 (Operand.tmp 32) (Operand.tmp 39) 119, type := 119, pos := "num.go:90", after := #[{ on := 12, ground := Ground.data }, { on := 19, ground := Ground.data }], guard := none }) (v := ?_) rfl (by kernel_rfl) (by kernel_rfl) (by kernel_rfl) (fun _ _ _ h => h) (Or.inl ⟨by rfl, ?_⟩) (by assumption) ?_
  rotate_left
  · (intro w hSw; (try dsimp only at hSw); go_simp; try with_reducible rfl)
  try simp only [Act.put, List.setIfInBounds_toArray, List.set_cons_zero, List.set_cons_succ]
  refine wpAnyH_take (i := 21) (oi := { dst := some 41, op := Op.move (Operand.tmp 0), type := 50, pos := "num.go:90", after := #[], guard := none }) (v := ?_) rfl (by kernel_rfl) (by kernel_rfl) (by kernel_rfl) (fun _ _ _ h => h) (Or.inl ⟨by rfl, ?_⟩) (by assumption) ?_
  rotate_left
  · (intro w hSw; (try dsimp only at hSw); go_simp; try with_reducible rfl)
  try simp only [Act.put, List.setIfInBounds_toArray, List.set_cons_zero, List.set_cons_succ]
  refine wpAnyH_take (i := 22) (oi := { dst := some 42, op := Op.move (Operand.tmp 1), type := 3, pos := "num.go:90", after := #[], guard := none }) (v := ?_) rfl (by kernel_rfl) (by kernel_rfl) (by kernel_rfl) (fun _ _ _ h => h) (Or.inl ⟨by rfl, ?_⟩) (by assumption) ?_
  rotate_left
  · (intro w hSw; (try dsimp only at hSw); go_simp; try with_reducible rfl)
  try simp only [Act.put, List.setIfInBounds_toArray, List.set_cons_zero, List.set_cons_succ]
  refine wpAnyH_take (i := 23) (oi := { dst := some 43, op := Op.binOp BinOp.add 3 (Operand.tmp 42) (Operand.const (Value.int IntKind.i64 3)) 3, type := 3, pos := "num.go:90", after := #[{ on := 22, ground := Ground.data }], guard := none }) (v := ?_) rfl (by kernel_rfl) (by kernel_rfl) (by kernel_rfl) (fun _ _ _ h => h) (Or.inl ⟨by rfl, ?_⟩) (by assumption) ?_
  rotate_left
  · (intro w hSw; (try dsimp only at hSw); go_simp; try with_reducible rfl)
  try simp only [Act.put, List.setIfInBounds_toArray, List.set_cons_zero, List.set_cons_succ]
  refine wpAnyH_take (i := 24) (oi := { dst := some 44, op := Op.indexAddr 50 (Operand.tmp 41) (Operand.tmp 43), type := 0, pos := "num.go:90", after := #[{ on := 21, ground := Ground.data }, { on := 23, ground := Ground.data }], guard := none }) (v := ?_) rfl (by kernel_rfl) (by kernel_rfl) (by kernel_rfl) (fun _ _ _ h => h) (Or.inl ⟨by rfl, ?_⟩) (by assumption) ?_
  rotate_left
  · (intro w hSw; (try dsimp only at hSw); go_simp; try with_reducible rfl)
  try simp only [Act.put, List.setIfInBounds_toArray, List.set_cons_zero, List.set_cons_succ]
  refine wpAnyH_take (i := 25) (oi := { dst := some 45, op := Op.load 5 (Operand.tmp 44), type := 5, pos := "num.go:90", after := #[{ on := 24, ground := Ground.data }], guard := none }) (v := ?_) rfl (by kernel_rfl) (by kernel_rfl) (by kernel_rfl) (fun _ _ _ h => h) (Or.inl ⟨by rfl, ?_⟩) (by assumption) ?_
  rotate_left
  · (intro w hSw; (try dsimp only at hSw); go_simp; try with_reducible rfl)
  try simp only [Act.put, List.setIfInBounds_toArray, List.set_cons_zero, List.set_cons_succ]
  refine wpAnyH_take (i := 26) (oi := { dst := some 46, op := Op.convert 5 119 (Operand.tmp 45), type := 119, pos := "num.go:90", after := #[{ on := 25, ground := Ground.data }], guard := none }) (v := ?_) rfl (by kernel_rfl) (by kernel_rfl) (by kernel_rfl) (fun _ _ _ h => h) (Or.inl ⟨by rfl, ?_⟩) (by assumption) ?_
  rotate_left
  · (intro w hSw; (try dsimp only at hSw); go_simp; try with_reducible rfl)
  try simp only [Act.put, List.setIfInBounds_toArray, List.set_cons_zero, List.set_cons_succ]
  refine wpAnyH_take (i := 27) (oi := { dst := some 47, op := Op.binOp BinOp.shl 119 (Operand.tmp 46) (Operand.const (Value.int IntKind.u64 24)) 130, type := 119, pos := "num.go:90", after := #[{ on := 26, ground := Ground.data }], guard := none }) (v := ?_) rfl (by kernel_rfl) (by kernel_rfl) (by kernel_rfl) (fun _ _ _ h => h) (Or.inl ⟨by rfl, ?_⟩) (by assumption) ?_
  rotate_left
  · (intro w hSw; (try dsimp only at hSw); go_simp; try with_reducible rfl)
  try simp only [Act.put, List.setIfInBounds_toArray, List.set_cons_zero, List.set_cons_succ]
  refine wpAnyH_take (i := 28) (oi := { dst := some 48, op := Op.binOp BinOp.or 119 (Operand.tmp 40) (Operand.tmp 47) 119, type := 119, pos := "num.go:90", after := #[{ on := 20, ground := Ground.data }, { on := 27, ground := Ground.data }], guard := none }) (v := ?_) rfl (by kernel_rfl) (by kernel_rfl) (by kernel_rfl) (fun _ _ _ h => h) (Or.inl ⟨by rfl, ?_⟩) (by assumption) ?_
  rotate_left
  · (intro w hSw; (try dsimp only at hSw); go_simp; try with_reducible rfl)
  try simp only [Act.put, List.setIfInBounds_toArray, List.set_cons_zero, List.set_cons_succ]
  refine wpAnyH_take (i := 29) (oi := { dst := some 4, op := Op.assign (Operand.tmp 48), type := 119, pos := "num.go:90", after := #[{ on := 28, ground := Ground.data }, { on := 0, ground := Ground.phase }, { on := 1, ground := Ground.phase }, { on := 2, ground := Ground.phase }, { on := 3, ground := Ground.phase }, { on := 4, ground := Ground.phase }, { on := 5, ground := Ground.phase }, { on := 6, ground := Ground.phase }, { on := 7, ground := Ground.phase }, { on := 8, ground := Ground.phase }, { on := 9, ground := Ground.phase }, { on := 10, ground := Ground.phase }, { on := 11, ground := Ground.phase }, { on := 12, ground := Ground.phase }, { on := 13, ground := Ground.phase }, { on := 14, ground := Ground.phase }, { on := 15, ground := Ground.phase }, { on := 16, ground := Ground.phase }, { on := 17, ground := Ground.phase }, { on := 18, ground := Ground.phase }, { on := 19, ground := Ground.phase }, { on := 20, ground := Ground.phase }, { on := 21, ground := Ground.phase }, { on := 22, ground := Ground.phase }, { on := 23, ground := Ground.phase }, { on := 24, ground := Ground.phase }, { on := 25, ground := Ground.phase }, { on := 26, ground := Ground.phase }, { on := 27, ground := Ground.phase }, { on := 28, ground := Ground.phase }], guard := none }) (v := ?_) rfl (by kernel_rfl) (by kernel_rfl) (by kernel_rfl) (fun _ _ _ h => h) (Or.inl ⟨by rfl, ?_⟩) (by assumption) ?_
  rotate_left
  · (intro w hSw; (try dsimp only at hSw); go_simp; try with_reducible rfl)
  try simp only [Act.put, List.setIfInBounds_toArray, List.set_cons_zero, List.set_cons_succ]
  refine wpAnyH_take (i := 30) (oi := { dst := some 5, op := Op.assign (Operand.const (Value.int IntKind.i64 4)), type := 3, pos := "num.go:90", after := #[{ on := 29, ground := Ground.chain }, { on := 0, ground := Ground.phase }, { on := 1, ground := Ground.phase }, { on := 2, ground := Ground.phase }, { on := 3, ground := Ground.phase }, { on := 4, ground := Ground.phase }, { on := 5, ground := Ground.phase }, { on := 6, ground := Ground.phase }, { on := 7, ground := Ground.phase }, { on := 8, ground := Ground.phase }, { on := 9, ground := Ground.phase }, { on := 10, ground := Ground.phase }, { on := 11, ground := Ground.phase }, { on := 12, ground := Ground.phase }, { on := 13, ground := Ground.phase }, { on := 14, ground := Ground.phase }, { on := 15, ground := Ground.phase }, { on := 16, ground := Ground.phase }, { on := 17, ground := Ground.phase }, { on := 18, ground := Ground.phase }, { on := 19, ground := Ground.phase }, { on := 20, ground := Ground.phase }, { on := 21, ground := Ground.phase }, { on := 22, ground := Ground.phase }, { on := 23, ground := Ground.phase }, { on := 24, ground := Ground.phase }, { on := 25, ground := Ground.phase }, { on := 26, ground := Ground.phase }, { on := 27, ground := Ground.phase }, { on := 28, ground := Ground.phase }, { on := 29, ground := Ground.phase }], guard := none }) (v := ?_) rfl (by kernel_rfl) (by kernel_rfl) (by kernel_rfl) (fun _ _ _ h => h) (Or.inl ⟨by rfl, ?_⟩) (by assumption) ?_
  rotate_left
  · (intro w hSw; (try dsimp only at hSw); go_simp; try with_reducible rfl)
  try simp only [Act.put, List.setIfInBounds_toArray, List.set_cons_zero, List.set_cons_succ]
  refine wpAnyH_take (i := 31) (oi := { dst := some 6, op := Op.assign (Operand.const (Value.int IntKind.i64 0)), type := 51, pos := "num.go:90", after := #[{ on := 30, ground := Ground.chain }, { on := 0, ground := Ground.phase }, { on := 1, ground := Ground.phase }, { on := 2, ground := Ground.phase }, { on := 3, ground := Ground.phase }, { on := 4, ground := Ground.phase }, { on := 5, ground := Ground.phase }, { on := 6, ground := Ground.phase }, { on := 7, ground := Ground.phase }, { on := 8, ground := Ground.phase }, { on := 9, ground := Ground.phase }, { on := 10, ground := Ground.phase }, { on := 11, ground := Ground.phase }, { on := 12, ground := Ground.phase }, { on := 13, ground := Ground.phase }, { on := 14, ground := Ground.phase }, { on := 15, ground := Ground.phase }, { on := 16, ground := Ground.phase }, { on := 17, ground := Ground.phase }, { on := 18, ground := Ground.phase }, { on := 19, ground := Ground.phase }, { on := 20, ground := Ground.phase }, { on := 21, ground := Ground.phase }, { on := 22, ground := Ground.phase }, { on := 23, ground := Ground.phase }, { on := 24, ground := Ground.phase }, { on := 25, ground := Ground.phase }, { on := 26, ground := Ground.phase }, { on := 27, ground := Ground.phase }, { on := 28, ground := Ground.phase }, { on := 29, ground := Ground.phase }, { on := 30, ground := Ground.phase }], guard := none }) (v := ?_) rfl (by kernel_rfl) (by kernel_rfl) (by kernel_rfl) (fun _ _ _ h => h) (Or.inl ⟨by rfl, ?_⟩) (by assumption) ?_
  rotate_left
  · (intro w hSw; (try dsimp only at hSw); go_simp; try with_reducible rfl)
  try simp only [Act.put, List.setIfInBounds_toArray, List.set_cons_zero, List.set_cons_succ]
  refine wpAnyH_done (by kernel_rfl) ?_ _
  refine NoPanic.normal ?_
  go_wp2_with fail
  go_ret3
  exact ⟨by rw [or4 y0 y1 y2 y3 HLT.out.1.1 HLT.out.1.2 HLT.out.2.1 HLT.out.2.2]; rfl, rfl, (Below.refl _ _).drew⟩
end Go.Proofs.Ytfblhcphbcghpaa
end
