/-
  Texts of a proof over the translated program: proved evaluators and walks, part 13 of 19.
-/
import Derived.Test.YtmpnelihfeiimaaPartP12
import Derived.Below
import Derived.Deep.Cut
import Derived.Deep.RegionHeld3
import Derived.Deep.RegionLaw
import Derived.Deep.RegionLawGrows
import Derived.Deep.RegionWith
import Derived.Handy
import Derived.IntWalk
import Derived.Laws.AppendOwn
import Derived.Laws.MakeOwn
import Derived.Lib.Hide
import Derived.LoopTactic
import Derived.Outline
import Derived.OwnWalk
import Derived.Scope
import Derived.ScopeJumps
import Derived.Shelf.Spec.SearchS
import Derived.Sort.EncStr
import Derived.Sort.Walk0
import Derived.Test.YtmpnelihfeiimaaProg
import Derived.WalkKit
import Derived.WalkMore
import Derived.WalkSpells
set_option linter.unusedVariables false
set_option linter.unusedSimpArgs false
set_option linter.unusedSectionVars false
set_option linter.unnecessarySimpa false
section
namespace Go.Proofs
open Go.RowKit NT
set_option maxRecDepth 100000
theorem Try.info9 : (Try.prog.info? 9).map (fun i => (i.zero, i.size, i.bytes)) = some (some (.string ByteArray.empty), 1, 16) := by kernel_rfl
theorem str_one (l : List Str) : ∀ u ∈ l.map encStr, u.oneCell' = true := by
  intro u hu
  obtain ⟨x, _, rfl⟩ := List.mem_map.1 hu
  rfl
theorem SY.own {w : World} {B : Nat} {v : Value} {n : Nat} {l : List Str} (h : w.ownsRow B 9 1 v n (l.map encStr)) (hv : v ≠ .slice none 0 0) : l.length = n ∧ ∃ b c, v = .slice (some ⟨b, 0, none⟩) n c ∧ B ≤ b ∧ n ≤ c ∧ SY w b l c := by
  obtain ⟨h1, h2⟩ := h
  have hl : l.length = n := by simpa using h1
  refine ⟨hl, ?_⟩
  clear h1
  rcases h2 with ⟨rfl, _⟩ | ⟨g, cap, cur, rfl, hb, hg, hn, hc, hs, ht⟩
  · exact absurd rfl hv
  · refine ⟨g, cap, rfl, hb, hn, cur.toList.drop n, ?_, ?_, hc⟩
    · rw [hg, ← ht]
      simp
    · rw [List.length_drop, Array.length_toList (xs := cur)]; simp only [Nat.mul_one] at hs; omega
def Cloned (w : World) (n : Nat) (l : List Str) (e : Ending) (w' : World) : Prop := ∃ b c, e = .returned (.slice (some ⟨b, 0, none⟩) n c) ∧ w.heap.size ≤ b ∧ n ≤ c ∧ SY w' b l c ∧ Below w.heap.size w w'
theorem cloned_of {w w' : World} {n : Nat} {l : List Str} {v : Value} (h : w'.ownsRow w.heap.size 9 1 v n (l.map encStr)) (hv : v ≠ .slice none 0 0) (hb : Below w.heap.size w w') : Cloned w n l (.returned v) w' := by
  obtain ⟨_, b, c, rfl, h2, h3, h4⟩ := SY.own h hv
  exact ⟨b, c, rfl, h2, h3, h4, hb⟩
theorem cells_alloc {w : World} {A : Addr} {xs : List Value} (o : Obj) (h : ∀ j u, xs[j]? = some u → w.cell? (A.add j) = some u) : ∀ j u, xs[j]? = some u → (w.alloc o).cell? (A.add j) = some u := by
  intro j u hu
  have h1 := h j u hu
  have h2 := block_lt_of_cell h1
  exact (World.cell?_of_block (w := w) (Below.heap_alloc w o _ h2)).trans h1
theorem Try.clone (A : Addr) (n m : Nat) (w : World) (hn : n ≤ 65536) (l : List Str) (hl : l.length = n) (hc : ∀ j u, (l.map encStr)[j]? = some u → w.cell? (A.add j) = some u) :
    Calls Try.prog 28 #[.slice (some A) n m] w (Cloned w n l) := by
  obtain ⟨i0, hi, hz0, hz1, hz2⟩ := info_parts Try.info9
  have hnil := Lib.run_eql_slice_nil w 22 9 (some A) n m 0 0 Try.underlying22
  have hown := World.ownsRow_made (base := w.heap.size) (e := 9) (size := 1) w #[] 0 (Nat.le_refl _) (Nat.zero_le _) rfl
  have hc' := cells_alloc (.cells #[] 9) hc
  have HL := Lib.hid hl
  have h63 : 0 + n ≤ maxLen := by unfold maxLen; omega
  clear hl hc
  go_enter Try.func28, Try.ntmps28
  go_wp2_with (at_builtin; refine wpList_append_own _ rfl (.tmp 5) (.tmp 6) 22 rfl w.heap.size 9 i0 (.string ByteArray.empty) 1 16 Try.underlying22 hi hz0 hz1 hz2 rfl (by decide) _ _ _ rfl hown A n m (l.map encStr) rfl ?c1 hc' (str_one l) h63 ?c2 ?c3 ?c4)
  case c1 => simp [HL.out]
  case c2 => omega
  case c3 => simp
  case c4 =>
    intro v w1 hown1 hg hne
    have hv : v ≠ .slice none 0 0 := by simpa using hne
    have hb : Below w.heap.size w w1 := ((Below.refl _ w).alloc (Nat.le_refl _) _).grown hg (by simp) (fun k hk => by simp [Value.ownBlock] at hk; omega)
    try simp only [Nat.zero_add, List.nil_append] at hown1
    have H := Lib.hid (cloned_of hown1 hv hb)
    clear hown1 hg hne hb hown hc' hnil
    go_wp2
    go_ret
    exact H.out
end Go.Proofs
end

section
namespace Go.Proofs
open Go.RowKit NT
set_option maxRecDepth 100000
theorem wp_scope_once {P : Program} {c R : Code} {a : Act} {w : World} {Q : Exit → Act → World → Prop} (l : Nat) (J : Act → World → Prop) (μ : Act → World → Nat) (hf : findLabel c l = some (Code.skip.seq R))
    (first : (∀ a w, J a w → R.wp P (Exit.jump l J Q) a w) → c.wp P (Exit.jump l J Q) a w) (pass : ∀ a w, J a w → R.wp P (Exit.jump l (fun a' w' => J a' w' ∧ μ a' w' < μ a w) Q) a w) : (Code.scope c).wp P Q a w := by
  refine wp_scope_jumps l J μ hf (first fun a' w' h => ?_) (fun a w h => wp_seq (wp_skip (pass a w h)))
  refine Code.wp_mono ?_ (pass a' w' h)
  intro e a2 w2 h2
  cases e <;> first | exact h2 | exact ⟨h2.1, h2.2.1⟩
theorem enc_nil : encStr [] = .string ByteArray.empty := rfl
theorem oper_mk {o : Oper} {a : Act} {w : World} {K : Act → World → Prop} {Q : Exit → Act → World → Prop} (l c : Operand) (hop : o.op = Op.makeSlice 22 l c) (n : Nat) (hn : n ≤ 65536) (hl : a.eval l = .int .i64 n) (hc : a.eval c = .int .i64 n)
    (h : ∀ w', SY w' w.heap.size (List.replicate n []) n → Below w.heap.size w w' → w.heap.size < w'.heap.size → K (a.put o.dst (.slice (some ⟨w.heap.size, 0, none⟩) n n)) w') : Oper.wp Try.prog o a w K Q := by
  obtain ⟨i0, hi, hz0, hz1, hz2⟩ := info_parts Try.info9
  have hr := run_make (P := Try.prog) w 22 9 i0 (.string ByteArray.empty) Try.underlying22 hi hz0 .i64 .i64 n n (by omega) (by omega) (by rw [hz2]; omega) (by omega)
  have hmc : madeCells (Value.string ByteArray.empty).cells ((n : Int).toNat * i0.size) = ((List.replicate n ([] : Str)).map encStr ++ []).toArray := by
    rw [hz1, Int.toNat_natCast, Nat.mul_one]
    apply Array.toList_inj.1
    show (madeCells #[Value.string ByteArray.empty] n).toList = _
    rw [toList_madeCells_one]
    simp [enc_nil]
  rw [hmc] at hr
  simp only [Int.toNat_natCast] at hr
  unfold Oper.wp
  simp [execOp, hop, hl, hc, Result.andThen]
  simp only [List.append_nil, List.map_replicate] at hr
  rw [hr]
  refine h _ ?_ ((Below.refl _ w).alloc (Nat.le_refl _) _) (by simp)
  exact ⟨[], by rw [heap_alloc_new]; simp, by simp, by unfold maxLen; omega⟩
def Srt (w : World) (n : Nat) (l : List Str) (e : Ending) (w' : World) : Prop := ∃ b c c' ys, e = .returned (.slice (some ⟨b, 0, none⟩) n c') ∧ w.heap.size ≤ b ∧ n ≤ c' ∧ c' ≤ c ∧ SY w' b ys c ∧ ys.length = n ∧ Up ys ∧ ys.Perm l ∧ Below w.heap.size w w'
structure SRT (w wr : World) (n : Nat) (l : List Str) (W b1 c1 b2 c2 : Nat) (F T : List Str) : Prop where
  s1 : SY wr b1 F c1
  s2 : SY wr b2 T c2
  ne : b1 ≠ b2
  g1 : w.heap.size ≤ b1
  g2 : w.heap.size ≤ b2
  n1 : n ≤ c1
  n2 : n ≤ c2
  fl : F.length = n
  tl : T.length = n
  ups : ∀ m, Ups W m F
  perm : F.Perm l
  bel : Below w.heap.size w wr
structure LP (w wr : World) (n W j b1 c1 b2 c2 : Nat) (F T : List Str) : Prop where
  s1 : SY wr b1 F c1
  s2 : SY wr b2 T c2
  tl : T.length = n
  ups : Ups (2 * W) j T
  perm : (T.take (j * (2 * W))).Perm (F.take (j * (2 * W)))
  bel : Below w.heap.size w wr
set_option maxHeartbeats 1000000 in
theorem Try.sorted (A : Addr) (n m : Nat) (w : World) (h0 : 0 < n) (hn : n ≤ 65536) (l : List Str) (hl : l.length = n) (hc : ∀ j u, (l.map encStr)[j]? = some u → w.cell? (A.add j) = some u) :
    Calls Try.prog 16 #[.slice (some A) n m] w (Srt w n l) := by
  go_enter Try.func16, Try.ntmps16
  go_wp2_with fail
  refine wp_scope_once 0 (fun a' wr => ∃ (W b1 c1 c1' b2 c2 c2' : Nat), Hid (1 ≤ W ∧ W ≤ 131072 ∧ n ≤ c1' ∧ c1' ≤ c1 ∧ n ≤ c2' ∧ c2' ≤ c2 ∧ ∃ F T, SRT w wr n l W b1 c1 b2 c2 F T) ∧ ∃ u1 u6 u7 u8 u9 u10 u11 u12 u13 u14 u15 u16 u17 u18 u19 u20 u21 u22 u23 u24 u25 u26 u27 u28 u29 u30 u31 u32 u33 u34 u35 u36 u37 u38 u39 u40 u41 u42 u43 u44 u45 u46 u47 u48 u49 u50 u51 u52 u53 u54 u55 u56 : Value, a' = { tmps := #[.slice (some A) n m, u1, .slice none 0 0, .slice (some ⟨b1, 0, none⟩) n c1', .slice (some ⟨b2, 0, none⟩) n c2', .int .i64 W, u6, u7, u8, u9, u10, u11, u12, u13, u14, u15, u16, u17, u18, u19, u20, u21, u22, u23, u24, u25, u26, u27, u28, u29, u30, u31, u32, u33, u34, u35, u36, u37, u38, u39, u40, u41, u42, u43, u44, u45, u46, u47, u48, u49, u50, u51, u52, u53, u54, u55, u56], defers := [] }) (fun a' _ => n - (intO (a'.tmps.getD 5 undef)).toNat) rfl ?_ ?_
  · intro hL
    go_upto_region 1 with fail
    refine Code.wp_mono ?_ (?_ : Code.wp Try.prog _ (fun e a2 w2 => e = .normal ∧ ∃ (b1 c1 b2 : Nat) (u9 u10 u11 u12 u13 : Value), a2 = ⟨#[.slice (some A) n m, undef, .slice none 0 0, .slice (some ⟨b1, 0, none⟩) n c1, .slice (some ⟨b2, 0, none⟩) n n, undef, undef, undef, undef, u9, u10, u11, u12, u13, undef, undef, undef, undef, undef, undef, undef, undef, undef, undef, undef, undef, undef, undef, undef, undef, undef, undef, undef, undef, undef, undef, undef, undef, undef, undef, undef, undef, undef, undef, undef, undef, undef, undef, undef, undef, undef, undef, undef, undef, undef, undef, undef], []⟩ ∧ Hid (∃ T, SRT w w2 n l 1 b1 c1 b2 n l T)) _ _)
    rotate_left
    · skip
      refine wp_region_noPanic ?_
      refine wp_region_held_drew (S := (fun _ => True)) (by kernel_rfl) trivial (fun hHeld => ?_)
      refine wpAnyH_take (i := 0) (oi := { dst := some 9, op := Op.move (Operand.tmp 0), type := 22, pos := "dict.go:27", after := #[], guard := none }) (v := ?_) rfl (by kernel_rfl) (by kernel_rfl) (by kernel_rfl) (fun _ _ _ h => h) (Or.inl ⟨by rfl, ?_⟩) trivial ?_
      rotate_left
      · (intro w hSw; go_simp; try with_reducible rfl)
      try simp only [Act.put, List.setIfInBounds_toArray, List.set_cons_zero, List.set_cons_succ]
      refine wpAnyH_take (i := 2) (oi := { dst := some 11, op := Op.move (Operand.tmp 0), type := 22, pos := "dict.go:27", after := #[], guard := none }) (v := ?_) rfl (by kernel_rfl) (by kernel_rfl) (by kernel_rfl) (fun _ _ _ h => h) (Or.inl ⟨by rfl, ?_⟩) trivial ?_
      rotate_left
      · (intro w hSw; go_simp; try with_reducible rfl)
      try simp only [Act.put, List.setIfInBounds_toArray, List.set_cons_zero, List.set_cons_succ]
      refine wpAnyH_take (i := 3) (oi := { dst := some 12, op := Op.call { callee := Callee.builtin Builtin.len, args := #[Operand.tmp 11], argTypes := #[22] }, type := 3, pos := "dict.go:27", after := #[{ on := 2, ground := Ground.data }], guard := none }) (v := ?_) rfl (by kernel_rfl) (by kernel_rfl) (by kernel_rfl) (fun _ _ _ h => h) (Or.inl ⟨by rfl, ?_⟩) trivial ?_
      rotate_left
      · (intro w hSw; go_simp; try with_reducible rfl)
      try simp only [Act.put, List.setIfInBounds_toArray, List.set_cons_zero, List.set_cons_succ]
      refine wpAnyH_ready (rs := [1, 4]) (by kernel_rfl) (by simp) ?_
      refine AllReadyH.cons (o := { dst := some 10, op := Op.call { callee := Callee.value (Operand.func 28), args := #[Operand.tmp 9], argTypes := #[22] }, type := 22, pos := "dict.go:27", after := #[{ on := 0, ground := Ground.data }], guard := none }) rfl (fun K hK => ?_) ?_
      · skip
        go_simp
        refine (Try.clone A n m w.drew hn l hl (fun j u h => hc j u h)).mono ?_
        rintro x2 w2 ⟨b1, c1, rfl, hb1, hc1, hs1, hbl1⟩
        refine hK.out _ _ trivial (fun hHeld => ?_)
        clear hK K
        try simp only [Act.put, List.setIfInBounds_toArray, List.set_cons_zero, List.set_cons_succ]
        refine wpAnyH_take (i := 5) (oi := { dst := some 3, op := Op.assign (Operand.tmp 10), type := 22, pos := "dict.go:27", after := #[{ on := 1, ground := Ground.data }, { on := 1, ground := Ground.chain }, { on := 0, ground := Ground.phase }, { on := 1, ground := Ground.phase }, { on := 2, ground := Ground.textOnly Departure.lateStores }, { on := 3, ground := Ground.textOnly Departure.lateStoresUnsure }, { on := 4, ground := Ground.textOnly Departure.lateStoresUnsure }], guard := none }) (v := ?_) rfl (by kernel_rfl) (by kernel_rfl) (by kernel_rfl) (fun _ _ _ h => h) (Or.inl ⟨by rfl, ?_⟩) trivial ?_
        rotate_left
        · (intro w hSw; go_simp; try with_reducible rfl)
        try simp only [Act.put, List.setIfInBounds_toArray, List.set_cons_zero, List.set_cons_succ]
        refine wpAnyH_ready (rs := [4]) (by kernel_rfl) (by simp) ?_
        refine AllReadyH.cons (o := { dst := some 13, op := Op.makeSlice 22 (Operand.tmp 12) (Operand.tmp 12), type := 22, pos := "dict.go:27", after := #[{ on := 3, ground := Ground.data }, { on := 3, ground := Ground.data }], guard := none }) rfl (fun K hK => ?_) ?_
        · skip
          refine oper_mk _ _ rfl n hn rfl rfl ?_
          intro w3 hs2 hbl2 hlt2
          refine hK.out _ _ trivial (fun hHeld => ?_)
          clear hK K
          try simp only [Act.put, List.setIfInBounds_toArray, List.set_cons_zero, List.set_cons_succ]
          refine wpAnyH_take (i := 6) (oi := { dst := some 4, op := Op.assign (Operand.tmp 13), type := 22, pos := "dict.go:27", after := #[{ on := 4, ground := Ground.data }, { on := 5, ground := Ground.chain }, { on := 0, ground := Ground.phase }, { on := 1, ground := Ground.phase }, { on := 2, ground := Ground.phase }, { on := 3, ground := Ground.phase }, { on := 4, ground := Ground.phase }, { on := 5, ground := Ground.phase }], guard := none }) (v := ?_) rfl (by kernel_rfl) (by kernel_rfl) (by kernel_rfl) (fun _ _ _ h => h) (Or.inl ⟨by rfl, ?_⟩) trivial ?_
          rotate_left
          · (intro w hSw; go_simp; try with_reducible rfl)
          try simp only [Act.put, List.setIfInBounds_toArray, List.set_cons_zero, List.set_cons_succ]
          refine wpAnyH_done (by kernel_rfl) ?_ _
          refine NoPanic.normal ?_
          refine ⟨rfl, _, _, _, _, _, _, _, _, rfl, Lib.hid ⟨List.replicate n [], ?_⟩⟩
          have hx1 := hs1.lt
          exact ⟨hs1.congr (hbl2.block _ hx1), hs2, Nat.ne_of_lt hx1, hb1, hbl1.size, hc1, Nat.le_refl _, hl, List.length_replicate, fun m => ups_one m l, List.Perm.refl _, ((Below.refl _ w).drew).trans (hbl1.trans (hbl2.mono hbl1.size))⟩
        exact AllReadyH.nil
      refine AllReadyH.cons (o := { dst := some 13, op := Op.makeSlice 22 (Operand.tmp 12) (Operand.tmp 12), type := 22, pos := "dict.go:27", after := #[{ on := 3, ground := Ground.data }, { on := 3, ground := Ground.data }], guard := none }) rfl (fun K hK => ?_) ?_
      · skip
        refine oper_mk _ _ rfl n hn rfl rfl ?_
        intro w3 hs2 hbl2 hlt2
        refine hK.out _ _ trivial (fun hHeld => ?_)
        clear hK K
        try simp only [Act.put, List.setIfInBounds_toArray, List.set_cons_zero, List.set_cons_succ]
        refine wpAnyH_ready (rs := [1]) (by kernel_rfl) (by simp) ?_
        refine AllReadyH.cons (o := { dst := some 10, op := Op.call { callee := Callee.value (Operand.func 28), args := #[Operand.tmp 9], argTypes := #[22] }, type := 22, pos := "dict.go:27", after := #[{ on := 0, ground := Ground.data }], guard := none }) rfl (fun K hK => ?_) ?_
        · skip
          go_simp
          refine (Try.clone A n m _ hn l hl (fun j u h => (World.cell?_of_block (hbl2.block _ (block_lt_of_cell (hc j u h)))).trans (hc j u h))).mono ?_
          rintro x2 w2 ⟨b1, c1, rfl, hb1, hc1, hs1, hbl1⟩
          refine hK.out _ _ trivial (fun hHeld => ?_)
          clear hK K
          try simp only [Act.put, List.setIfInBounds_toArray, List.set_cons_zero, List.set_cons_succ]
          refine wpAnyH_take (i := 5) (oi := { dst := some 3, op := Op.assign (Operand.tmp 10), type := 22, pos := "dict.go:27", after := #[{ on := 1, ground := Ground.data }, { on := 1, ground := Ground.chain }, { on := 0, ground := Ground.phase }, { on := 1, ground := Ground.phase }, { on := 2, ground := Ground.textOnly Departure.lateStores }, { on := 3, ground := Ground.textOnly Departure.lateStoresUnsure }, { on := 4, ground := Ground.textOnly Departure.lateStoresUnsure }], guard := none }) (v := ?_) rfl (by kernel_rfl) (by kernel_rfl) (by kernel_rfl) (fun _ _ _ h => h) (Or.inl ⟨by rfl, ?_⟩) trivial ?_
          rotate_left
          · (intro w hSw; go_simp; try with_reducible rfl)
          try simp only [Act.put, List.setIfInBounds_toArray, List.set_cons_zero, List.set_cons_succ]
          refine wpAnyH_take (i := 6) (oi := { dst := some 4, op := Op.assign (Operand.tmp 13), type := 22, pos := "dict.go:27", after := #[{ on := 4, ground := Ground.data }, { on := 5, ground := Ground.chain }, { on := 0, ground := Ground.phase }, { on := 1, ground := Ground.phase }, { on := 2, ground := Ground.phase }, { on := 3, ground := Ground.phase }, { on := 4, ground := Ground.phase }, { on := 5, ground := Ground.phase }], guard := none }) (v := ?_) rfl (by kernel_rfl) (by kernel_rfl) (by kernel_rfl) (fun _ _ _ h => h) (Or.inl ⟨by rfl, ?_⟩) trivial ?_
          rotate_left
          · (intro w hSw; go_simp; try with_reducible rfl)
          try simp only [Act.put, List.setIfInBounds_toArray, List.set_cons_zero, List.set_cons_succ]
          refine wpAnyH_done (by kernel_rfl) ?_ _
          refine NoPanic.normal ?_
          refine ⟨rfl, _, _, _, _, _, _, _, _, rfl, Lib.hid ⟨List.replicate n [], ?_⟩⟩
          have hx2 := hs2.lt
          have hx3 : w.heap.size < b1 := Nat.lt_of_lt_of_le hlt2 hb1
          exact ⟨hs1, hs2.congr (hbl1.block _ hx2), Nat.ne_of_gt hx3, Nat.le_of_lt hx3, Nat.le_refl _, hc1, Nat.le_refl _, hl, List.length_replicate, fun m => ups_one m l, List.Perm.refl _, ((Below.refl _ w).drew).trans (hbl2.trans (hbl1.mono hbl2.size))⟩
        exact AllReadyH.nil
      exact AllReadyH.nil
    rintro e a2 w2 ⟨rfl, b1, c1, b2, u9, u10, u11, u12, u13, rfl, HS⟩
    obtain ⟨T, hT⟩ := HS.out
    have HX : Hid (1 ≤ 1 ∧ 1 ≤ 131072 ∧ n ≤ c1 ∧ c1 ≤ c1 ∧ n ≤ n ∧ n ≤ n ∧ ∃ F T, SRT w w2 n l 1 b1 c1 b2 n F T) := Lib.hid ⟨by omega, by omega, hT.n1, Nat.le_refl _, Nat.le_refl _, Nat.le_refl _, l, T, hT⟩
    clear hT HS
    go_wp2_with (refine wp_label ?_; rename_i Q0 K0 hK; refine hK _ _ (hL _ _ ?_); exact ⟨1, b1, c1, c1, b2, n, n, HX, _, _, _, _, _, _, _, _, _, _, _, _, _, _, _, _, _, _, _, _, _, _, _, _, _, _, _, _, _, _, _, _, _, _, _, _, _, _, _, _, _, _, _, _, _, _, _, _, _, _, _, _, rfl⟩)
  · rintro a' wr ⟨W, b1, c1, c1', b2, c2, c2', HS, u1, u6, u7, u8, u9, u10, u11, u12, u13, u14, u15, u16, u17, u18, u19, u20, u21, u22, u23, u24, u25, u26, u27, u28, u29, u30, u31, u32, u33, u34, u35, u36, u37, u38, u39, u40, u41, u42, u43, u44, u45, u46, u47, u48, u49, u50, u51, u52, u53, u54, u55, u56, rfl⟩
    obtain ⟨hW1, hW2, hn1, hn2, hn3, hn4, F, T, hS⟩ := HS.out
    by_cases hWn : n ≤ W
    · have d1 : decide ((n : Int) ≤ W) = true := decide_eq_true (by omega)
      have d1' : decide (n ≤ W) = true := decide_eq_true hWn
      have HE : Hid (Srt w n l (.returned (.slice (some ⟨b1, 0, none⟩) n c1')) wr) := Lib.hid ⟨b1, c1, c1', F, rfl, hS.g1, hn1, hn2, hS.s1, hS.fl, ups_all hS.ups (by rw [hS.fl]; exact hWn), hS.perm, hS.bel⟩
      clear hS hWn hW1 hW2 hn1 hn2 hn3 hn4 HS
      go_wp2_with fail
      simp only [Exit.jump]
      go_returns
      exact HE.out
    · have d1 : decide ((n : Int) ≤ W) = false := decide_eq_false (by omega)
      have d1' : decide (n ≤ W) = false := decide_eq_false hWn
      have HSS := Lib.hid hS
      clear hS HS
      go_wp2_with fail
      go_loopw [6] (fun t wr' => ∃ (j : Nat) (T' : List Str), t = .int .i64 ((j * (2 * W) : Nat) : Int) ∧ j * (2 * W) < n + 2 * W ∧ Hid (LP w wr' n W j b1 c1 b2 c2 F T')) (fun t _ => n + 2 * W - (intO t).toNat)
      case atStart => exact ⟨0, T, by simp, by omega, Lib.hid ⟨HSS.out.s1, HSS.out.s2, HSS.out.tl, fun j hj => absurd hj (Nat.not_lt_zero _), by simp, HSS.out.bel⟩⟩
      case round =>
        obtain ⟨j, T', rfl, hj, HP⟩ := hrel
        obtain ⟨lo, hlo⟩ : ∃ lo, j * (2 * W) = lo := ⟨_, rfl⟩
        rw [hlo] at hj
        rw [hlo]
        by_cases hlt : lo < n
        · have d2 : decide ((lo : Int) < n) = true := decide_eq_true (by omega)
          have d2' : decide (lo < n) = true := decide_eq_true hlt
          have s1 : IntKind.i64.wrap ((lo : Int) + W) = ((lo + W : Nat) : Int) := by rw [wrapi (by omega) (by omega)]; omega
          have s2 : IntKind.i64.wrap (2 * (W : Int)) = ((2 * W : Nat) : Int) := by rw [wrapi (by omega) (by omega)]; omega
          have s3 : IntKind.i64.wrap ((lo : Int) + ((2 * W : Nat) : Int)) = ((lo + 2 * W : Nat) : Int) := by rw [wrapi (by omega) (by omega)]; omega
          obtain ⟨mi, hmi⟩ : ∃ mi : Nat, min (lo + W) n = mi := ⟨_, rfl⟩
          obtain ⟨hi, hhi⟩ : ∃ hi : Nat, min (lo + 2 * W) n = hi := ⟨_, rfl⟩
          have q1 : min ((lo : Int) + W) n = (mi : Int) := by omega
          have q2 : min ((lo : Int) + 2 * W) n = (hi : Int) := by omega
          have b1' : (lo : Int) ≤ hi := by omega
          have b2' : lo ≤ hi := by omega
          have b3 : (lo : Int) ≤ mi := by omega
          have b4 : lo ≤ mi := by omega
          have b5 : (mi : Int) ≤ hi := by omega
          have b6 : mi ≤ hi := by omega
          have b7 : (hi : Int) ≤ c1' := by omega
          have b8 : hi ≤ c1' := by omega
          have b9 : (hi : Int) ≤ c2' := by omega
          have b10 : hi ≤ c2' := by omega
          have b11 : (mi : Int) ≤ c1' := by omega
          have b12 : mi ≤ c1' := by omega
          have HH := Lib.hid (show mi = min (lo + W) n ∧ hi = min (lo + 2 * W) n ∧ lo < n ∧ lo < n + 2 * W ∧ j * (2 * W) = lo from ⟨hmi.symm, hhi.symm, hlt, hj, hlo⟩)
          clear hmi hhi hlt hj hlo
          have HC2 : Hid (¬ c2' = lo) := Lib.hid (by have := HH.out; omega)
          have HC1 : Hid (¬ c1' = lo) := Lib.hid (by have := HH.out; omega)
          obtain ⟨ob, hob⟩ : ∃ ob, (if c1' = mi then (some ⟨b1, 0, none⟩ : Option Addr) else some ⟨b1, mi, none⟩) = some ⟨b1, ob, none⟩ ∧ (mi < hi → ob = mi) := by
            by_cases h : c1' = mi
            · exact ⟨0, by rw [if_pos h], fun q => by omega⟩
            · exact ⟨mi, by rw [if_neg h], fun _ => rfl⟩
          have HOB := Lib.hid hob
          clear hob
          go_upto_region 9 with fail
          refine wp_region_noPanic ?_
          refine wp_region_held_drew (S := (fun _ => True)) (by kernel_rfl) ?_ (fun hHeld => ?_)
          · trivial
          refine wpAnyH_take (i := 0) (oi := { dst := some 40, op := Op.move (Operand.tmp 4), type := 22, pos := "dict.go:35", after := #[], guard := none }) (v := ?_) rfl (by kernel_rfl) (by kernel_rfl) (by kernel_rfl) (fun _ _ _ h => h) (Or.inl ⟨by rfl, ?_⟩) trivial ?_
          rotate_left
          · (intro w hSw; (try dsimp only at hSw); go_simp; try with_reducible rfl)
          try simp only [Act.put, List.setIfInBounds_toArray, List.set_cons_zero, List.set_cons_succ]
          refine wpAnyH_take (i := 1) (oi := { dst := some 41, op := Op.move (Operand.tmp 6), type := 3, pos := "dict.go:35", after := #[], guard := none }) (v := ?_) rfl (by kernel_rfl) (by kernel_rfl) (by kernel_rfl) (fun _ _ _ h => h) (Or.inl ⟨by rfl, ?_⟩) trivial ?_
          rotate_left
          · (intro w hSw; (try dsimp only at hSw); go_simp; try with_reducible rfl)
          try simp only [Act.put, List.setIfInBounds_toArray, List.set_cons_zero, List.set_cons_succ]
          refine wpAnyH_take (i := 2) (oi := { dst := some 42, op := Op.move (Operand.tmp 8), type := 3, pos := "dict.go:35", after := #[], guard := none }) (v := ?_) rfl (by kernel_rfl) (by kernel_rfl) (by kernel_rfl) (fun _ _ _ h => h) (Or.inl ⟨by rfl, ?_⟩) trivial ?_
          rotate_left
          · (intro w hSw; (try dsimp only at hSw); go_simp; try with_reducible rfl)
          try simp only [Act.put, List.setIfInBounds_toArray, List.set_cons_zero, List.set_cons_succ]
          refine wpAnyH_take (i := 3) (oi := { dst := some 43, op := Op.slice 22 (Operand.tmp 40) (some (Operand.tmp 41)) (some (Operand.tmp 42)) none, type := 22, pos := "dict.go:35", after := #[{ on := 0, ground := Ground.data }, { on := 1, ground := Ground.data }, { on := 2, ground := Ground.data }], guard := none }) (v := ?_) rfl (by kernel_rfl) (by kernel_rfl) (by kernel_rfl) (fun _ _ _ h => h) (Or.inl ⟨by rfl, ?_⟩) trivial ?_
          rotate_left
          · (intro w hSw; (try dsimp only at hSw); go_simp; try with_reducible rfl)
          try simp only [Act.put, List.setIfInBounds_toArray, List.set_cons_zero, List.set_cons_succ]
          refine wpAnyH_take (i := 4) (oi := { dst := some 44, op := Op.move (Operand.tmp 3), type := 22, pos := "dict.go:35", after := #[], guard := none }) (v := ?_) rfl (by kernel_rfl) (by kernel_rfl) (by kernel_rfl) (fun _ _ _ h => h) (Or.inl ⟨by rfl, ?_⟩) trivial ?_
          rotate_left
          · (intro w hSw; (try dsimp only at hSw); go_simp; try with_reducible rfl)
          try simp only [Act.put, List.setIfInBounds_toArray, List.set_cons_zero, List.set_cons_succ]
          refine wpAnyH_take (i := 5) (oi := { dst := some 45, op := Op.move (Operand.tmp 6), type := 3, pos := "dict.go:35", after := #[], guard := none }) (v := ?_) rfl (by kernel_rfl) (by kernel_rfl) (by kernel_rfl) (fun _ _ _ h => h) (Or.inl ⟨by rfl, ?_⟩) trivial ?_
          rotate_left
          · (intro w hSw; (try dsimp only at hSw); go_simp; try with_reducible rfl)
          try simp only [Act.put, List.setIfInBounds_toArray, List.set_cons_zero, List.set_cons_succ]
          refine wpAnyH_take (i := 6) (oi := { dst := some 46, op := Op.move (Operand.tmp 7), type := 3, pos := "dict.go:35", after := #[], guard := none }) (v := ?_) rfl (by kernel_rfl) (by kernel_rfl) (by kernel_rfl) (fun _ _ _ h => h) (Or.inl ⟨by rfl, ?_⟩) trivial ?_
          rotate_left
          · (intro w hSw; (try dsimp only at hSw); go_simp; try with_reducible rfl)
          try simp only [Act.put, List.setIfInBounds_toArray, List.set_cons_zero, List.set_cons_succ]
          refine wpAnyH_take (i := 7) (oi := { dst := some 47, op := Op.slice 22 (Operand.tmp 44) (some (Operand.tmp 45)) (some (Operand.tmp 46)) none, type := 22, pos := "dict.go:35", after := #[{ on := 4, ground := Ground.data }, { on := 5, ground := Ground.data }, { on := 6, ground := Ground.data }], guard := none }) (v := ?_) rfl (by kernel_rfl) (by kernel_rfl) (by kernel_rfl) (fun _ _ _ h => h) (Or.inl ⟨by rfl, ?_⟩) trivial ?_
          rotate_left
          · (intro w hSw; (try dsimp only at hSw); go_simp; try with_reducible rfl)
          try simp only [Act.put, List.setIfInBounds_toArray, List.set_cons_zero, List.set_cons_succ]
          refine wpAnyH_take (i := 8) (oi := { dst := some 48, op := Op.move (Operand.tmp 3), type := 22, pos := "dict.go:35", after := #[], guard := none }) (v := ?_) rfl (by kernel_rfl) (by kernel_rfl) (by kernel_rfl) (fun _ _ _ h => h) (Or.inl ⟨by rfl, ?_⟩) trivial ?_
          rotate_left
          · (intro w hSw; (try dsimp only at hSw); go_simp; try with_reducible rfl)
          try simp only [Act.put, List.setIfInBounds_toArray, List.set_cons_zero, List.set_cons_succ]
          refine wpAnyH_take (i := 9) (oi := { dst := some 49, op := Op.move (Operand.tmp 7), type := 3, pos := "dict.go:35", after := #[], guard := none }) (v := ?_) rfl (by kernel_rfl) (by kernel_rfl) (by kernel_rfl) (fun _ _ _ h => h) (Or.inl ⟨by rfl, ?_⟩) trivial ?_
          rotate_left
          · (intro w hSw; (try dsimp only at hSw); go_simp; try with_reducible rfl)
          try simp only [Act.put, List.setIfInBounds_toArray, List.set_cons_zero, List.set_cons_succ]
          refine wpAnyH_take (i := 10) (oi := { dst := some 50, op := Op.move (Operand.tmp 8), type := 3, pos := "dict.go:35", after := #[], guard := none }) (v := ?_) rfl (by kernel_rfl) (by kernel_rfl) (by kernel_rfl) (fun _ _ _ h => h) (Or.inl ⟨by rfl, ?_⟩) trivial ?_
          rotate_left
          · (intro w hSw; (try dsimp only at hSw); go_simp; try with_reducible rfl)
          try simp only [Act.put, List.setIfInBounds_toArray, List.set_cons_zero, List.set_cons_succ]
          refine wpAnyH_take (i := 11) (oi := { dst := some 51, op := Op.slice 22 (Operand.tmp 48) (some (Operand.tmp 49)) (some (Operand.tmp 50)) none, type := 22, pos := "dict.go:35", after := #[{ on := 8, ground := Ground.data }, { on := 9, ground := Ground.data }, { on := 10, ground := Ground.data }], guard := none }) (v := ?_) rfl (by kernel_rfl) (by kernel_rfl) (by kernel_rfl) (fun _ _ _ h => h) (Or.inl ⟨by rfl, ?_⟩) trivial ?_
          rotate_left
          · (intro w hSw; (try dsimp only at hSw); go_simp; try with_reducible rfl)
          try simp only [Act.put, List.setIfInBounds_toArray, List.set_cons_zero, List.set_cons_succ]
          refine wpAnyH_ready (rs := [12]) (by kernel_rfl) (by simp) ?_
          refine AllReadyH.cons (o := { dst := some 52, op := Op.call { callee := Callee.value (Operand.func 29), args := #[Operand.tmp 43, Operand.tmp 47, Operand.tmp 51], argTypes := #[22, 22, 22] }, type := 0, pos := "dict.go:35", after := #[{ on := 3, ground := Ground.data }, { on := 7, ground := Ground.data }, { on := 11, ground := Ground.data }], guard := none }) rfl (fun K hK => ?_) AllReadyH.nil
          go_simp
          rw [if_neg HC2.out, if_neg HC1.out, HOB.out.1]
          obtain ⟨g1, g2, g3, g4, g5⟩ := HH.out
          obtain ⟨A', hA'⟩ : ∃ A', (F.drop (j * (2 * W))).take W = A' := ⟨_, rfl⟩
          obtain ⟨B', hB'⟩ : ∃ B', (F.drop (j * (2 * W) + W)).take W = B' := ⟨_, rfl⟩
          have hAl : A'.length = mi - lo := by rw [← hA', List.length_take, List.length_drop, HSS.out.fl, g5]; omega
          have hBl : B'.length = hi - mi := by rw [← hB', List.length_take, List.length_drop, HSS.out.fl, g5]; omega
          with_reducible refine (Try.merge wr.drew b2 lo c2 b1 lo ob c1 (hi - lo) (mi - lo) (hi - mi) (c2' - lo) (c1' - lo) (c1' - mi) T' F A' B' (HP.out.s2.congr rfl) (HP.out.s1.congr rfl) HSS.out.ne hAl hBl (by omega) (by rw [HP.out.tl]; omega) ?_ ?_ (by omega)).mono ?_
          · intro i x hx
            rw [← hA', List.getElem?_take] at hx
            split at hx
            · rw [List.getElem?_drop, g5] at hx; exact hx
            · cases hx
          · intro i x hx
            have hlt := (List.getElem?_eq_some_iff.1 hx).1
            rw [hBl] at hlt
            rw [HOB.out.2 (by omega)]
            rw [← hB', List.getElem?_take] at hx
            split at hx
            · rw [List.getElem?_drop, g5] at hx
              rw [show mi + i = lo + W + i by omega]; exact hx
            · cases hx
          rintro x2 w2 ⟨rfl, hs2, ho2⟩
          obtain ⟨p1, p2, p3⟩ := ups_step HSS.out.fl HP.out.tl HSS.out.ups HP.out.ups (by rw [g5]; exact g3) HP.out.perm A' B' hA'.symm hB'.symm
          have hml := mrg_len A' B'
          have ePart : part T' lo (mrg A' B') (hi - lo) = T'.take (j * (2 * W)) ++ mrg A' B' ++ T'.drop (j * (2 * W) + A'.length + B'.length) := by
            unfold part
            rw [List.take_of_length_le (l := mrg A' B') (by omega), hAl, hBl, g5, show lo + (mi - lo) + (hi - mi) = lo + (hi - lo) by omega]
          rw [← ePart] at p1 p2 p3
          have HLP : Hid (LP w w2 n W (j + 1) b1 c1 b2 c2 F (part T' lo (mrg A' B') (hi - lo))) := by
            refine Lib.hid ⟨(HP.out.s1).congr (ho2.block _ HSS.out.ne), hs2, p1, p2, p3, ?_⟩
            refine HP.out.bel.trans ⟨ho2.os, ho2.tape, ho2.output, Nat.le_of_eq ho2.size.symm, fun b hb => ho2.block b ?_⟩
            have := HSS.out.g2
            omega
          have HQ : Hid ((j + 1) * (2 * W) = lo + 2 * W) := Lib.hid (by rw [Nat.add_mul, Nat.one_mul, g5])
          clear hA' hB' p1 p2 p3 ePart hml hs2 ho2 hAl hBl g1 g2 g3 g4 g5
          refine hK.out _ _ ?_ (fun hHeld => ?_)
          · trivial
          clear hK K
          try simp only [Act.put, List.setIfInBounds_toArray, List.set_cons_zero, List.set_cons_succ]
          refine wpAnyH_done (by kernel_rfl) ?_ _
          refine NoPanic.normal ?_
          go_wp2_with fail
          have hq := HQ.out
          have hq' : (((j + 1) * (2 * W) : Nat) : Int) = (lo : Int) + 2 * W := by rw [hq]; omega
          obtain ⟨g1, g2, g3, g4, g5⟩ := HH.out
          exact ⟨⟨j + 1, _, by rw [hq'], by rw [hq]; omega, HLP⟩, by simp only [intO]; omega⟩
        · have d2 : decide ((lo : Int) < n) = false := decide_eq_false (by omega)
          have d2' : decide (lo < n) = false := decide_eq_false hlt
          have hE := ups_end HSS.out.fl HP.out.tl HP.out.ups (by rw [hlo]; omega) HP.out.perm
          have HE : Hid (1 ≤ 2 * W ∧ 2 * W ≤ 131072 ∧ n ≤ c2' ∧ c2' ≤ c2 ∧ n ≤ c1' ∧ c1' ≤ c1 ∧ ∃ F T, SRT w wr n l (2 * W) b2 c2 b1 c1 F T) := Lib.hid ⟨by omega, by omega, hn3, hn4, hn1, hn2, T', F, ⟨HP.out.s2, HP.out.s1, HSS.out.ne.symm, HSS.out.g2, HSS.out.g1, HSS.out.n2, HSS.out.n1, HP.out.tl, HSS.out.fl, hE.1, hE.2.trans HSS.out.perm, HP.out.bel⟩⟩
          have s5 : IntKind.i64.wrap ((W : Int) * 2) = ((2 * W : Nat) : Int) := by rw [wrapi (by omega) (by omega)]; omega
          clear hE hlt hj hlo
          go_wp2_with fail
          go_step3
          exact ⟨rfl, ⟨2 * W, b2, c2, c2', b1, c1, c1', HE, _, _, _, _, _, _, _, _, _, _, _, _, _, _, _, _, _, _, _, _, _, _, _, _, _, _, _, _, _, _, _, _, _, _, _, _, _, _, _, _, _, _, _, _, _, _, _, _, _, _, _, _, rfl⟩, by simp [intO]; omega⟩
end Go.Proofs
end
