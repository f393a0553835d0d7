/-
  Texts of a proof over the translated program: proved evaluators and walks, part 10 of 13.
-/
import Derived.Test.YtlgabpcjhhihdaaDoorPartR9
import Derived.Below
import Derived.Deep.Cut
import Derived.Deep.RegionHeld3
import Derived.Deep.RegionWith
import Derived.Handy
import Derived.IntWalk
import Derived.Laws.AppendOwn
import Derived.Laws.Cells
import Derived.Laws.Concat
import Derived.Laws.CopyRow
import Derived.Laws.Externs
import Derived.Laws.IdiomStrings
import Derived.Laws.Strings
import Derived.Laws.Strings2
import Derived.Laws.Strings3
import Derived.Laws.StructEq
import Derived.Lib.AppendIntMem
import Derived.Lib.Builder
import Derived.Lib.Hide
import Derived.Lib.ItoaLen
import Derived.LoopTactic
import Derived.Outline
import Derived.OwnWalk
import Derived.ProofKit
import Derived.Scope
import Derived.ScopeJumps
import Derived.Shelf.LaysC
import Derived.Shelf.LaysM
import Derived.Shelf.Small.Strs
import Derived.Shelf.Small.Wraps
import Derived.Shelf.Strconv.Clone
import Derived.Shelf.Strconv.ErrVarParseInt
import Derived.Shelf.Strconv.Itoa0
import Derived.Shelf.Strconv.Itoa1
import Derived.Shelf.Strconv.Itoa2
import Derived.Shelf.Strconv.Itoa3
import Derived.Shelf.Strconv.Itoa4
import Derived.Shelf.Strconv.Lower
import Derived.Shelf.Strconv.ParseInt10
import Derived.Shelf.Strconv.ParseInt10All
import Derived.Shelf.Strconv.ParseInt10At16
import Derived.Shelf.Strconv.ParseInt10At32
import Derived.Shelf.Strconv.ParseInt10At64
import Derived.Shelf.Strconv.ParseInt10At8
import Derived.Shelf.Strconv.ParseIntEmpty
import Derived.Shelf.Strconv.ParseIntPublic10
import Derived.Shelf.Strconv.ParseUint10
import Derived.Shelf.Strconv.ParseUint10Any
import Derived.Shelf.Strconv.ParseUint10At
import Derived.Shelf.Strconv.ParseUint10Empty
import Derived.Shelf.Strconv.ParseUint10b16
import Derived.Shelf.Strconv.ParseUint10b32
import Derived.Shelf.Strconv.ParseUint10b64
import Derived.Shelf.Strconv.ParseUint10b8
import Derived.Shelf.Strconv.ParseUintEmpty
import Derived.Shelf.Strconv.RangeError
import Derived.Shelf.Strconv.SyntaxError
import Derived.Shelf.Strconv.ToError
import Derived.Shelf.Strconv.ToErrorRange
import Derived.Shelf.Strings.Builder1
import Derived.Shelf.Strings.BuilderF
import Derived.Shelf.Strings.BuilderK
import Derived.Shelf.Strings.Prefix
import Derived.Shelf.Strings.Search1
import Derived.Test.YtlgabpcjhhihdaaDoorProg
import Derived.WalkKit
import Derived.WalkMore
import Derived.WalkSpells
set_option linter.unusedVariables false
set_option linter.unusedSimpArgs false
set_option linter.unusedSectionVars false
set_option linter.unnecessarySimpa false
section
namespace Go.Proofs.YtlgabpcjhhihdaaDoor
open Go.RowKit Go.NW
set_option maxRecDepth 100000
def OB (w : World) (B : Nat) (v : Value) (l : List UInt8) : Prop := w.ownsRow B 5 1 v l.length (Lib.byteCells l)
theorem OB.str {w : World} {B : Nat} {v : Value} {l : List UInt8} (h : OB w B v l) : (∃ A c, v = .slice A l.length c) ∧ (convert 44 9 v).run Tryd.prog w = .ok (.string (bs l)) w := by
  have h0 : w.ownsRow B 5 1 v l.length (Lib.byteCells l) := h
  rcases h0.2 with ⟨rfl, hz⟩ | ⟨g, cap, cur, rfl, hb, hg, h1, h2, h3, h4⟩
  · obtain rfl := List.eq_nil_of_length_eq_zero hz
    refine ⟨⟨none, 0, rfl⟩, ?_⟩
    rw [run_convert_bytes_string w 44 9 5 none 0 0 Tryd.underlying44 Tryd.underlying5 Tryd.underlying9]
    rfl
  · refine ⟨⟨_, cap, rfl⟩, ?_⟩
    refine run_convert_bytes_back w 44 9 5 _ cap l Tryd.underlying44 Tryd.underlying5 Tryd.underlying9 fun j hj => ?_
    rw [Addr.add_lit, Nat.zero_add, h0.cellAt j (by omega)]
    simp [Lib.byteCells, List.getElem?_map, List.getElem?_eq_getElem hj]
theorem OB.push {w : World} {B : Nat} {v : Value} {X : List UInt8} {c : UInt8} (h : w.ownsRow B 5 1 v (X.length + 1) (Lib.byteCells X ++ [.int .u8 (c.toNat : Int)])) : OB w B v (X ++ [c]) := by
  unfold OB
  rw [← bc_snoc, List.length_append]
  exact h
set_option maxHeartbeats 4000000 in
theorem Tryd.rvalB (t : List UInt8) (hl : t.length < 2 ^ 39) (w : World) : Calls Tryd.prog 8 #[.string (bs (34 :: t))] w fun e w' => e = .returned (.tuple #[(pbytes t).1, .int .i64 (pbytes t).2]) ∧ Below w.heap.size w w' := by
  have hsc := storeC
  have hB' := bs_list
  have hG := bs_get
  have HB0 := Lib.hid ((Below.refl _ w).alloc (Nat.le_refl _) (.cells #[.int .i64 0, .int .i64 0, .string ⟨#[]⟩, .complex .f64 0 0] 29))
  have hcell0 := heap_alloc_new w (.cells #[.int .i64 0, .int .i64 0, .string ⟨#[]⟩, .complex .f64 0 0] 29)
  obtain ⟨n, hn⟩ : ∃ n, n = t.length := ⟨_, rfl⟩
  obtain ⟨L, hL⟩ : ∃ L, L = (34 : UInt8) :: t := ⟨_, rfl⟩
  have hLl : L.length = n + 1 := by rw [hL, hn]; rfl
  obtain ⟨m, hm⟩ : ∃ m, m = n + 1 := ⟨_, rfl⟩
  have hS1 : (bs L).size = m := by rw [bs_size, hLl, hm]
  have hL0 : ∀ h, L[0]'h = 34 := fun h => by subst hL; rfl
  have hL1 : (L == [45]) = false := by rw [hL]; simp
  have hL2 : (L == []) = false := by rw [hL]; rfl
  have hL3 : L.isEmpty = false := by rw [hL]; rfl
  have hm0 : 0 < m := by omega
  have HN := Lib.hid hn
  have HM := Lib.hid hm
  rw [← hn] at hl
  have hP : pbytes t = (if n % 2 = 0 then match unhex t with
    | none => (v0, 2)
    | some X => if X.length > 255 then (v0, 4) else (vS (bs X), 0)
  else (v0, 2) : Value × Int) := by rw [hn]; rfl
  have hmod : (m : Int).tmod 2 = ((m % 2 : Nat) : Int) := by rw [Int.tmod_eq_emod_of_nonneg (by omega)]; rfl
  have hLg : ∀ k y, t[k]? = some y → L[k + 1]? = some y := fun k y h => by rw [hL]; simpa using h
  have HLG := Lib.hid hLg
  rw [← hL]
  clear hL hLl hLg
  by_cases hodd : n % 2 = 0
  · rw [if_pos hodd] at hP
    have t0 : ((m : Int) % 2) = 1 := by omega
    have HP := Lib.hid hP
    have HO := Lib.hid hodd
    generalize pbytes t = R at HP ⊢
    clear hP hodd hn hm
    go_enter Tryd.func8, Tryd.ntmps8
    go_wp2_with fail
    clear hmod t0 hL0 hL1 hL2 hL3
    obtain ⟨ii, hi0, hz0, hz1, hz2⟩ := info_parts Tryd.Builder_Extra_169.infoByte
    obtain ⟨wa, hwa⟩ : ∃ wa, wa = w.alloc (.cells #[.int .i64 0, .int .i64 0, .string ⟨#[]⟩, .complex .f64 0 0] 29) := ⟨_, rfl⟩
    rw [← hwa] at HB0 hcell0 ⊢
    have hsz : wa.heap.size = w.heap.size + 1 := by rw [hwa]; simp
    have HSZ := Lib.hid hsz
    have HC0 := Lib.hid hcell0
    clear hwa hcell0 hsz
    go_loopw [4, 5] (fun t4 t5 W => ∃ (k : Nat) (X : List UInt8) (v : Value), 2 * k ≤ n ∧ v = t4 ∧ t5 = .int .i64 ((1 + 2 * k : Nat) : Int) ∧ Hid (unhex (t.take (2 * k)) = some X) ∧ Hid (OB W (w.heap.size + 1) v X) ∧ Hid (Below (w.heap.size + 1) wa W)) (fun _ t5 _ => m - (intO t5).toNat)
    case atStart => exact ⟨0, [], _, Nat.zero_le _, rfl, rfl, Lib.hid (by simp [unhex]), Lib.hid ⟨by simp [Lib.byteCells], .inl ⟨rfl, rfl⟩⟩, Lib.hid (Below.refl _ _)⟩
    case round =>
      rename World => W
      obtain ⟨k, X, v, hk, rfl, rfl, HX, HOB, HB⟩ := hrel
      obtain ⟨i, hi⟩ : ∃ i, i = 1 + 2 * k := ⟨_, rfl⟩
      have hcell : W.heap[w.heap.size]? = some (.cells #[.int .i64 0, .int .i64 0, .string ⟨#[]⟩, .complex .f64 0 0] 29 (0, 0)) := (HB.out.block _ (Nat.lt_succ_self _)).trans HC0.out
      have HBW : Hid (Below w.heap.size w W) := Lib.hid (HB0.out.trans (HB.out.mono (Nat.le_succ _)))
      have HBL : Hid (w.heap.size + 1 ≤ W.heap.size) := Lib.hid (by have := HB.out.size; have := HSZ.out; omega)
      have HXL := Lib.hid (unhex_len _ _ HX.out)
      rw [← hi]
      have HI2 := Lib.hid hi
      by_cases hlt : i < m
      · have hk1 : 2 * k < n := by have := HM.out; omega
        have hk2 : 2 * k + 1 < n := by have := HO.out; omega
        have t1 : decide ((i : Int) < m) = true := decide_eq_true (by omega)
        have t2 : decide (i < m) = true := decide_eq_true hlt
        obtain ⟨y1, HY1⟩ : ∃ y, Hid (t[2 * k]? = some y) := ⟨_, Lib.hid (List.getElem?_eq_getElem (by rw [← HN.out]; exact hk1))⟩
        obtain ⟨y2, HY2⟩ : ∃ y, Hid (t[2 * k + 1]? = some y) := ⟨_, Lib.hid (List.getElem?_eq_getElem (by rw [← HN.out]; exact hk2))⟩
        have hy1 : ∀ h, L[i]'h = y1 := fun h => by
          have := HLG.out _ _ HY1.out
          rw [show 2 * k + 1 = i from by omega] at this
          exact (List.getElem?_eq_some_iff.1 this).2
        have hy2 : ∀ h, L[i + 1]'h = y2 := fun h => by
          have := HLG.out _ _ HY2.out
          rw [show 2 * k + 1 + 1 = i + 1 from by omega] at this
          exact (List.getElem?_eq_some_iff.1 this).2
        have z0 : (i : Int) < m := by omega
        have z1 : (i : Int) + 1 < m := by have := HM.out; omega
        have z2 : i + 1 < m := by omega
        have hw1 : IntKind.i64.wrap ((i : Int) + 1) = (i : Int) + 1 := by rw [IntKind.wrap_i64]; omega
        have hw2 : ((i : Int) + 1).toNat = i + 1 := by omega
        have hw3 : (0 : Int) ≤ (i : Int) + 1 := by omega
        have hw7 : IntKind.i64.wrap ((i : Int) + 2) = ((1 + 2 * (k + 1) : Nat) : Int) := by rw [IntKind.wrap_i64]; omega
        clear hi hlt
        go_wp2_with fail
        refine (Tryd.rhex y1 _).mono ?_
        rintro e w1 ⟨rfl, rfl⟩
        obtain ⟨p, hp⟩ : ∃ p, hv y1 = p := ⟨_, rfl⟩
        obtain ⟨q, hq⟩ : ∃ q, hv y2 = q := ⟨_, rfl⟩
        rw [hp]
        have hp2 := hv_range y1
        have hq2 := hv_range y2
        rw [hp] at hp2
        rw [hq] at hq2
        have HPQ := Lib.hid (And.intro hp hq)
        clear hp hq
        go_wp2_with fail
        refine (Tryd.rhex y2 _).mono ?_
        rintro e w1 ⟨rfl, rfl⟩
        rw [HPQ.out.2]
        by_cases hp0 : p < 0
        · have d1 : decide (p < 0) = true := decide_eq_true hp0
          have hR := HP.out
          rw [unhex_bad t k y1 y2 HY1.out HY2.out (.inl (by rw [HPQ.out.1]; exact hp0))] at hR
          subst hR
          clear HP
          go_wp2_with (refine nw_store_row _ rfl 29 (.tmp 2) (.tmp 47) rfl w.heap.size 29 (cells4 0 0 ⟨#[]⟩ 0 0) zero4 rfl rfl hcell rfl (Tryd.size29 _ rfl) (one4 _ _ _ _ _) ?_)
          refine bodyPost_ret (v := .tuple #[v0, .int .i64 2]) (nw_results (show Tryd.f8.results = #[.cell 2 29, .tmp 3] from rfl) _ _ w.heap.size 29 (cells4 0 0 ⟨#[]⟩ 0 0) _ rfl (setRow_heap' _ _ _ _ _ hcell) (Tryd.size29 _ rfl) Tryd.st29) rfl ⟨rfl, below_setRow HBW.out (Nat.le_refl _) _⟩
        · have d1 : decide (p < 0) = false := decide_eq_false hp0
          by_cases hq0 : q < 0
          · have d2 : decide (q < 0) = true := decide_eq_true hq0
            have hR := HP.out
            rw [unhex_bad t k y1 y2 HY1.out HY2.out (.inr (by rw [HPQ.out.2]; exact hq0))] at hR
            subst hR
            clear HP
            go_wp2_with (refine nw_store_row _ rfl 29 (.tmp 2) (.tmp 47) rfl w.heap.size 29 (cells4 0 0 ⟨#[]⟩ 0 0) zero4 rfl rfl hcell rfl (Tryd.size29 _ rfl) (one4 _ _ _ _ _) ?_)
            refine bodyPost_ret (v := .tuple #[v0, .int .i64 2]) (nw_results (show Tryd.f8.results = #[.cell 2 29, .tmp 3] from rfl) _ _ w.heap.size 29 (cells4 0 0 ⟨#[]⟩ 0 0) _ rfl (setRow_heap' _ _ _ _ _ hcell) (Tryd.size29 _ rfl) Tryd.st29) rfl ⟨rfl, below_setRow HBW.out (Nat.le_refl _) _⟩
          · have d2 : decide (q < 0) = false := decide_eq_false hq0
            obtain ⟨P, hP16, rfl⟩ : ∃ P : Nat, P < 16 ∧ p = P := by
              rcases hp2 with h | ⟨P, h1, h2⟩
              · omega
              · exact ⟨P, h1, h2⟩
            obtain ⟨Q, hQ16, rfl⟩ : ∃ P : Nat, P < 16 ∧ q = P := by
              rcases hq2 with h | ⟨P, h1, h2⟩
              · omega
              · exact ⟨P, h1, h2⟩
            have HMORE := Lib.hid (unhex_more t k y1 y2 X HY1.out HY2.out (by rw [HPQ.out.1, HPQ.out.2]; omega) HX.out)
            obtain ⟨s, hs⟩ : ∃ s : Nat, s = 16 * P := ⟨_, rfl⟩
            obtain ⟨z, hz⟩ : ∃ z : Nat, z = s + Q := ⟨_, rfl⟩
            have HZ : Hid ((byteOf y1 y2).toNat = z) := Lib.hid (by
              unfold byteOf
              rw [HPQ.out.1, HPQ.out.2, UInt8.toNat_ofNat', hz, hs]
              show (P * 16 + Q) % 256 = _
              omega)
            have hw4 : IntKind.i64.wrap (16 * (P : Int)) = (s : Int) := by rw [IntKind.wrap_i64]; omega
            have hw5 : IntKind.i64.wrap ((s : Int) + (Q : Int)) = (z : Int) := by rw [IntKind.wrap_i64]; omega
            have hw6 : IntKind.u8.wrap (z : Int) = (z : Int) := by rw [IntKind.wrap_u8]; omega
            have OA := Lib.hid ((show W.ownsRow (w.heap.size + 1) 5 1 v X.length (Lib.byteCells X) from HOB.out).alloc (.cells #[.int .u8 (z : Int)] 5))
            have BA := Lib.hid (HB.out.alloc HBL.out (.cells #[.int .u8 (z : Int)] 5))
            have HXN : Hid (X.length < 2 ^ 39) := Lib.hid (by have := HXL.out; rw [List.length_take] at this; omega)
            clear hp2 hq2 hs hz hp0 hq0 hP16 hQ16
            go_wp2_with (at_builtin; refine wpList_append_own _ rfl (.tmp 48) (.tmp 54) 44 rfl (w.heap.size + 1) 5 ii (.int .u8 0) 1 1 Tryd.underlying44 hi0 hz0 hz1 hz2 rfl (by decide) _ _ _ rfl (OA.out) ⟨W.heap.size, 0, none⟩ 1 1 [.int .u8 (z : Int)] rfl rfl ?c1 ?c2 ?c3 ?c4 ?c5 ?c6)
            case c1 =>
              intro j u hj
              match j, hj with
              | 0, hj => simp at hj; subst hj; simp [Addr.add]
            case c2 => intro u hu; simp at hu; subst hu; rfl
            case c3 => have := HXN.out; unfold maxLen; omega
            case c4 => have := HXN.out; omega
            case c5 => have := HBL.out; simp; omega
            case c6 =>
              intro v' w2 hown' hgrow _
              have HB2 : Hid (Below (w.heap.size + 1) wa w2) := Lib.hid (BA.out.grown hgrow (by have := HBL.out; simp; omega) (fun k hk => (OA.out.lt k hk).1))
              have HO2 : Hid (OB w2 (w.heap.size + 1) v' (X ++ [byteOf y1 y2])) := Lib.hid (OB.push (by rw [HZ.out]; exact hown'))
              clear hown' hgrow
              go_wp2_with fail
              exact ⟨⟨k + 1, X ++ [byteOf y1 y2], _, by omega, rfl, by first | rfl | trivial, HMORE, HO2, HB2⟩, by have := HI2.out; simp [intO]; omega⟩
      · have hkn : 2 * k = n := by have := HM.out; have := HO.out; omega
        have t1 : decide ((i : Int) < m) = false := decide_eq_false (by omega)
        have t2 : decide (i < m) = false := decide_eq_false (by omega)
        have hR := HP.out
        have hX := HX.out
        rw [show t.take (2 * k) = t by rw [hkn, HN.out, List.take_length]] at hX
        rw [hX] at hR
        dsimp only at hR
        obtain ⟨⟨A, c, rfl⟩, hstr⟩ := HOB.out.str
        have HR2 := Lib.hid hR
        obtain ⟨N, hN⟩ : ∃ N, X.length = N := ⟨_, rfl⟩
        rw [hN] at HR2 hstr ⊢
        have HSTR : Hid ((convert 44 9 (.slice A N c)).run Tryd.prog W = .ok (.string (bs X)) W) := Lib.hid hstr
        clear hR hX HP HX hi hN hkn hlt hstr
        by_cases hbig : N > 255
        · have d1 : decide ((N : Int) > 255) = true := decide_eq_true (by omega)
          have d2 : decide (255 < N) = true := decide_eq_true (by omega)
          have hR := HR2.out
          rw [if_pos hbig] at hR
          subst hR
          clear HR2
          go_wp2_with (refine nw_store_row _ rfl 29 (.tmp 2) (.tmp 59) rfl w.heap.size 29 (cells4 0 0 ⟨#[]⟩ 0 0) zero4 rfl rfl hcell rfl (Tryd.size29 _ rfl) (one4 _ _ _ _ _) ?_)
          refine bodyPost_ret (v := .tuple #[v0, .int .i64 4]) (nw_results (show Tryd.f8.results = #[.cell 2 29, .tmp 3] from rfl) _ _ w.heap.size 29 (cells4 0 0 ⟨#[]⟩ 0 0) _ rfl (setRow_heap' _ _ _ _ _ hcell) (Tryd.size29 _ rfl) Tryd.st29) rfl ⟨rfl, below_setRow HBW.out (Nat.le_refl _) _⟩
        · have d1 : decide ((N : Int) > 255) = false := decide_eq_false (by omega)
          have d2 : decide (255 < N) = false := decide_eq_false (by omega)
          have hR := HR2.out
          rw [if_neg hbig] at hR
          subst hR
          clear HR2
          have hstr := HSTR.out
          go_wp2_with (refine nw_store_row _ rfl 29 (.tmp 2) (.tmp 62) rfl w.heap.size 29 (cells4 2 0 (bs X) 0 0) zero4 rfl rfl hcell rfl (Tryd.size29 _ rfl) (one4 _ _ _ _ _) ?_)
          refine bodyPost_ret (v := .tuple #[vS (bs X), .int .i64 0]) (nw_results (show Tryd.f8.results = #[.cell 2 29, .tmp 3] from rfl) _ _ w.heap.size 29 (cells4 2 0 (bs X) 0 0) _ rfl (setRow_heap' _ _ _ _ _ hcell) (Tryd.size29 _ rfl) Tryd.st29) rfl ⟨rfl, below_setRow HBW.out (Nat.le_refl _) _⟩
  · rw [if_neg hodd] at hP
    have t0 : ((m : Int) % 2) = 0 := by omega
    rw [hP]
    clear hP hodd hn hm
    go_enter Tryd.func8, Tryd.ntmps8
    go_wp2_with (refine nw_store_row _ rfl 29 (.tmp 2) (.tmp 25) rfl w.heap.size 29 (cells4 0 0 ⟨#[]⟩ 0 0) zero4 rfl rfl hcell0 rfl (Tryd.size29 _ rfl) (one4 _ _ _ _ _) ?_)
    refine bodyPost_ret (v := .tuple #[v0, .int .i64 2]) (nw_results (show Tryd.f8.results = #[.cell 2 29, .tmp 3] from rfl) _ _ w.heap.size 29 (cells4 0 0 ⟨#[]⟩ 0 0) _ rfl (setRow_heap' _ _ _ _ _ hcell0) (Tryd.size29 _ rfl) Tryd.st29) rfl ⟨rfl, below_setRow HB0.out (Nat.le_refl _) _⟩
end Go.Proofs.YtlgabpcjhhihdaaDoor
end
